import PyProof.Rows.All
import Wide.All
import OpenK.AllK
import Wide.FinOn
import HandS.ForMost
import HandS.IsInst
import HandS.Wide
import HandS.WideBits
import HandS.EndBits
import HandS.Style
import HandS.RaiseMore
import PyProof.ReprRoads
import PyProof.ListStr
import HandS.ForExc
import HandS.Exc
import HandS.ExcIs
import HandS.CallSlots
import HandS.HotCalls
import HandS.Defaults
import HandS.MakeKw
import HandS.MakeKwOnly
import HandS.Nested
import HandS.ExcInit
import KE.KExcSuper
import HandS.ExcField
import HandS.FStr
import HandS.Words
import KE.KExcIs
import HandS.Walk
import HandS.Flow
import HandS.Zip
import PyProof.EqKinds
import PyProof.NeKinds
import KE.KFmtOwn
import HandS.OwnEq
import KE.DatumOrd
import HandS.FStrTup
import KE.DataMinMax
import HandS.TupMul
import HandS.More
import HandS.DictComp
import HandS.Sort
import HandS.Finally
import HandS.Conv
import PyProof.ListRange
import PyProof.TupleOfStr
import KE.KDictDisplayH
import HandS.MapJoin
import HandS.RevTup
import HandS.Rev
import HandS.SetTxtIn
import PyProof.StrLawsIn
import PyProof.DictUpdate
import HandS.Strs
import HandS.SetKeys
import HandS.Lambda
import KE.SortKeyHeap
import PyProof.TupleOfSeq
import HandS.SetFor
import KE.KDictZip
import HandS.GenList
import PyProof.Rows.SortShellAny
import PyProof.ReprLen
import HandS.EndTab
import HandS.Deep
import HandS.Small
import HandS.BoundList
import PySem.Challenge.RW_lightturns_k74_owed_refused
import HandS.Codes
import HandS.ExcOwn
import KE.SortData
set_option Elab.async false
set_option linter.all false
set_option maxRecDepth 100000
/-! Own layer: defs called where no repr is under way (FnG), repr of data, the end of a law by such a def. -/
namespace LT
open PySem PySem.Spec PyProof.Rows L2
structure FnG (P : Program) (w : World) (K : PySem.W.Frag) (mg : Str → Option Value) (base : Heap)
    (CX : CXT) (k : Nat) (f : Addr) (fd : FuncData) (ps : List Str) (sp : Sp) : Prop where
  argc : ∀ {vs : List V} {H : Hp} {Q : VK} {E : XK}, sp vs H Q E → vs.length = ps.length
  go : ∀ {A : Around} {outer : List Env} {s : Shared} {H : Hp} {args : Args} {us : List Value} {vs : List V}
    {Q : VK} {E : XK}, A.guards = some [] → Room k A → Env0 P w K mg base A outer s H →
    BindsTo s fd args (ps.zip us) → Vals vs us → sp vs H Q E →
    codeAny (model P w) A (.call (.ref f) args) (CR CX outer P w H s Q E) s
section
variable {P : Program} {w : World} {K : PySem.W.Frag} {mg : Str → Option Value} {base : Heap}
theorem FnG.of {CX : CXT} {k : Nat} {f : Addr} {fd : FuncData} {ps : List Str} {sp : Sp}
    (F : FnOk P w K mg base CX k f fd ps sp) : FnG P w K mg base CX k f fd ps sp :=
  ⟨fun h => F.len _ _ _ _ h, fun _ hr e b v h => F.run _ _ _ _ _ _ _ _ _ hr e b v h⟩
theorem okG {x qual : Str} {st : Stmt} {f : Addr} {fd : FuncData} {N ps : List Str} {k : Nat} {sp : Sp}
    (F : Fun K x qual st f fd) (S : FnScope N ps (defScope st))
    (argc : ∀ {vs : List V} {H : Hp} {Q : VK} {E : XK}, sp vs H Q E → vs.length = ps.length)
    (body : ∀ (cdv : Value) (A : Around) (outer : List Env) (s : Shared) (H : Hp) (vs : List V) (Q : VK) (E : XK),
      A.guards = some [] → Room k (A.deeper (envOfC qual (defScope st) s.heap.objs.size f cdv)) → sp vs H Q E →
      ∃ t, PSs (cxOf CX0 P w K mg base N qual (defScope st) f cdv A outer s H E).nox (defBody st) t ∧
        t { nx := fun _ H' => Q .non H', rt := Q } (start N vs) H) :
    FnG P w K mg base CX0 (k + 1) f fd ps sp := by
  obtain ⟨oc, od, kV, doc, pm, an, cdv, ct, osl, rfl, lk, hcd⟩ := F.ex
  refine ⟨argc, ?_⟩
  intro A outer s H args us vs Q E hg hr e0 hb r hsp
  have inS : ∀ b o, base.get? b = some o → s.heap.get? b = some o := fun b o e => (e0.bs b o e).1
  have KX : K.In s.heap := e0.mod.kin.keeps inS
  have hkind : ∀ y ∈ ps.zip us, (defScope st).names.lookup y.1 = some .local ∨
      ((defScope st).names.lookup y.1 = some .cell ∧
        ((cellsFrom (s.heap.objs.size + 1) (defScope st).names []).lookup y.1).isSome = true) := by
    rintro ⟨n, v⟩ hy
    rcases S.par n (List.of_mem_zip hy).1 with q | q
    · exact Or.inl q
    · exact Or.inr ⟨q, PySem.W.cellsFrom_some _ _ _ (Or.inl q)⟩
  refine codeAny_call_function hr.depth (KX _ _ lk) rfl S.co S.gen rfl (PySem.W.codeRec_of KX hcd)
    (hb _ _ _ _ (wpAny_newFunctionEnv_cells S.kind hkind fun env he s1 x => ?_))
  subst he
  refine ⟨(e0.mod.nolimit.keeps inS).keeps x.toInCall.keep, codeAny_func ?_⟩
  obtain ⟨t, ht, hq⟩ := body cdv A outer s H vs Q E hg (hr.deeper _) hsp
  have I := inv_start (CX := CX0) (N := N) (qual := qual) (f := f) (cd := cdv) (E := E) S hr.hd e0 (argc hsp) r x
  refine wpAny_mono (ht.nox.run [] s1 (start N vs) H _ I hq) (fun fl s' hs => ?_) (fun e s' hs => hs)
  cases fl with
  | brk => obtain ⟨_, _, _, q⟩ := hs; exact q.elim
  | cont => obtain ⟨_, _, _, q⟩ := hs; exact q.elim
  | next =>
    obtain ⟨σ', H', J, q⟩ := hs
    exact ⟨V.non, H', J.os, J.bare, J.base, J.hok, rfl, q⟩
  | ret u =>
    obtain ⟨v, σ', H', J, rv, q⟩ := hs
    exact ⟨v, H', J.os, J.bare, J.base, J.hok, rv, q⟩
end
/-! ### the call of such a def -/
/-! ### repr of data -/
inductive Sh (K : PySem.W.Frag) (H : Hp) : V → PyData → Prop
  | dp {v : V} {d : PyData} : Dp K H v d → d.hasDict = false → Sh K H v d
  | one {a : Addr} {k : Str} {i : Int} : H a = some (.dK [(.inr k, .int i)]) → Sh K H (.ref a) (.dict [(.str k, .int i)])
section
variable {X : Cx} {pins : List (Addr × Obj)} {σ : L2.St} {H : Hp} {s : Shared}
theorem Sh.reads (I : Inv X pins σ H s) {v : V} {d : PyData} {u : Value} (h : Sh X.K H v d) (r : RelV v u) :
    ∃ as, Reads s.heap u d as ∧ (d.hasDict = true → sysModules ∉ as) := by
  cases h with
  | dp h hd =>
    obtain ⟨as, q⟩ := Dp.reads I d v u h r
    exact ⟨as, q, PyData.noDict_hsm hd⟩
  | one h =>
    rename_i a k i
    cases r
    obtain ⟨_, hs, vs, rel, o, es, ep, ho, hx, hd, hko, hp, hn⟩ := I.hok a _ h
    cases rel with
    | cons r1 r2 =>
      cases r2
      rename_i kv
      obtain ⟨kk, uu⟩ := kv
      obtain ⟨e1, t, e2⟩ := r1
      cases e1
      cases e2
      generalize hes : es.toList = l at hp
      cases hp with
      | cons k1 k2 k3 =>
        cases k3
        rename_i e
        have k0 : keyIs (Sum.inr k) e.key = true := k1
        obtain ⟨_, _, z, _⟩ | ⟨y, t', z, e3⟩ := keyIs_shape k0
        · cases z
        · cases z
          refine ⟨_, Reads.dict (as := []) (bs := []) ho hx.1 hd ?_ ?_, fun _ z => ?_⟩
          · rw [hes, List.map_cons, List.map_nil, e3]
            exact ReadsAll.cons (Reads.str _ _) .nil
          · rw [hes, List.map_cons, List.map_nil, k2]
            exact ReadsAll.cons (Reads.int _ _) .nil
          · have z2 : sysModules = a := by simpa using z
            rw [z2] at hs
            simp at hs
end
/-! ### text * number, list(text) -/
/-! ### the end of a law whose def wants that no repr is under way -/
end LT
set_option Elab.async false
set_option linter.all false
set_option maxRecDepth 100000
/-! Own layer: a def to which the caught error is handed; isinstance of it there. -/
namespace LT
open PySem PySem.Spec PyProof.Rows L2
/-! ### isinstance of the pinned error -/
section
variable {X : Cx} {a D : Addr} {oe : Obj}
theorem pinned_at {pins : List (Addr × Obj)} {σ : L2.St} {H : Hp} {s : Shared} (I : Inv X pins σ H s) (hp : (a, oe) ∈ X.pn) (hz : Zc (.ref D) none oe)
    (hf : ∃ vs, oe.data = .fields vs) : PySem.W.InstAt s.heap a oe D none := by
  obtain ⟨hget, _⟩ := I.pin (a, oe) (List.mem_append_left _ hp)
  obtain ⟨vs, hv⟩ := hf
  obtain ⟨oc, od, oda, osl⟩ := oe
  obtain ⟨h1, h2⟩ := hz
  dsimp only at h1 h2 hv
  subst h1 h2 hv
  exact ⟨hget, rfl, rfl, trivial⟩
end
end LT
set_option Elab.async false
set_option linter.all false
set_option maxRecDepth 100000
set_option maxHeartbeats 1600000
/-! an own error whose __init__ begins with super().__init__(..): the def by its body -/
namespace LT
open PySem PySem.Spec PyProof.Rows L2 NdefX
/-- what the written part says of it -/
structure SupC (K : PySem.W.Frag) (prog : Program) (mg : Str → Option Value) (C cc : Addr) (F : NF) (ar : Arg) : Prop where
  oex : OexC K C
  cl : F.cl = [(("__class__" : Str), cc)]
  cell : ∃ a b c, K.lookup cc = some ⟨a, b, .cell (some (.ref C)), c⟩
  file : ∃ (a : Value) (b : Option Addr) (vs : Array Value) (c : Array (Option Value)) (fl : Str) (tf : Tok), K.lookup F.c = some ⟨a, b, .fields vs, c⟩ ∧ vs[2]? = some (.str fl tf) ∧ ((prog.main.file : Str) == fl) = true
  hsub : PySem.W.mroIn K C (.ref C) = some true
  sup : PySem.W.ks_superIn K C C "__init__" = some (some (.builtin "ValueError.__init__"))
  sB : PySem.W.subIn K (.ref C) (.type "ValueError") = some true
  op : PySem.W.nsIn K cStatics "thirdparty.any" = some none
  hp : (F.params.posonlyargs ++ F.params.args).head? = some ar
  cd : PySem.W.codeIn K (.ref F.c) F.qual = true
  ks : F.scope.names.lookup ("super" : Str) = some .globalImplicit
  top : (prog.main.scope.names.lookup ("super" : Str)).isSome = false
  ms : mg "super" = none
end LT
set_option Elab.async false
set_option linter.all false
set_option maxRecDepth 100000
set_option maxHeartbeats 1600000
/-! Own layer: a def to which a caught error with a field is handed: isinstance of it, its field; repr of lists of data; the __init__ of such errors. -/
namespace LT
open PySem PySem.Spec PyProof.Rows L2 NdefX
section
variable {X : Cx} {a D dd : Addr} {oe : Obj} {fs : List (Str × V)}
theorem pinned_dd {pins : List (Addr × Obj)} {σ : L2.St} {H : Hp} {s : Shared} (I : Inv X pins σ H s) (hp : (a, oe) ∈ X.pn) (hz : Zc (.ref D) (some dd) oe)
    (hf : ∃ vs, oe.data = .fields vs) (hd : H dd = some (.xd fs)) : ∃ od, PySem.W.InstAt s.heap a oe D (some od) := by
  obtain ⟨hget, _⟩ := I.pin (a, oe) (List.mem_append_left _ hp)
  obtain ⟨vs, hv⟩ := hf
  have hx : ObjOk X.prog X.w H s.heap dd (.xd fs) := I.hok dd _ hd
  obtain ⟨mA, hns, hr⟩ := hx
  obtain ⟨od, ho, hl⟩ := lookIn_ns hns
  exact ⟨od, hget, hz.1, by unfold PySem.W.notCls; rw [hv] <;> rfl, by rw [hz.2]; exact ho⟩
theorem cls_some {K : PySem.W.Frag} {D : Addr} (h : PySem.W.hasDictIn K D = true) : (PySem.W.clsIn K D).isSome = true := by
  obtain ⟨cd, hc, _⟩ := PySem.W.any_some h
  rw [hc]
  rfl
end
/-! ### an own error's __init__(self, field): super().__init__(f".. {field}"); self.field = field -/
abbrev nfI (st : Stmt) (qual : Str) (cc c : Addr) : NF := ⟨"__init__", qual, defArgs st, defBody st, defScope st, [(("__class__" : Str), cc)], c⟩
abbrev arI (st : Stmt) : Arg := ((defArgs st).posonlyargs ++ (defArgs st).args).head!
abbrev LkI (K : PySem.W.Frag) (F : NF) (f : Addr) (fd : FuncData) : Prop := ∃ (oc : Value) (od : Option Addr) (dV kV doc pm : Value) (an : Option Addr) (ct : Value) (osl : Array (Option Value)), fd = PySem.W.fnX F.name F.qual F.params F.body F.scope F.cl dV kV doc pm an (.ref F.c) ct ∧ K.lookup f = some ⟨oc, od, .func fd, osl⟩
/-! ### repr of a list of data, among them dicts without entries -/
inductive Sd (K : PySem.W.Frag) (H : Hp) : V → PyData → Prop
  | dp {v : V} {d : PyData} : Dp K H v d → d.hasDict = false → Sd K H v d
  | ed {a : Addr} : H a = some (.dK []) → Sd K H (.ref a) (.dict [])
theorem Sd.mono {K : PySem.W.Frag} {H H' : Hp} {v : V} {d : PyData} (s : Same H H') (h : Sd K H v d) (hm : Dp K H v d → Dp K H' v d) : Sd K H' v d := by
  cases h with
  | dp h hd => exact .dp (hm h) hd
  | ed h => exact .ed (s _ _ h)
section
variable {X : Cx} {pins : List (Addr × Obj)} {σ : L2.St} {H : Hp} {s : Shared}
theorem Sd.reads (I : Inv X pins σ H s) {v : V} {d : PyData} {u : Value} (h : Sd X.K H v d) (r : RelV v u) :
    ∃ as, Reads s.heap u d as ∧ (d.hasDict = true → sysModules ∉ as) := by
  cases h with
  | dp h hd =>
    obtain ⟨as, q⟩ := Dp.reads I d v u h r
    exact ⟨as, q, PyData.noDict_hsm hd⟩
  | ed h =>
    rename_i a
    cases r
    obtain ⟨_, hs, vs, rel, o, es, ep, ho, hx, hd, hko, hp, hn⟩ := I.hok a _ h
    cases rel
    generalize hes : es.toList = l at hp
    cases hp
    refine ⟨_, Reads.dict (as := []) (bs := []) (kvs := []) ho hx.1 hd ?_ ?_, fun _ z => ?_⟩
    · rw [hes]; exact .nil
    · rw [hes]; exact .nil
    · have z2 : sysModules = a := by simpa using z
      rw [z2] at hs
      simp at hs
theorem Sd.all (I : Inv X pins σ H s) : ∀ {vs : List V} {ds : List PyData} {us : List Value}, Paired (Sd X.K H) vs ds → Vals vs us → PyData.showableAll ds = true → (∀ t ∈ PyData.shownAll ds, t.length ≤ sizeLine) →
    ∃ as bs, ReadsAll s.heap us ds as ∧ ReadAtMost s.heap (PyData.depthAll ds) bs ∧ ReprAllK X.prog X.w bs s.heap (PyData.depthAll ds) us (PyData.shownAll ds)
  | _, _, _, .nil, r, _, _ => by
    cases r
    exact ⟨_, [], .nil, (fun _ h => nomatch h), by simp only [PyData.shownAll]; exact .nil⟩
  | _ :: _, d :: ds, _, .cons h hs, r, sh, hz => by
    cases r with
    | cons r1 r2 =>
      have sh' : d.showable = true ∧ PyData.showableAll ds = true := by simpa [PyData.showableAll] using sh
      obtain ⟨as, q1, n1⟩ := h.reads I r1
      obtain ⟨b1, hb1, k1⟩ := ReprK.of_reads (prog := X.prog) (w := X.w) q1 sh'.1 n1 (hz _ (by simp only [PyData.shownAll]; exact List.mem_cons_self ..))
      obtain ⟨bs, b2, q2, hb2, k2⟩ := Sd.all I hs r2 sh'.2 (fun t ht => hz t (by simp only [PyData.shownAll]; exact List.mem_cons_of_mem _ ht))
      refine ⟨_, b1 ++ b2, .cons q1 q2, ?_, ?_⟩
      · simp only [PyData.depthAll]
        exact (hb1.mono (Nat.le_max_left _ _)).append (hb2.mono (Nat.le_max_right _ _))
      · simp only [PyData.depthAll, PyData.shownAll]
        exact .cons ((k1.more fun b hb => List.mem_append_left _ hb).level_le (Nat.le_max_left _ _)) (k2.more_le (fun b hb => List.mem_append_right _ hb) (Nat.le_max_right _ _))
theorem call_reprSd (hG : X.A.guards = some []) (hu : X.A.units + 64 < cLine) : CallR X (.builtin "repr")
    (fun xs H Q => ∃ l vs ds, xs = [.ref l] ∧ SqL X.K H l vs ∧ Paired (Sd X.K H) vs ds ∧ (PyData.list ds).showable = true ∧ (PyData.list ds).depth ≤ 60 ∧ (PyData.list ds).shown.length ≤ sizeLine ∧
      Q (.str (PyData.list ds).shown) H) := by
  intro pins s σ H xs us Q I r h
  obtain ⟨l, vs, ds, rfl, hl, hs, sh, dp, sz, q⟩ := h
  obtain ⟨u, rfl, ru⟩ := vals1 r
  cases ru
  obtain ⟨its, rv, ⟨o, n, ho, hc, _, hd⟩, _⟩ := I.list hl
  have hz' : (listText (PyData.shownAll ds)).length ≤ sizeLine := by simpa only [PyData.shown] using sz
  obtain ⟨as, bs, rd, hb, hk⟩ := Sd.all I hs rv (by simpa [PyData.showable] using sh) (fun t ht => Nat.le_trans (listText_mem_le ht) hz')
  have hna : l ∉ bs := not_mem_of_deeper (.list ho hc hd rd) (by simp only [PyData.depth]; omega) hb
  have dp2 : PyData.depthAll ds + 1 ≤ 60 := by simpa only [PyData.depth] using dp
  have q2 : Q (.str (listText (PyData.shownAll ds))) H := by simpa only [PyData.shown] using q
  refine call_repr_slot (by omega) (show s.TypeIs (.ref l) "list" from ⟨o, ho, hc⟩) F.slot_list_repr.toG ?_
  cases its with
  | nil =>
    cases rd
    simp only [PyData.shownAll, listText_nil] at q2
    exact call_list_repr_empty ⟨o, ho, hc⟩ ho hd ⟨_, _, rfl, ⟨.str _, H, I.kept fun _ _ e => e, ⟨_, rfl⟩, q2⟩⟩
  | cons x l' =>
    exact call_list_reprK (A := X.A.in1) ho hc hd hna (by simpa using hk.length_eq) (fun i y e => hk.item i y (by simpa using e)) hG (fun b _ => Clear.nil b) (by show X.A.units + 1 + _ < cLine; omega) (fun _ _ e => e)
      (fun h' u tk hk' => ⟨_, _, rfl, ⟨.str _, H, I.kept hk', ⟨_, rfl⟩, q2⟩⟩) hz'
end
/-! ### keywords in any turn, no defaults -/
end LT
set_option Elab.async false
set_option linter.all false
set_option maxRecDepth 100000
/-! Own layer: shown texts have signs of the alphabet alone (strOk). -/
namespace LT
open PySem PySem.Spec PyProof.Rows L2
end LT
set_option Elab.async false
set_option linter.all false
set_option maxRecDepth 100000
set_option maxHeartbeats 1600000
/-! Own layer: what every law of this program wants: names of defs, things handed in, pots, heaps that grow. -/
namespace LT
open PySem PySem.Spec PyProof.Rows L2 NdefX
/-- names that are still the built-in ones -/
structure Tx (mg : Str → Option Value) : Prop where
  isi : mg "isinstance" = none
  int : mg "int" = none
  bool : mg "bool" = none
  len : mg "len" = none
  abs : mg "abs" = none
  max : mg "max" = none
  min : mg "min" = none
  divmod : mg "divmod" = none
  range : mg "range" = none
  repr : mg "repr" = none
  zip : mg "zip" = none
  ve : mg "ValueError" = none
  all : mg "all" = none
  any : mg "any" = none
  sum : mg "sum" = none
  sorted : mg "sorted" = none
  list : mg "list" = none
  tuple : mg "tuple" = none
  dict : mg "dict" = none
  enumerate : mg "enumerate" = none
  reversed : mg "reversed" = none
  str : mg "str" = none
  set : mg "set" = none
/-- a def that stands as a name of the module -/
structure Has (K : PySem.W.Frag) (mg : Str → Option Value) (x : Str) (ps : List Str) (st : Stmt) (f : Addr) (fd : FuncData) : Prop where
  fn : Fun K x x st f fd
  bd : L2.Binds K fd ps []
  gl : mg x = some (.ref f)
/-- a method of the class at C -/
structure Mth (K : PySem.W.Frag) (C : Addr) (m q : Str) (ps : List Str) (st : Stmt) (f : Addr) (fd : FuncData) : Prop where
  fn : Fun K m q st f fd
  bd : L2.Binds K fd ps []
  me : Meth K C m f
/-- what is handed in -/
inductive Odd (H : Hp) : V → Prop
  | non : Odd H .non
  | bl (b : Bool) : Odd H (.bl b)
  | int (i : Int) : Odd H (.int i)
  | str (z : Str) : Odd H (.str z)
  | lst {a : Addr} {xs : List V} : H a = some (.lst xs) → Odd H (.ref a)
  | tup {a : Addr} {xs : List V} : H a = some (.tup xs) → Odd H (.ref a)
  | dK {a : Addr} {kvs : List (Key × V)} : H a = some (.dK kvs) → Odd H (.ref a)
theorem Odd.mono {H H' : Hp} (s : Same H H') {v : V} (h : Odd H v) : Odd H' v := by
  cases h with
  | non => exact .non
  | bl b => exact .bl b
  | int i => exact .int i
  | str z => exact .str z
  | lst e => exact .lst (s _ _ e)
  | tup e => exact .tup (s _ _ e)
  | dK e => exact .dK (s _ _ e)
def isInt : V → Bool
  | .int _ => true
  | .bl _ => true
  | _ => false
def isBl : V → Bool
  | .bl _ => true
  | _ => false
theorem Odd.ty {K : PySem.W.Frag} {H : Hp} {v : V} (h : Odd H v) : ∃ t, TyX K H v t ∧ PySem.W.kitOne K t (.type "int") = some (isInt v) ∧ PySem.W.kitOne K t (.type "bool") = some (isBl v) := by
  cases h with
  | non => exact ⟨_, .base .non, kit_ty (show kitB "NoneType" "int" = some false by decide +kernel), kit_ty (show kitB "NoneType" "bool" = some false by decide +kernel)⟩
  | bl b => exact ⟨_, .base (.bl b), kit_ty (show kitB "bool" "int" = some true by decide +kernel), kit_ty (show kitB "bool" "bool" = some true by decide +kernel)⟩
  | int i => exact ⟨_, .base (.int i), kit_ty (show kitB "int" "int" = some true by decide +kernel), kit_ty (show kitB "int" "bool" = some false by decide +kernel)⟩
  | str z => exact ⟨_, .base (.str z), kit_ty (show kitB "str" "int" = some false by decide +kernel), kit_ty (show kitB "str" "bool" = some false by decide +kernel)⟩
  | lst e => exact ⟨_, .base (.lst e), kit_ty (show kitB "list" "int" = some false by decide +kernel), kit_ty (show kitB "list" "bool" = some false by decide +kernel)⟩
  | tup e => exact ⟨_, .base (.tup e), kit_ty (show kitB "tuple" "int" = some false by decide +kernel), kit_ty (show kitB "tuple" "bool" = some false by decide +kernel)⟩
  | dK e => exact ⟨_, .base (.dK e), kit_ty (show kitB "dict" "int" = some false by decide +kernel), kit_ty (show kitB "dict" "bool" = some false by decide +kernel)⟩
def wholeB : V → Bool
  | .int _ => true
  | _ => false
theorem whole_eq (v : V) : (isInt v && !isBl v) = wholeB v := by cases v <;> rfl
def fromB : V → Int → Bool
  | .int i, l => decide (l ≤ i)
  | _, _ => false
def withinB : V → Int → Int → Bool
  | .int i, l, m => decide (l ≤ i) && decide (i ≤ m)
  | _, _, _ => false
theorem bool_false {b : Bool} (h : ¬ b = true) : b = false := by cases b <;> first | rfl | exact absurd rfl h
theorem same_upd {H : Hp} {p : Addr} {o : HO} (h : H p = none) : Same H (upd H p o) := fun b x e => by
  rw [upd_ne (ne_of_none e h)]
  exact e
theorem same_app {H H1 : Hp} {p : Addr} {o : HO} (h : H p = none) (s : Same H H1) : Same H (upd H1 p o) := fun b x e => by
  rw [upd_ne (ne_of_none e h)]
  exact s _ _ e
/-- a pot: two numbers -/
def Pot (H : Hp) (p : Addr) : Prop := ∃ a b : Int, H p = some (.lst [.int a, .int b]) ∧ 0 ≤ a ∧ 0 ≤ b ∧ b < 2147483647
/-- all but what stands at p is as it was -/
def SameB (p : Addr) (H H' : Hp) : Prop := ∀ b o, b ≠ p → H b = some o → H' b = some o
theorem SameB.trans {p : Addr} {H H1 H2 : Hp} (a : SameB p H H1) (b : SameB p H1 H2) : SameB p H H2 := fun c o n h => b c o n (a c o n h)
theorem SameB.of {p : Addr} {H H' : Hp} (s : Same H H') : SameB p H H' := fun b o _ e => s b o e
theorem SameB.upd {p : Addr} {H H' : Hp} {o : HO} (s : SameB p H H') : SameB p H (upd H' p o) := fun b x n e => by
  rw [upd_ne n]
  exact s b x n e
theorem SameB.new {p q : Addr} {H H' : Hp} {o : HO} (h : H q = none) (s : SameB p H H') : SameB p H (L2.upd H' q o) := fun b x n e => by
  rw [upd_ne (ne_of_none e h)]
  exact s b x n e
theorem Pot.ne {H : Hp} {p q : Addr} (h : Pot H p) (n : H q = none) : q ≠ p := fun e => by
  obtain ⟨a, b, e1, _⟩ := h
  rw [← e, n] at e1
  cases e1
theorem SameB.none {p q : Addr} {H H1 : Hp} (s : SameB p H H1) (h : Pot H1 p) (n : H1 q = none) : H q = none := by
  cases e : H q with
  | none => rfl
  | some o =>
    rw [s q o (h.ne n) e] at n
    cases n
theorem Pot.upd {H : Hp} {p q : Addr} {o : HO} (h : Pot H p) (n : q ≠ p) : Pot (L2.upd H q o) p := by
  obtain ⟨a, b, e, r⟩ := h
  exact ⟨a, b, by rw [upd_ne n.symm]; exact e, r⟩
theorem Pot.mono {H H' : Hp} {p : Addr} (h : Pot H p) (s : Same H H') : Pot H' p := by
  obtain ⟨a, b, e, r⟩ := h
  exact ⟨a, b, s _ _ e, r⟩
theorem ne_of_pot {H : Hp} {p q : Addr} {o : HO} (h : Pot H p) (e : H q = some o) (n : ∀ a b : Int, o ≠ .lst [.int a, .int b] := by intros; nofun) : q ≠ p := by
  obtain ⟨a, b, ep, _⟩ := h
  exact ne_of e ep (n a b)
theorem sameB_new {p : Addr} {H H1 H2 : Hp} (n : H p = none) (s : Same H H1) (b : SameB p H1 H2) : Same H H2 := fun c o e => b c o (ne_of_none e n) (s c o e)
theorem same_made {H : Hp} {x dx C : Addr} {o : HO} (nx : H x = none) (nd : H dx = none) : Same H (upd (upd H dx (.own x)) x o) := fun b z e => by
  rw [upd_ne (ne_of_none e nx), upd_ne (ne_of_none e nd)]
  exact e
/-- a list of one own error with its field: facts of the class and its __init__ -/
structure Nx (K : PySem.W.Frag) (P : Program) (mg : Str → Option Value) (st : Stmt) (nm q fld : Str) (CN fN cc c : Addr) (fdN : FuncData) : Prop where
  sup : SupC K P mg CN cc (nfI st q cc c) (arI st)
  lk : LkI K (nfI st q cc c) fN fdN
  hno : PySem.W.findIn K (.ref CN) fld = some none
  ini : PySem.W.findIn K (.ref CN) "__init__" = some (some (.ref fN))
  tI : PySem.W.typeIn K (.ref fN) = some (.type "function")
  bd : L2.Binds K fdN ["self", fld] []
  gl : mg nm = some (.ref CN)
/-! ### isinstance, in an except suite, of an error of any class -/
section
variable {X : Cx} {a : Addr} {oe : Obj} {cls : Value} {d : Option Addr}
/-- the error's dict stands -/
def HasD (d : Option Addr) (H : Hp) : Prop := d = none ∨ ∃ (dd : Addr) (fs : List (Str × V)), d = some dd ∧ H dd = some (.xd fs)
theorem HasD.mono {H H' : Hp} (h : HasD d H) (s : Same H H') : HasD d H' := by
  rcases h with h | ⟨dd, fs, e, h⟩
  · exact .inl h
  · exact .inr ⟨dd, fs, e, s _ _ h⟩
theorem pinned_any {pins : List (Addr × Obj)} {σ : L2.St} {H : Hp} {s : Shared} {D : Addr} (I : Inv X pins σ H s) (hp : (a, oe) ∈ X.pn) (hz : Zc (.ref D) d oe)
    (hf : ∃ vs, oe.data = .fields vs) (hd : HasD d H) : ∃ od, PySem.W.InstAt s.heap a oe D od := by
  rcases hd with rfl | ⟨dd, fs, rfl, hd⟩
  · exact ⟨none, pinned_at I hp hz hf⟩
  · obtain ⟨od, h⟩ := pinned_dd I hp hz hf hd
    exact ⟨some od, h⟩
theorem call_isX (hp : (a, oe) ∈ X.pn) (hz : Zc cls d oe) (hf : ∃ vs, oe.data = .fields vs) :
    CallR X (.builtin "isinstance") (fun xs H Q => ∃ (D : Addr) (c : V) (cv : Value) (b : Bool), cls = .ref D ∧ ExcC X.K D ∧ HasD d H ∧ xs = [.ref a, c] ∧ ClsV c cv ∧ PySem.W.kitOne X.K (.ref D) cv = some b ∧ Q (.bl b) H) := by
  intro pins s σ H xs us Q I r h
  obtain ⟨D, c, cv, b, rfl, C, hd, rfl, hc, e, q⟩ := h
  obtain ⟨u1, u2, rfl, r1, r2⟩ := vals2 r
  have e2 := hc.eq r2
  subst e2
  cases r1
  obtain ⟨od, J⟩ := pinned_any I hp hz hf hd
  exact PySem.W.kia_one (PySem.W.kitx_exc (cls_some C.hd) C.hg C.hk C.hs C.ha C.hn C.ht C.hm) I.kIn J e (fun z => nomatch z)
    fun tk => ⟨.bl b, H, I.tok tk, rfl, q⟩
theorem call_isXT (hp : (a, oe) ∈ X.pn) (hz : Zc cls d oe) (hf : ∃ vs, oe.data = .fields vs) :
    CallR X (.builtin "isinstance") (fun xs H Q => ∃ (D : Addr) (tp : Addr) (cs : List V) (us : List Value) (b : Bool), cls = .ref D ∧ ExcC X.K D ∧ HasD d H ∧ xs = [.ref a, .ref tp] ∧ H tp = some (.tup cs) ∧ Paired ClsV cs us ∧
      PySem.W.kitAny X.K (.ref D) us = some b ∧ Q (.bl b) H) := by
  intro pins s σ H xs us Q I r h
  obtain ⟨D, tp, cs, ws, b, rfl, C, hd, rfl, hT, k, e, q⟩ := h
  obtain ⟨u1, u2, rfl, r1, r2⟩ := vals2 r
  cases r1
  cases (show u2 = Value.ref tp from r2)
  obtain ⟨_, its, rv, o, h1, h2, n, h3⟩ := (show ObjOk X.prog X.w H s.heap tp (.tup cs) from I.hok tp _ hT)
  have e3 := ClsV.all k rv
  subst e3
  obtain ⟨oc, od', dt, sl⟩ := o
  simp only at h2 h3
  subst h2 h3
  obtain ⟨od, J⟩ := pinned_any I hp hz hf hd
  exact PySem.W.kia_tup (PySem.W.kitx_exc (cls_some C.hd) C.hg C.hk C.hs C.ha C.hn C.ht C.hm) I.kIn J h1 e (fun z => nomatch z)
    fun tk => ⟨.bl b, H, I.tok tk, rfl, q⟩
end
section
variable {X : Cx} {a : Addr} {oe : Obj} {cls : Value} {d : Option Addr} {pn : List (Addr × Obj)}
def rIsX (K : PySem.W.Frag) (a : Addr) (cls : Value) (d : Option Addr) : List V → Hp → VK → Prop := fun xs H Q => ∃ (D : Addr) (c : V) (cv : Value) (b : Bool), cls = .ref D ∧ ExcC K D ∧ HasD d H ∧ xs = [.ref a, c] ∧ ClsV c cv ∧ PySem.W.kitOne K (.ref D) cv = some b ∧ Q (.bl b) H
def rIsXT (K : PySem.W.Frag) (a : Addr) (cls : Value) (d : Option Addr) : List V → Hp → VK → Prop := fun xs H Q => ∃ (D : Addr) (tp : Addr) (cs : List V) (us : List Value) (b : Bool), cls = .ref D ∧ ExcC K D ∧ HasD d H ∧ xs = [.ref a, .ref tp] ∧ H tp = some (.tup cs) ∧ Paired ClsV cs us ∧
      PySem.W.kitAny K (.ref D) us = some b ∧ Q (.bl b) H
theorem call_isS (hz : Zc cls d oe) (hf : ∃ vs, oe.data = .fields vs) : CallR (X.suite a ((a, oe) :: pn)) (.builtin "isinstance") (rIsX X.K a cls d) := call_isX (X := X.suite a ((a, oe) :: pn)) (a := a) (oe := oe) List.mem_cons_self hz hf
theorem call_isST (hz : Zc cls d oe) (hf : ∃ vs, oe.data = .fields vs) : CallR (X.suite a ((a, oe) :: pn)) (.builtin "isinstance") (rIsXT X.K a cls d) := call_isXT (X := X.suite a ((a, oe) :: pn)) (a := a) (oe := oe) List.mem_cons_self hz hf
end
/-! ### things of all sorts, with their data -/
inductive Th (H : Hp) : V → PyData → Prop
  | non : Th H .non .none
  | bl (b : Bool) : Th H (.bl b) (.bool b)
  | int (i : Int) : i.natAbs ≤ 10 ^ 61 → Th H (.int i) (.int i)
  | str (z : Str) : (PyData.str z).showable = true → (PyData.str z).shown.length ≤ 1921 → PyData.strOk (PyData.str z).shown = true → Th H (.str z) (.str z)
  | lst {a : Addr} (n : Int) : n.natAbs ≤ 10 ^ 61 → H a = some (.lst [.int n]) → Th H (.ref a) (.list [.int n])
  | tup {a : Addr} (n : Int) : n.natAbs ≤ 10 ^ 61 → H a = some (.tup [.int n]) → Th H (.ref a) (.tuple [.int n])
  | dk {a : Addr} : H a = some (.dK []) → Th H (.ref a) (.dict [])
theorem lg61 {i : Int} (h : i.natAbs ≤ 10 ^ 61) : i.natAbs.log2 < 1920 := by
  rcases Nat.eq_zero_or_pos i.natAbs with z | z
  · rw [z]; decide
  · rw [Nat.log2_lt (by omega)]
    exact Nat.lt_of_le_of_lt h (by decide)
theorem tlen61 {i : Int} (h : i.natAbs ≤ 10 ^ 61) : (Str.ofString (toString i)).length ≤ 204 := by
  rw [PySem.ofString_length]
  rcases Nat.eq_zero_or_pos i.natAbs with z | z
  · rw [show i = 0 by omega]; decide
  · have : i.natAbs.log2 < 203 := by
      rw [Nat.log2_lt (by omega)]
      exact Nat.lt_of_le_of_lt h (by decide)
    exact Nat.le_trans (int_text_length_le (k := 203) (by decide) this) (by decide)
theorem Th.mono {H H' : Hp} {v : V} {d : PyData} (h : Th H v d) (s : Same H H') : Th H' v d := by
  cases h with
  | non => exact .non
  | bl b => exact .bl b
  | int i hi => exact .int i hi
  | str z a b c => exact .str z a b c
  | lst n hn e => exact .lst n hn (s _ _ e)
  | tup n hn e => exact .tup n hn (s _ _ e)
  | dk e => exact .dk (s _ _ e)
theorem Th.upd {H : Hp} {th : Addr} {v : V} {d : PyData} {xs : List V} {o : HO} (h : Th H v d) (ht : H th = some (.lst xs)) (hl : xs.length ≠ 1) : Th (L2.upd H th o) v d := by
  cases h with
  | non => exact .non
  | bl b => exact .bl b
  | int i hi => exact .int i hi
  | str z a b c => exact .str z a b c
  | lst n hn e => exact .lst n hn (by rw [upd_ne (ne_of e ht (by intro z; cases z; exact hl rfl))]; exact e)
  | tup n hn e => exact .tup n hn (by rw [upd_ne (ne_of e ht (by intro z; cases z))]; exact e)
  | dk e => exact .dk (by rw [upd_ne (ne_of e ht (by intro z; cases z))]; exact e)
theorem Th.odd {H : Hp} {v : V} {d : PyData} (h : Th H v d) : Odd H v := by
  cases h with
  | non => exact .non
  | bl b => exact .bl b
  | int i hi => exact .int i
  | str z a b c => exact .str _
  | lst n hn e => exact .lst e
  | tup n hn e => exact .tup e
  | dk e => exact .dK e
theorem Th.sd {K : PySem.W.Frag} {H : Hp} {v : V} {d : PyData} (h : Th H v d) : Sd K H v d := by
  cases h with
  | non => exact .dp .non (by simp [PyData.hasDict])
  | bl b => exact .dp (.bl b) (by simp [PyData.hasDict])
  | int i hi => exact .dp (.int i) (by simp [PyData.hasDict])
  | str z a b c => exact .dp (.str _) (by simp [PyData.hasDict])
  | lst n hn e => exact .dp (.lst (SqL.of e) (.cons (.int n) .nil)) (by simp [PyData.hasDict, PyData.hasDictAll])
  | tup n hn e => exact .dp (.tup (SqT.of e) (.cons (.int n) .nil)) (by simp [PyData.hasDict, PyData.hasDictAll])
  | dk e => exact .ed e
theorem shown_one (n : Int) : (PyData.list [.int n]).shown = listText [Str.ofString (toString n)] ∧ (PyData.tuple [.int n]).shown = tupleText [Str.ofString (toString n)] := by
  constructor
  · simp only [PyData.shown, PyData.shownAll]
  · simp only [PyData.shown, PyData.shownAll]
theorem Th.fit {H : Hp} {v : V} {d : PyData} (h : Th H v d) : d.showable = true ∧ d.depth ≤ 1 ∧ d.shown.length ≤ 1921 := by
  cases h with
  | non => exact ⟨by simp [PyData.showable], by simp [PyData.depth], by decide +kernel⟩
  | bl b => cases b <;> exact ⟨by simp [PyData.showable], by simp [PyData.depth], by decide +kernel⟩
  | int i hi => exact ⟨by simpa [PyData.showable] using lg61 hi, by simp [PyData.depth], by simp only [PyData.shown]; exact Nat.le_trans (tlen61 hi) (by decide)⟩
  | str z a b c => exact ⟨a, by simp [PyData.depth], b⟩
  | lst n hn e =>
    refine ⟨by simpa [PyData.showable, PyData.showableAll] using lg61 hn, by simp [PyData.depth, PyData.depthAll], ?_⟩
    rw [(shown_one n).1]
    have := listText_len_le [Str.ofString (toString n)]
    have := tlen61 hn
    simp only [List.map_cons, List.map_nil, List.sum_cons, List.sum_nil, List.length_cons, List.length_nil] at *
    omega
  | tup n hn e =>
    refine ⟨by simpa [PyData.showable, PyData.showableAll] using lg61 hn, by simp [PyData.depth, PyData.depthAll], ?_⟩
    rw [(shown_one n).2]
    have := tupleText_len_le [Str.ofString (toString n)]
    have := tlen61 hn
    simp only [List.map_cons, List.map_nil, List.sum_cons, List.sum_nil, List.length_cons, List.length_nil] at *
    omega
  | dk e => exact ⟨by decide +kernel, by decide +kernel, by decide +kernel⟩
/-! ### xs.count(y), flat things -/
theorem count_eqU {x : V} : ∀ {xs : List V} {us : List Value}, Vals xs us → xs.all flatV = true → us.countP (eqU x) = xs.countP fun y => eqV y x
  | _, _, .nil, _ => rfl
  | y :: xs, u :: us, .cons r t, f => by
    rw [List.all_cons, Bool.and_eq_true] at f
    rw [List.countP_cons, List.countP_cons, eqU_of r f.1, count_eqU t f.2]
def rCntV (K : PySem.W.Frag) : V → List V → Hp → VK → Prop := fun x xs H Q => ∃ (p : Addr) (ys : List V) (y : V), x = .ref p ∧ xs = [y] ∧ SqL K H p ys ∧ flatV y = true ∧ ys.all flatV = true ∧ Q (.int (ys.countP fun z => eqV z y : Nat)) H
theorem mt_countV {X : Cx} : MtR X "list.count" (rCntV X.K) := by
  intro pins s σ H x xs v us Q I rx rxs h
  obtain ⟨p, ys, y, rfl, rfl, hs, fy, fs, q⟩ := h
  cases rx
  obtain ⟨u, rfl, ru⟩ := rxs.one
  obtain ⟨its, rv, ⟨⟨cls, dd, data, sl⟩, n, ho, hc, hdn, hd⟩, hlen⟩ := I.list hs
  simp only at hc hd
  subst hc hd
  refine call_meets PySem.F.slot_list_count ⟨_, ho, rfl⟩ PySem.F.entry_list_count (PySem.F.args_list_count_2 _ _)
    (SeqAt.list_countAt p its.toArray n dd sl u (eqU y)) ⟨ho, fun z hz => mem_eqAt ru fy rv fs z (by simpa using hz), ?_⟩
  have ec : its.toArray.toList.countP (eqU y) = ys.countP fun z => eqV z y := count_eqU rv fs
  refine ⟨.int (ys.countP fun z => eqV z y : Nat), H, I.tok _, ⟨s.toks, ?_⟩, q⟩
  show Value.int ((its.toArray.toList.countP (eqU y) : Nat) : Int) s.toks = _
  rw [ec]
/-- xs.count(y) in an except suite -/
theorem pe_countS {X : Cx} {a : Addr} {oe : Obj} {pn : List (Addr × Obj)} {o e : Expr} {to : TE} {t : TA} {apos cpos : Pos} (ho : PE (X.suite a ((a, oe) :: pn)) o to) (ha : PA (X.suite a ((a, oe) :: pn)) [e] t)
    (hbase : attributeBase o "count" X.env (eval o X.env) = eval o X.env := by rfl)
    (hfew : ((backTo cpos (starEach [e] X.env)).all (fun x => !x.1) && (backToKw cpos (keywordEach [] X.env)).all (fun x => x.1.isSome)
      && decide (([e] : List Expr).length + ([] : List Keyword).length + (if ([] : List Keyword).isEmpty then 0 else 1) < 30)) = true := by rfl)
    (hline : (apos.endLine == cpos.line) = true := by rfl) (hs : starEach [e] X.env = (false, eval e X.env) :: starEach [] X.env := by rfl) (hplain : (backTo cpos (starEach [] X.env)).any (·.1) = false := by rfl) :
    PE (X.suite a ((a, oe) :: pn)) (.Call (.Attribute o "count" apos) [e] [] cpos) (tBM X.K "list" (rCntV X.K) to t) :=
  pe_bm (X := X.suite a ((a, oe) :: pn)) PySem.F.plainAttrs_list PySem.F.slot_list_count PySem.F.type_list_count (mt_countV (X := X.suite a ((a, oe) :: pn))) ho ha hbase hfew hline hs hplain
theorem ix_listS {X : Cx} {a : Addr} {oe : Obj} {pn : List (Addr × Obj)} : IxR (X.suite a ((a, oe) :: pn)) (rIxL X.K) := ix_list (X := X.suite a ((a, oe) :: pn))
end LT
set_option Elab.async false
set_option linter.all false
set_option maxRecDepth 100000
/-! Own layer: ==, != of instances of a class with its own __eq__; repr, str of such; a method called by keywords. -/
namespace LT
open PySem PySem.Spec PyProof.Rows L2
/-! ### == by an own __eq__ -/
/-! ### x in [y], [y] == [x] -/
/-! ### the same over the layer -/
/-! ### the same, the answer told ahead, the heap as it was -/
/-! ### != by an own __eq__ -/
/-! ### o.m(k = v): a method by keywords alone, what is raised wished for at the slots -/
end LT
set_option Elab.async false
set_option linter.all false
set_option maxRecDepth 100000
set_option maxHeartbeats 1600000
/-! Own layer: enumerate, methods that raise in a try, what is new on the heap, lists of ints. -/
namespace LT
open PySem PySem.Spec PyProof.Rows L2
/-! ### enumerate -/
theorem lc_enum {K : PySem.W.Frag} {a : Addr} {xs : List V} {g : TG} {tt : TT} {te : TE} {vs : List Nat} {σ : L2.St} {H1 : Hp} {D : Addr} {Qd : Hp → Prop} (Pv : Nat → Hp → Prop) (h0 : Pv 0 (L2.upd H1 D (.lst []))) (hl : ∀ i H, i ≤ xs.length → Pv i H → SqL K H a xs)
    (hs : ∀ i x H T, xs[i]? = some x → Pv i H → H T = none → g (.ref T) (wipe σ vs) (L2.upd H T (.tup [.int (i : Nat), x])) fun σ2 H2 => wipe σ2 vs = wipe σ vs ∧ tt σ2 H2 fun b H3 =>
      if b = true then te σ2 H3 fun y H4 => ∃ acc, H4 D = some (.lst acc) ∧ acc.length < sizeLine ∧ Pv (i + 1) (L2.upd H4 D (.lst (acc ++ [y]))) else Pv (i + 1) H3) (hd : ∀ H, Pv xs.length H → Qd H) :
    ∃ W : Nat → Nat → Hp → Prop, (∃ m, W 0 m (L2.upd H1 D (.lst []))) ∧ ∀ i m H, W i m H →
      ((Ite K a).stop i H ∧ Qd H) ∨ ((Ite K a).go i H ∧ ∃ Nx : Hp → Prop, (∀ H', Nx H' → ∃ m', m' < m ∧ W (i + 1) m' H') ∧ ∀ x H', (Ite K a).yld i H x H' → g x (wipe σ vs) H' fun σ2 H2 => wipe σ2 vs = wipe σ vs ∧ tt σ2 H2 fun b H3 =>
        if b = true then te σ2 H3 fun y H4 => ∃ acc, H4 D = some (.lst acc) ∧ acc.length < sizeLine ∧ Nx (L2.upd H4 D (.lst (acc ++ [y]))) else Nx H3) := by
  refine ⟨fun i m H => m = xs.length - i ∧ i ≤ xs.length ∧ Pv i H, ⟨xs.length, by simp, Nat.zero_le _, h0⟩, ?_⟩
  rintro i m H ⟨rfl, hi, p⟩
  have q := hl i H hi p
  by_cases hlt : i < xs.length
  · refine .inr ⟨⟨xs, xs[i], q, by simp [hlt]⟩, Pv (i + 1), fun H' p' => ⟨xs.length - (i + 1), by omega, rfl, hlt, p'⟩, fun x H' y => ?_⟩
    obtain ⟨T, z, e, nT, e2, y⟩ := y
    subst e e2
    exact hs i z _ T (y xs q) p nT
  · have e : i = xs.length := by omega
    subst e
    exact .inl ⟨⟨xs, q, Nat.le_refl _⟩, hd H p⟩
/-! ### o.m(e, ..), where what it raises is caught -/
/-! ### what is new -/
def new (H H' : Hp) : Hp := fun c => match H c with | none => H' c | some _ => none
/-! ### one by place, one by its name -/
/-! ### lists of ints -/
end LT
set_option Elab.async false
set_option linter.all false
set_option maxRecDepth 100000
set_option maxHeartbeats 1600000
/-! Own layer: repr of an own thing whose __repr__ shows a list; a list of ints in an f-string; min of a list of pairs. -/
namespace LT
open PySem PySem.Spec PyProof.Rows L2
/-! ### min of a list of pairs of ints -/
theorem vals_ix : ∀ {vs : List V} {us : List Value}, Vals vs us → ∀ (i : Nat) {v : V} {u : Value}, vs[i]? = some v → us[i]? = some u → RelV v u
  | _, _, .cons r _, 0, _, _, hv, hu => by
    cases hv
    cases hu
    exact r
  | _, _, .cons _ t, i + 1, _, _, hv, hu => vals_ix t i hv hu
end LT
set_option Elab.async false
set_option linter.all false
set_option maxRecDepth 100000
set_option maxHeartbeats 1600000
/-! Own layer, numbers alone: how many are on in a slot; the slots where that may be least; even begins. -/
namespace LT
/-! ### sums -/
/-! ### even begins -/
end LT
set_option Elab.async false
set_option linter.all false
set_option maxRecDepth 100000
set_option maxHeartbeats 1600000
namespace LT
open PySem PySem.Spec PyProof.Rows L2
/-! ### the text of a list of ints -/
end LT
set_option Elab.async false
set_option linter.all false
set_option maxRecDepth 100000
set_option maxHeartbeats 1600000
set_option pp.maxSteps 700
/-! Own layer: a def that shows a list while something else is being shown; repr of a tuple that holds an own thing. -/
namespace LT
open PySem PySem.Spec PyProof.Rows L2
/-- a def that may ask what is being shown -/
structure FnGc (P : Program) (w : World) (K : PySem.W.Frag) (mg : Str → Option Value) (base : Heap)
    (CX : CXT) (k : Nat) (f : Addr) (fd : FuncData) (ps : List Str) (sp : List Code → Sp) : Prop where
  argc : ∀ {g : List Code} {vs : List V} {H : Hp} {Q : VK} {E : XK}, sp g vs H Q E → vs.length = ps.length
  go : ∀ {g : List Code} {A : Around} {outer : List Env} {s : Shared} {H : Hp} {args : Args} {us : List Value} {vs : List V}
    {Q : VK} {E : XK}, A.guards = some g → Room k A → Env0 P w K mg base A outer s H →
    BindsTo s fd args (ps.zip us) → Vals vs us → sp g vs H Q E →
    codeAny (model P w) A (.call (.ref f) args) (CR CX outer P w H s Q E) s
section
variable {P : Program} {w : World} {K : PySem.W.Frag} {mg : Str → Option Value} {base : Heap}
theorem FnGc.toG {CX : CXT} {k : Nat} {f : Addr} {fd : FuncData} {ps : List Str} {sp : List Code → Sp} (F : FnGc P w K mg base CX k f fd ps sp) : FnG P w K mg base CX k f fd ps (sp []) :=
  ⟨fun h => F.argc h, fun hg hr e b v h => F.go hg hr e b v h⟩
end
section
variable {X : Cx} {C f : Addr} {fd : FuncData} {ps : List Str} {sp : List Code → Sp} {n : Nat}
theorem run_strGc {g : List Code} {A : Around} {pins : List (Addr × Obj)} {σ : L2.St} {H : Hp} {s : Shared} {Q : VK} {a : Addr}
    (F : FnGc X.prog X.w X.K X.mg X.base CX0 n f fd ps sp) (hG : A.guards = some g) (sb : L2.Sub X n A) (hb : L2.Binds X.K fd ps []) (I : Inv X pins σ H s)
    (h : sp g [.ref a] H (fun z H' => ∃ t, z = .str t ∧ Q z H') E0) :
    wpAny (model X.prog X.w) A (call (.ref f) [.ref a]) (PySem.W.StrBack (EP X pins σ Q)) X.xe s := by
  have e0 : Env0 X.prog X.w X.K X.mg X.base A X.stack s H := by
    have e := I.env0
    exact ⟨by rw [sb.fr]; exact e.frames, e.mod, e.bs, e.bsz, e.funs, e.frf, e.hok, e.bare⟩
  have r2 : Vals [V.ref a] [Value.ref a] := .cons rfl .nil
  have hl := F.argc h
  have b := hb s [.ref a] I.kIn (by simpa using hl)
  rw [List.append_nil] at b
  refine wpAny_call (codeAny_mono (F.go (args := ⟨[.ref a], []⟩) (us := [.ref a]) hG sb.room e0 b r2 h) fun r s' hq => ?_)
  match r, hq with
  | .error _, hq => exact hq.elim
  | .ok .next, hq => exact hq.elim
  | .ok .brk, hq => exact hq.elim
  | .ok .cont, hq => exact hq.elim
  | .ok (.ret z), hq =>
    obtain ⟨z', H', I', rz, t, rfl, q⟩ := I.after hq
    obtain ⟨tk, rfl⟩ := rz
    exact ⟨.str t, H', I', ⟨tk, rfl⟩, q⟩
/-! ### {l} in an f-string, l a list of ints that is not being shown -/
end
section
variable {prog : Program} {w : World} {K : PySem.W.Frag} {A : Around} {E : Value → Shared → Prop} {s : Shared} {x C f : Addr} {ox : Obj} {od : Option Obj}
theorem boundBy_ownC {M : Model} {last : Value → List Value → Sem Value} {name : Str} {Q : Option Value → Shared → Prop} (X : K.In s.heap) (I : PySem.W.InstAt s.heap x ox C od)
    (hs : PySem.W.findIn K (.ref C) name = some (some (.ref f))) (hf : PySem.W.isFn K (.ref f) = true)
    (h : wpAny M A (last (.ref f) [.ref x]) (fun v => Q (some v)) E s) : wpAny M A (callSpecialIfBoundBy? last (.ref x) name) Q E s := by
  simp only [callSpecialIfBoundBy?, bindSpecialIfBound?]
  refine wpAny_holding (wpAny_bind (wpAny_bind (wpAny_bind (I.type.here ((PySem.W.looks_findIn X hs).here ?_)))))
  refine wpAny_bind (wpAny_askSetting (wpAny_ite ?_))
  have back : wpAny M A (last (.ref f) [.ref x] >>= fun v => pure (some v)) Q E s := wpAny_bind (wpAny_mono h (fun v s' z => wpAny_pure z) fun _ _ z => z)
  split
  · exact wpAny_bind ((PySem.W.bind_fn X _ (beq_iff_eq.mp hf)).here (wpAny_pure (by exact back)))
  · exact wpAny_tryCatch (wpAny_bind ((PySem.W.bind_fn X _ (beq_iff_eq.mp hf)).here (wpAny_pure (by exact back))))
theorem under_ownC {b : Nat} {Q : Str → Shared → Prop} (hb : b ≤ sizeLine) (hu : A.units < cLine) (X : K.In s.heap) (I : PySem.W.InstAt s.heap x ox C od)
    (hs : PySem.W.findIn K (.ref C) "__repr__" = some (some (.ref f))) (hf : PySem.W.isFn K (.ref f) = true)
    (h : wpAny (model prog w) A (call (.ref f) [.ref x]) (fun v s' => ∃ t u, v = .str t u ∧ Q t s') E s) : wpAny (model prog w) A (pyReprUnder b (.ref x)) Q E s := by
  refine wpAny_pyReprUnder_ref hb ?_
  unfold pyReprObjUnder pyReprObjBy
  refine wpAny_bind (wpAny_cRoomFor hu ?_)
  refine wpAny_bind (wpAny_bind (I.type.here ((PySem.W.looks_findIn X hs).here ?_)))
  show wpAny _ _ (if (some (Value.ref f)).isNone = true then _ else _) _ _ _
  rw [if_neg (by simp)]
  refine wpAny_bind (m := callSpecialIfBoundBy? _ (.ref x) (Str.ofString "__repr__")) (boundBy_ownC X I hs hf (wpAny_mono h (fun r s' hr => ?_) fun _ _ y => y))
  obtain ⟨t, u, rfl, q⟩ := hr
  exact wpAny_bind (wpAny_isInstance (typeIs_str _ _ _) isSubtype_str_str (wpAny_pure ⟨t, u, rfl, q⟩))
end
end LT
set_option Elab.async false
set_option linter.all false
set_option maxRecDepth 100000
set_option maxHeartbeats 1600000
set_option pp.maxSteps 700
/-! Own layer: repr of a list that holds own things and lists of ints; min of two pairs. -/
namespace LT
open PySem PySem.Spec PyProof.Rows L2
theorem sub_guardC {X : Cx} {n : Nat} {A : Around} (sb : L2.Sub X (n + 1) A) (args : Args) : L2.Sub X n (A.under (.builtin "list.__repr__.loop" args)) := by
  have hw : (Code.builtin "list.__repr__.loop" args).weight ≤ 1 := by
    show (Code.builtin "list.__repr__.loop" ⟨[], []⟩).weight ≤ 1
    decide +kernel
  have hc : (Code.builtin "list.__repr__.loop" args).cUnits ≤ 10 := by
    show (Code.builtin "list.__repr__.loop" ⟨[], []⟩).cUnits ≤ 10
    decide +kernel
  have he : (Code.builtin "list.__repr__.loop" args).envs = [] := rfl
  obtain ⟨⟨h1, h2, h3⟩, h4⟩ := sb
  refine ⟨⟨h1, ?_, ?_⟩, ?_⟩
  · show A.depth + _ + 3 * n + 5 < _
    omega
  · show A.units + _ + 16 * n + 200 < _
    omega
  · unfold Around.under
    simp [he, pushEnvs, h4]
/-! ### min of two pairs -/
end LT
set_option Elab.async false
set_option linter.all false
set_option maxRecDepth 100000
set_option maxHeartbeats 1600000
namespace LT
open PySem PySem.Spec PyProof.Rows L2 NdefX
/-! ### one of two readings -/
/-! ### len of an own thing -/
/-! ### an own thing made within a try -/
end LT
set_option Elab.async false
set_option linter.all false
set_option maxRecDepth 100000
set_option maxHeartbeats 1600000
set_option pp.maxSteps 700
/-! Own layer: repr of a tuple of three things, among them lists and tuples of things, and dicts. -/
namespace LT
open PySem PySem.Spec PyProof.Rows L2 NdefX
/-- a thing within a list -/
def Tn (H : Hp) (v : V) (d : PyData) : Prop := Th H v d ∧ d.hasDict = false
theorem Tn.mono {H H' : Hp} {v : V} {d : PyData} (h : Tn H v d) (s : Same H H') : Tn H' v d := ⟨h.1.mono s, h.2⟩
theorem Tn.dp {K : PySem.W.Frag} {H : Hp} {v : V} {d : PyData} (h : Tn H v d) : Dp K H v d := by
  cases h.1.sd (K := K) with
  | dp q _ => exact q
  | ed e => exact absurd h.2 (by simp [PyData.hasDict])
theorem Paired.map {α β : Type} {R S : α → β → Prop} (f : ∀ a b, R a b → S a b) : ∀ {xs : List α} {ys : List β}, Paired R xs ys → Paired S xs ys
  | _, _, .nil => .nil
  | _, _, .cons h r => .cons (f _ _ h) (Paired.map f r)
theorem tn_all {K : PySem.W.Frag} {H : Hp} : ∀ {vs : List V} {ds : List PyData}, Paired (Tn H) vs ds → DpAll K H vs ds
  | _, _, .nil => .nil
  | _, _, .cons h r => .cons h.dp (tn_all r)
theorem tn_no {H : Hp} : ∀ {vs : List V} {ds : List PyData}, Paired (Tn H) vs ds → PyData.hasDictAll ds = false
  | _, _, .nil => by simp [PyData.hasDictAll]
  | _, _, .cons h r => by simp [PyData.hasDictAll, h.2, tn_no r]
theorem tn_fit {H : Hp} : ∀ {vs : List V} {ds : List PyData}, Paired (Tn H) vs ds → PyData.showableAll ds = true ∧ PyData.depthAll ds ≤ 1 ∧ ((PyData.shownAll ds).map (·.length)).sum ≤ 1921 * vs.length ∧ (PyData.shownAll ds).length = vs.length
  | _, _, .nil => ⟨by simp [PyData.showableAll], by simp [PyData.depthAll], by simp [PyData.shownAll], by simp [PyData.shownAll]⟩
  | _, _, .cons h r => by
    obtain ⟨a, b, c⟩ := h.1.fit
    obtain ⟨a', b', c', d'⟩ := tn_fit r
    refine ⟨by simp [PyData.showableAll, a, a'], ?_, ?_, ?_⟩
    · simp only [PyData.depthAll]
      omega
    · simp only [PyData.shownAll, List.map_cons, List.sum_cons, List.length_cons]
      omega
    · simp only [PyData.shownAll, List.length_cons, d']
/-- what is handed to a round -/
inductive Sx (H : Hp) : V → PyData → Prop
  | th {v : V} {d : PyData} : Th H v d → Sx H v d
  | lst {a : Addr} {xs : List V} {ds : List PyData} : H a = some (.lst xs) → xs.length ≤ 100 → Paired (Tn H) xs ds → Sx H (.ref a) (.list ds)
  | tup {a : Addr} {xs : List V} {ds : List PyData} : H a = some (.tup xs) → xs.length ≤ 100 → Paired (Tn H) xs ds → Sx H (.ref a) (.tuple ds)
  | zz {a : Addr} : H a = some (.dK [(.inl 0, .int 0)]) → Sx H (.ref a) (.dict [(.int 0, .int 0)])
theorem Sx.mono {H H' : Hp} {v : V} {d : PyData} (h : Sx H v d) (s : Same H H') : Sx H' v d := by
  cases h with
  | th h => exact .th (h.mono s)
  | lst e l p => exact .lst (s _ _ e) l (Paired.map (fun _ _ h => h.mono s) p)
  | tup e l p => exact .tup (s _ _ e) l (Paired.map (fun _ _ h => h.mono s) p)
  | zz e => exact .zz (s _ _ e)
theorem Sx.fit {H : Hp} {v : V} {d : PyData} (h : Sx H v d) : d.showable = true ∧ d.depth ≤ 2 ∧ d.shown.length ≤ 200000 := by
  cases h with
  | th h =>
    obtain ⟨a, b, c⟩ := h.fit
    exact ⟨a, by omega, by omega⟩
  | lst e l p =>
    rename_i xs ds
    obtain ⟨a, b, c, d⟩ := tn_fit p
    refine ⟨by simpa [PyData.showable] using a, by simp only [PyData.depth]; omega, ?_⟩
    have := listText_len_le (PyData.shownAll ds)
    simp only [PyData.shown]
    omega
  | tup e l p =>
    rename_i xs ds
    obtain ⟨a, b, c, d⟩ := tn_fit p
    refine ⟨by simpa [PyData.showable] using a, by simp only [PyData.depth]; omega, ?_⟩
    have := tupleText_len_le (PyData.shownAll ds)
    simp only [PyData.shown]
    omega
  | zz e => exact ⟨by decide +kernel, by decide +kernel, by decide +kernel⟩
section
variable {X : Cx} {pins : List (Addr × Obj)} {σ : L2.St} {H : Hp} {s : Shared}
theorem Sx.reads (I : Inv X pins σ H s) {v : V} {d : PyData} {u : Value} (h : Sx H v d) (r : RelV v u) :
    ∃ as, Reads s.heap u d as ∧ (d.hasDict = true → sysModules ∉ as) := by
  cases h with
  | th h => exact (h.sd (K := X.K)).reads I r
  | lst e l p =>
    have hd : Dp X.K H _ _ := .lst (SqL.of e) (tn_all p)
    obtain ⟨as, q⟩ := Dp.reads I _ _ u hd r
    exact ⟨as, q, PyData.noDict_hsm (by simpa [PyData.hasDict] using tn_no p)⟩
  | tup e l p =>
    have hd : Dp X.K H _ _ := .tup (SqT.of e) (tn_all p)
    obtain ⟨as, q⟩ := Dp.reads I _ _ u hd r
    exact ⟨as, q, PyData.noDict_hsm (by simpa [PyData.hasDict] using tn_no p)⟩
  | zz h =>
    rename_i a
    cases r
    obtain ⟨_, hs, vs, rel, o, es, ep, ho, hx, hd, hko, hp, hn⟩ := I.hok a _ h
    cases rel with
    | cons r1 r2 =>
      cases r2
      rename_i kv
      obtain ⟨kk, uu⟩ := kv
      obtain ⟨e1, t, e2⟩ := r1
      cases e1
      cases e2
      generalize hes : es.toList = l at hp
      cases hp with
      | cons k1 k2 k3 =>
        cases k3
        rename_i e
        have k0 : keyIs (Sum.inl 0) e.key = true := k1
        obtain ⟨y, t', z, e3⟩ | ⟨_, _, z, _⟩ := keyIs_shape k0
        · cases z
          refine ⟨_, Reads.dict (as := []) (bs := []) ho hx.1 hd ?_ ?_, fun _ z => ?_⟩
          · rw [hes, List.map_cons, List.map_nil, e3]
            exact ReadsAll.cons (Reads.int _ _) .nil
          · rw [hes, List.map_cons, List.map_nil, k2]
            exact ReadsAll.cons (Reads.int _ _) .nil
          · have z2 : sysModules = a := by simpa using z
            rw [z2] at hs
            simp at hs
        · cases z
theorem Sx.all (I : Inv X pins σ H s) : ∀ {vs : List V} {ds : List PyData} {us : List Value}, Paired (Sx H) vs ds → Vals vs us →
    ∃ as bs, ReadsAll s.heap us ds as ∧ ReadAtMost s.heap (PyData.depthAll ds) bs ∧ ReprAllK X.prog X.w bs s.heap (PyData.depthAll ds) us (PyData.shownAll ds)
  | _, _, _, .nil, r => by
    cases r
    exact ⟨_, [], .nil, (fun _ h => nomatch h), by simp only [PyData.shownAll]; exact .nil⟩
  | _ :: _, d :: ds, _, .cons h hs, r => by
    cases r with
    | cons r1 r2 =>
      obtain ⟨f1, f2, f3⟩ := h.fit
      obtain ⟨as, q1, n1⟩ := h.reads I r1
      obtain ⟨b1, hb1, k1⟩ := ReprK.of_reads (prog := X.prog) (w := X.w) q1 f1 n1 (by rw [sizeLine_eq]; omega)
      obtain ⟨bs, b2, q2, hb2, k2⟩ := Sx.all I hs r2
      refine ⟨_, b1 ++ b2, .cons q1 q2, ?_, ?_⟩
      · simp only [PyData.depthAll]
        exact (hb1.mono (Nat.le_max_left _ _)).append (hb2.mono (Nat.le_max_right _ _))
      · simp only [PyData.depthAll, PyData.shownAll]
        exact .cons ((k1.more fun b hb => List.mem_append_left _ hb).level_le (Nat.le_max_left _ _)) (k2.more_le (fun b hb => List.mem_append_right _ hb) (Nat.le_max_right _ _))
end
end LT
set_option Elab.async false
set_option linter.all false
set_option maxRecDepth 100000
set_option maxHeartbeats 1600000
/-! Own layer: what the top of a program has left, put by name, for any law (tools/g.py writes the list of it). -/
namespace LT
open PySem PySem.Spec PyProof.Rows L2 NdefX
/-- an own error without a field -/
structure Ev (K : PySem.W.Frag) (mg : Str → Option Value) (x : Str) (D : Addr) : Prop where
  g : mg x = some (.ref D)
  x : PySem.W.excIn K D [.type "ValueError", .type "Exception", .type "BaseException", .type "object"] "ValueError.__new__" = true
  k : PySem.W.keepIn K (.ref D) = true
  b : PySem.W.subIn K (.ref D) (.type "BaseException") = some true
  t : PySem.W.typeIn K (.ref D) = some (.type "type")
/-- an own class -/
structure ClF (K : PySem.W.Frag) (mg : Str → Option Value) (x : Str) (C : Addr) : Prop where
  cl : Cls K C
  gl : mg x = some (.ref C)
  kp : PySem.W.keepIn K (.ref C) = true
theorem kit_self {K : PySem.W.Frag} {a : Addr} : PySem.W.kitOne K (.ref a) (.ref a) = some true := if_pos (c := ((Value.ref a) == (Value.ref a)) = true) (beq_self_eq_true (Value.ref a))
theorem cls_of {K : PySem.W.Frag} {t : Value} {C : Addr} {b : Bool} (i : PySem.W.isClsIn K C = true) (ty : PySem.W.typeIn K (.ref C) = some (.type "type")) (s : PySem.W.subIn K t (.ref C) = some b) : PySem.W.kitCls K t (.ref C) = some b := by
  have i' : (PySem.W.clsIn K C).isSome = true := i
  show (if ((PySem.W.clsIn K C).isSome && PySem.W.typeIn K (.ref C) == some (.type "type")) = true then PySem.W.subIn K t (.ref C) else none) = some b
  rw [i', ty]
  exact s
theorem kit_yes {K : PySem.W.Frag} {t : Value} {C : Addr} (i : PySem.W.isClsIn K C = true) (ty : PySem.W.typeIn K (.ref C) = some (.type "type")) (s : PySem.W.subIn K t (.ref C) = some true) : PySem.W.kitOne K t (.ref C) = some true := by
  unfold PySem.W.kitOne
  split
  · rfl
  · exact cls_of i ty s
theorem kit_no {K : PySem.W.Frag} {t : Value} {C : Addr} (i : PySem.W.isClsIn K C = true) (ty : PySem.W.typeIn K (.ref C) = some (.type "type")) (s : PySem.W.subIn K t (.ref C) = some false) (q : (t == .ref C) = false) : PySem.W.kitOne K t (.ref C) = some false := by
  unfold PySem.W.kitOne
  rw [q]
  exact cls_of i ty s
theorem kit_ve {K : PySem.W.Frag} {D : Addr} (s : PySem.W.subIn K (.ref D) (.type "ValueError") = some true) : PySem.W.kitOne K (.ref D) (.type "ValueError") = some true := by
  unfold PySem.W.kitOne
  split
  · rfl
  · show (if PySem.W.kitMeta "ValueError" = true then PySem.W.subIn K (.ref D) (.type "ValueError") else none) = some true
    rw [show PySem.W.kitMeta "ValueError" = true by decide +kernel]
    exact s
theorem exm_is {K : PySem.W.Frag} {t : Value} {C : Addr} {r : Bool} (b : PySem.W.subIn K (.ref C) (.type "BaseException") = some true) (i : PySem.W.isClsIn K C = true) (ty : PySem.W.typeIn K (.ref C) = some (.type "type")) (s : PySem.W.subIn K t (.ref C) = some r) : PySem.W.exmOne K t (.ref C) = some r := by
  unfold PySem.W.exmOne
  rw [b]
  exact cls_of i ty s
/-- the reading of len, K told (for use within comprehensions) -/
def rLenQ (K : PySem.W.Frag) : List V → Hp → VK → Prop := fun xs H Q => ∃ p ys, xs = [.ref p] ∧ (SqL K H p ys ∨ SqT K H p ys) ∧ Q (.int ys.length) H
/-! ### what the top has left -/
structure Left (K : PySem.W.Frag) (x : Str) (st : Stmt) (f : Addr) (oc : Value) (od an : Option Addr) (kV dc pm cd ct : Value) (sl : Array (Option Value)) : Prop where
  ns : PySem.W.nsIn K mainGlobals x = some (some (.ref f))
  lk : K.lookup f = some ⟨oc, od, .func (PySem.W.fnOf x x (defArgs st) (defBody st) (defScope st) .none kV dc pm an cd ct), sl⟩
  cd : PySem.W.codeIn K cd x = true
  kp : PySem.W.keepIn K (.ref f) = true
theorem Left.fn {K : PySem.W.Frag} {x : Str} {st : Stmt} {f : Addr} {oc : Value} {od an : Option Addr} {kV dc pm cd ct : Value} {sl : Array (Option Value)} (h : Left K x st f oc od an kV dc pm cd ct sl) :
    Fun K x x st f (PySem.W.fnOf x x (defArgs st) (defBody st) (defScope st) .none kV dc pm an cd ct) := fun_mk h.lk h.cd h.kp
structure LeftM (K : PySem.W.Frag) (C : Addr) (x q : Str) (st : Stmt) (f : Addr) (oc : Value) (od an : Option Addr) (kV dc pm cd ct : Value) (sl : Array (Option Value)) : Prop where
  at_ : PySem.W.findIn K (.ref C) x = some (some (.ref f))
  lk : K.lookup f = some ⟨oc, od, .func (PySem.W.fnOf x q (defArgs st) (defBody st) (defScope st) .none kV dc pm an cd ct), sl⟩
  cd : PySem.W.codeIn K cd q = true
  kp : PySem.W.keepIn K (.ref f) = true
  isf : PySem.W.isFn K (.ref f) = true
theorem LeftM.fn {K : PySem.W.Frag} {C : Addr} {x q : Str} {st : Stmt} {f : Addr} {oc : Value} {od an : Option Addr} {kV dc pm cd ct : Value} {sl : Array (Option Value)} (h : LeftM K C x q st f oc od an kV dc pm cd ct sl) :
    Fun K x q st f (PySem.W.fnOf x q (defArgs st) (defBody st) (defScope st) .none kV dc pm an cd ct) := fun_mk h.lk h.cd h.kp
theorem LeftM.me {K : PySem.W.Frag} {C : Addr} {x q : Str} {st : Stmt} {f : Addr} {oc : Value} {od an : Option Addr} {kV dc pm cd ct : Value} {sl : Array (Option Value)} (h : LeftM K C x q st f oc od an kV dc pm cd ct sl) :
    Meth K C x f := ⟨h.at_, h.isf, h.kp⟩
/-- a def with defaults -/
structure LeftD (K : PySem.W.Frag) (x : Str) (st : Stmt) (va : Array Value) (f T : Addr) (oc : Value) (od an : Option Addr) (kV dc pm cd ct : Value) (sl : Array (Option Value)) (oT : Value) (dT : Option Addr) (nT : Nat) (sT : Array (Option Value)) : Prop where
  ns : PySem.W.nsIn K mainGlobals x = some (some (.ref f))
  lk : K.lookup f = some ⟨oc, od, .func (PySem.W.fnOf x x (defArgs st) (defBody st) (defScope st) (.ref T) kV dc pm an cd ct), sl⟩
  cd : PySem.W.codeIn K cd x = true
  kp : PySem.W.keepIn K (.ref f) = true
  lT : K.lookup T = some ⟨oT, dT, .seq va nT, sT⟩
/-- a method with defaults -/
structure LeftMD (K : PySem.W.Frag) (C : Addr) (x q : Str) (st : Stmt) (va : Array Value) (f T : Addr) (oc : Value) (od an : Option Addr) (kV dc pm cd ct : Value) (sl : Array (Option Value)) (oT : Value) (dT : Option Addr) (nT : Nat) (sT : Array (Option Value)) : Prop where
  at_ : PySem.W.findIn K (.ref C) x = some (some (.ref f))
  lk : K.lookup f = some ⟨oc, od, .func (PySem.W.fnOf x q (defArgs st) (defBody st) (defScope st) (.ref T) kV dc pm an cd ct), sl⟩
  cd : PySem.W.codeIn K cd q = true
  kp : PySem.W.keepIn K (.ref f) = true
  isf : PySem.W.isFn K (.ref f) = true
  lT : K.lookup T = some ⟨oT, dT, .seq va nT, sT⟩
end LT
set_option Elab.async false
set_option linter.all false
set_option maxRecDepth 100000
set_option maxHeartbeats 1600000
/-! Own layer: x != y, x an own thing with __eq__, y any thing. -/
namespace LT
open PySem PySem.Spec PyProof.Rows L2 NdefX
end LT
set_option Elab.async false
set_option linter.all false
set_option maxRecDepth 100000
set_option maxHeartbeats 1600000
/-! Own layer: slices as take and drop. -/
namespace LT
open PySem PySem.Spec PyProof.Rows L2 NdefX
theorem sIx_pos {n d : Nat} {i : Int} (h : 0 ≤ i) : HT.sIx n d (some i) = min i.toNat n := by
  show (if i < 0 then (i + (n : Int)).toNat else min i.toNat n) = min i.toNat n
  rw [if_neg (by omega)]
theorem cut_drop {α : Type} (f : α → V) (xs : List α) {i : Int} (h : 0 ≤ i) : cutV (xs.map f) (some i) none = (xs.drop i.toNat).map f := by
  unfold cutV
  rw [HT.sIx_none, sIx_pos h, List.length_map, ← List.map_drop, ← List.map_take]
  congr 1
  by_cases hi : i.toNat ≤ xs.length
  · rw [Nat.min_eq_left hi, List.take_of_length_le (by rw [List.length_drop]; exact Nat.le_refl _)]
  · rw [Nat.min_eq_right (by omega), Nat.sub_self, List.take_zero, List.drop_eq_nil_of_le (by omega)]
end LT
set_option Elab.async false
set_option linter.all false
set_option maxRecDepth 100000
set_option maxHeartbeats 1600000
/-! Own layer: dicts as lists of pairs of keys and worths of any kind; walks over locked dicts. -/
namespace LT
open PySem PySem.Spec PyProof.Rows L2 NdefX
section
variable {κ α : Type} [DecidableEq κ]
def getA (kvs : List (κ × α)) (k : κ) : Option α := (kvs.find? fun p => decide (p.1 = k)).map (·.2)
def putA (kvs : List (κ × α)) (k : κ) (v : α) : List (κ × α) := if (kvs.any fun p => decide (p.1 = k)) = true then kvs.map (fun p => if p.1 = k then (p.1, v) else p) else kvs ++ [(k, v)]
def enA (g : κ → Key) (f : α → V) (kvs : List (κ × α)) : List (Key × V) := kvs.map fun p => (g p.1, f p.2)
theorem enA_len (g : κ → Key) (f : α → V) (kvs : List (κ × α)) : (enA g f kvs).length = kvs.length := List.length_map ..
theorem getA_nil {k : κ} : getA ([] : List (κ × α)) k = none := rfl
theorem getA_pos {p : κ × α} {r : List (κ × α)} {k : κ} (e : p.1 = k) : getA (p :: r) k = some p.2 := by simp [getA, List.find?_cons, e]
theorem getA_neg {p : κ × α} {r : List (κ × α)} {k : κ} (e : ¬ p.1 = k) : getA (p :: r) k = getA r k := by simp [getA, List.find?_cons, e]
theorem getA_any (k : κ) : ∀ kvs : List (κ × α), (kvs.any fun p => decide (p.1 = k)) = (getA kvs k).isSome
  | [] => rfl
  | p :: r => by
    rw [List.any_cons]
    by_cases e : p.1 = k
    · rw [decide_eq_true e, getA_pos e]; rfl
    · rw [decide_eq_false e, getA_neg e, getA_any k r]; rfl
theorem getA_none_iff {k : κ} : ∀ {kvs : List (κ × α)}, getA kvs k = none ↔ k ∉ kvs.map (·.1)
  | [] => by simp [getA_nil]
  | p :: r => by
    by_cases e : p.1 = k
    · rw [getA_pos e]; simp [e]
    · rw [getA_neg e, getA_none_iff, List.map_cons, List.mem_cons]
      constructor
      · intro h h2
        rcases h2 with rfl | h2
        · exact e rfl
        · exact h h2
      · exact fun h h2 => h (.inr h2)
theorem getA_mem {k : κ} {v : α} : ∀ {kvs : List (κ × α)}, getA kvs k = some v → (k, v) ∈ kvs
  | [], h => nomatch h
  | p :: r, h => by
    by_cases e : p.1 = k
    · rw [getA_pos e] at h
      cases h
      subst e
      exact List.mem_cons_self
    · rw [getA_neg e] at h
      exact List.mem_cons_of_mem _ (getA_mem h)
theorem getA_of_mem {k : κ} {v : α} : ∀ {kvs : List (κ × α)}, (kvs.map (·.1)).Nodup → (k, v) ∈ kvs → getA kvs k = some v
  | [], _, h => nomatch h
  | p :: r, nd, h => by
    rw [List.map_cons, List.nodup_cons] at nd
    rcases List.mem_cons.mp h with rfl | h
    · exact getA_pos rfl
    · rw [getA_neg (fun e => nd.1 (e ▸ List.mem_map.mpr ⟨_, h, rfl⟩))]
      exact getA_of_mem nd.2 h
theorem val_en {g : κ → Key} {f : α → V} (hg : ∀ a b, g a = g b → a = b) (k : κ) : ∀ kvs : List (κ × α), valV (enA g f kvs) (g k) = (getA kvs k).map f
  | [] => rfl
  | p :: r => by
    show valV ((g p.1, f p.2) :: enA g f r) (g k) = _
    by_cases e : p.1 = k
    · rw [valV_pos (by rw [e]), getA_pos e]; rfl
    · rw [valV_neg (fun z => e (hg _ _ z)), getA_neg e, val_en hg k r]
theorem put_en {g : κ → Key} {f : α → V} (hg : ∀ a b, g a = g b → a = b) (kvs : List (κ × α)) (k : κ) (v : α) : putK (enA g f kvs) (g k) (f v) = enA g f (putA kvs k v) := by
  have e : ((enA g f kvs).any fun kv => decide (kv.1 = g k)) = (kvs.any fun p => decide (p.1 = k)) := by
    rw [valV_any, val_en hg, getA_any]
    cases getA kvs k <;> rfl
  unfold putK putA
  rw [e]
  split
  · unfold enA
    rw [List.map_map, List.map_map]
    refine List.map_congr_left fun p _ => ?_
    show (if g p.1 = g k then (g p.1, f v) else (g p.1, f p.2)) = (g (if p.1 = k then (p.1, v) else p).1, f (if p.1 = k then (p.1, v) else p).2)
    by_cases h : p.1 = k
    · rw [if_pos (by rw [h]), if_pos h]
    · rw [if_neg (fun z => h (hg _ _ z)), if_neg h]
  · unfold enA
    rw [List.map_append]
    rfl
theorem putA_new {kvs : List (κ × α)} {k : κ} {v : α} (h : getA kvs k = none) : putA kvs k v = kvs ++ [(k, v)] := by
  unfold putA
  rw [getA_any, h]
  rfl
theorem getA_app {k : κ} : ∀ {q rs : List (κ × α)}, k ∉ q.map (·.1) → getA (q ++ rs) k = getA rs k
  | [], _, _ => rfl
  | p :: q, rs, h => by
    rw [List.map_cons, List.mem_cons, not_or] at h
    rw [List.cons_append, getA_neg (fun e => h.1 e.symm), getA_app h.2]
theorem getA_map (k j : κ) (y : α) : ∀ kvs : List (κ × α), getA (kvs.map fun p => if p.1 = k then (p.1, y) else p) j = (getA kvs j).map fun x => if j = k then y else x
  | [] => rfl
  | p :: r => by
    rw [List.map_cons]
    by_cases e : p.1 = k
    · rw [if_pos e]
      by_cases h : p.1 = j
      · rw [getA_pos (p := (p.1, y)) h, getA_pos h, Option.map_some, if_pos (by rw [← h, e])]
      · rw [getA_neg (p := (p.1, y)) h, getA_neg h, getA_map k j y r]
    · rw [if_neg e]
      by_cases h : p.1 = j
      · rw [getA_pos h, getA_pos h, Option.map_some, if_neg (fun z => e (h.trans z))]
      · rw [getA_neg h, getA_neg h, getA_map k j y r]
theorem getA_put (kvs : List (κ × α)) (k j : κ) (y : α) : getA (putA kvs k y) j = if j = k then some y else getA kvs j := by
  by_cases h : getA kvs k = none
  · rw [putA_new h]
    by_cases e : j = k
    · rw [if_pos e, e, getA_app (getA_none_iff.mp h), getA_pos rfl]
    · rw [if_neg e]
      by_cases hj : getA kvs j = none
      · rw [getA_app (getA_none_iff.mp hj), getA_neg (fun z => e z.symm), hj]; rfl
      · obtain ⟨v, hv⟩ := Option.ne_none_iff_exists'.mp hj
        rw [hv]
        clear h hj
        induction kvs with
        | nil => cases hv
        | cons p r ih =>
          by_cases hp : p.1 = j
          · rw [getA_pos hp] at hv
            rw [List.cons_append, getA_pos hp, hv]
          · rw [getA_neg hp] at hv
            rw [List.cons_append, getA_neg hp, ih hv]
  · obtain ⟨v, hv⟩ := Option.ne_none_iff_exists'.mp h
    unfold putA
    rw [getA_any, hv]
    simp only [Option.isSome_some, if_true]
    rw [getA_map]
    by_cases e : j = k
    · rw [if_pos e, e, hv]; simp
    · rw [if_neg e]
      cases getA kvs j <;> simp [e]
theorem keys_put {kvs : List (κ × α)} {k : κ} {v : α} : (putA kvs k v).map (·.1) = if k ∈ kvs.map (·.1) then kvs.map (·.1) else kvs.map (·.1) ++ [k] := by
  by_cases h : k ∈ kvs.map (·.1)
  · rw [if_pos h]
    unfold putA
    rw [if_pos]
    · rw [List.map_map]
      refine List.map_congr_left fun p _ => ?_
      show (if p.1 = k then (p.1, v) else p).1 = p.1
      split <;> rfl
    · obtain ⟨p, hp, rfl⟩ := List.mem_map.mp h
      exact List.any_eq_true.mpr ⟨p, hp, decide_eq_true rfl⟩
  · rw [if_neg h, putA_new (getA_none_iff.mpr h), List.map_append]
    rfl
theorem nodup_put {kvs : List (κ × α)} {k : κ} {v : α} (h : (kvs.map (·.1)).Nodup) : ((putA kvs k v).map (·.1)).Nodup := by
  rw [keys_put]
  split
  · exact h
  · rename_i hk
    rw [List.nodup_append]
    refine ⟨h, List.nodup_cons.mpr ⟨nofun, List.nodup_nil⟩, fun a ha b hb => ?_⟩
    rw [List.mem_singleton.mp hb]
    rintro rfl
    exact hk ha
theorem putA_len {kvs : List (κ × α)} {k : κ} {v : α} : (putA kvs k v).length ≤ kvs.length + 1 := by
  unfold putA
  split
  · rw [List.length_map]; omega
  · rw [List.length_append]; exact Nat.le_refl _
theorem mem_put {kvs : List (κ × α)} {k : κ} {v : α} {p : κ × α} (h : p ∈ putA kvs k v) : p = (k, v) ∨ p ∈ kvs := by
  unfold putA at h
  split at h
  · obtain ⟨q, hq, rfl⟩ := List.mem_map.mp h
    by_cases e : q.1 = k
    · rw [if_pos e]; exact .inl (by rw [e])
    · rw [if_neg e]; exact .inr hq
  · rcases List.mem_append.mp h with h | h
    · exact .inr h
    · exact .inl (List.mem_singleton.mp h)
end
theorem inr_inj : ∀ a b : Str, (Sum.inr a : Key) = Sum.inr b → a = b := fun _ _ e => Sum.inr.inj e
theorem inl_inj : ∀ a b : Int, (Sum.inl a : Key) = Sum.inl b → a = b := fun _ _ e => Sum.inl.inj e
/-- a statement that lets nothing out -/
theorem PS.nox {X : Cx} {st : Stmt} {t : TS} (h : PS X.nox st t) : PS X st t := ⟨fun pins s σ H D I hw =>
  wpAny_mono (h.run pins s σ H D (I.wish _) hw) (fun _ _ q => q.unwish) fun _ _ z => False.elim z⟩
/-- two ways joined -/
theorem joinA {α : Type} {J : α → Hp → Prop} {sl : α → L2.St} {rest : L2.St → Hp → Prop} {goal : Prop} (k : (∀ a Hx, J a Hx → rest (sl a) Hx) → goal) (h : ∀ a Hx, J a Hx → rest (sl a) Hx) : goal := k h
/-! ### walks over locked dicts -/
theorem lock_back {H Hx : Hp} {d : Addr} {u : HO} {od : Obj} (hd : H d = some u) (s : Same (upd H d (.frz od u)) Hx) : Same H (upd Hx d u) := fun b o e => by
  by_cases hb : b = d
  · subst hb
    rw [upd_same, ← e, hd]
  · rw [upd_ne hb]
    exact s _ _ (by rw [upd_ne hb]; exact e)
end LT
set_option Elab.async false
set_option linter.all false
set_option maxRecDepth 100000
set_option maxHeartbeats 1600000
/-! Own layer: sum(d.values()); names; stores (a dict from names to weights). -/
namespace LT
open PySem PySem.Spec PyProof.Rows L2 NdefX
/-! ### sum(d.values()) -/
/-! ### names -/
def small (c : Nat) : Bool := decide (97 ≤ c) && decide (c ≤ 122)
def nameB : V → Bool
  | .str z => decide (1 ≤ z.length) && decide (z.length ≤ 8) && z.cps.toList.all small
  | _ => false
theorem letters : (Str.ofString "abcdefghijklmnopqrstuvwxyz").cps.toList = List.range' 97 26 := by decide +kernel
theorem small_mem (c : Nat) : decide (c ∈ (Str.ofString "abcdefghijklmnopqrstuvwxyz").cps.toList) = small c := by
  rw [letters]
  unfold small
  rw [Bool.eq_iff_iff, decide_eq_true_iff, List.mem_range'_1, Bool.and_eq_true, decide_eq_true_iff, decide_eq_true_iff]
  omega
theorem take_more {α β : Type} (f : α → β) {xs : List α} {i : Nat} {x : α} (h : xs[i]? = some x) : (xs.take i).map f ++ [f x] = (xs.take (i + 1)).map f := by
  rw [List.take_add_one, h, List.map_append]
  rfl
theorem joinL_nil : ∀ l : List (List Nat), TL.joinL [] l = l.flatten
  | [] => rfl
  | [p] => by simp [TL.joinL]
  | p :: q :: r => by
    show p ++ ([] ++ TL.joinL [] (q :: r)) = _
    rw [joinL_nil (q :: r)]
    rfl
theorem join_codes (ys : List Str) : (Txt.join (Str.ofString "") ys).cps.toList = (ys.map fun y => y.cps.toList).flatten := by
  rw [TL.join_eq]
  have h := TL.tl_join (Str.ofString "") ys
  have e : TL.tl (Str.ofString "") = [] := by decide +kernel
  rw [e, joinL_nil] at h
  exact h
theorem flat_len : ∀ (ys : List Str), (∀ y ∈ ys, y.length = 1) → (ys.map fun y => y.cps.toList).flatten.length = ys.length
  | [], _ => rfl
  | y :: ys, h => by
    rw [List.map_cons, List.flatten_cons, List.length_append, flat_len ys fun z hz => h z (List.mem_cons_of_mem _ hz), Array.length_toList, List.length_cons]
    have : y.cps.size = 1 := h y List.mem_cons_self
    omega
theorem sum_len : ∀ (ys : List Str), (∀ y ∈ ys, y.length = 1) → (ys.map fun y => y.length).sum = ys.length
  | [], _ => rfl
  | y :: ys, h => by
    rw [List.map_cons, List.sum_cons, sum_len ys fun z hz => h z (List.mem_cons_of_mem _ hz), h y List.mem_cons_self, List.length_cons]
    omega
/-- a name -/
structure Nm (z : Str) : Prop where
  l1 : 1 ≤ z.length
  l8 : z.length ≤ 8
  al : ∀ c ∈ z.cps.toList, small c = true
theorem Nm.b {z : Str} (h : Nm z) : nameB (.str z) = true := by
  show (decide (1 ≤ z.length) && decide (z.length ≤ 8) && z.cps.toList.all small) = true
  rw [decide_eq_true h.l1, decide_eq_true h.l8, List.all_eq_true.mpr h.al]
  rfl
/-! ### stores -/
def sd (kvs : List (Str × Int)) : List (Key × V) := kvs.map fun p => (Sum.inr p.1, V.int p.2)
def wsum (kvs : List (Str × Int)) : Int := (kvs.map (·.2)).sum
structure Kv (kvs : List (Str × Int)) : Prop where
  nd : (kvs.map (·.1)).Nodup
  nm : ∀ p ∈ kvs, Nm p.1
  w1 : ∀ p ∈ kvs, 1 ≤ p.2
  w2 : ∀ p ∈ kvs, p.2 ≤ 10 ^ 70
theorem sd_len (kvs : List (Str × Int)) : (sd kvs).length = kvs.length := List.length_map ..
def putS (kvs : List (Str × Int)) (z : Str) (w : Int) : List (Str × Int) := if z ∈ kvs.map (·.1) then kvs.map fun p => if p.1 = z then (p.1, w) else p else kvs ++ [(z, w)]
theorem Kv.put {kvs : List (Str × Int)} {z : Str} {w : Int} (h : Kv kvs) (hz : Nm z) (h1 : 1 ≤ w) (h2 : w ≤ 10 ^ 70) : Kv (putS kvs z w) ∧ (putS kvs z w).length ≤ kvs.length + 1 := by
  unfold putS
  by_cases hm : z ∈ kvs.map (·.1)
  · rw [if_pos hm]
    have ek : (kvs.map fun p => if p.1 = z then (p.1, w) else p).map (·.1) = kvs.map (·.1) := by
      rw [List.map_map]
      refine List.map_congr_left fun p _ => ?_
      show (if p.1 = z then (p.1, w) else p).1 = p.1
      split <;> rfl
    have mem : ∀ q ∈ (kvs.map fun p => if p.1 = z then (p.1, w) else p), (∃ p ∈ kvs, q.1 = p.1) ∧ (q.2 = w ∨ q ∈ kvs) := by
      intro q hq
      obtain ⟨p, hp, rfl⟩ := List.mem_map.mp hq
      by_cases e : p.1 = z
      · rw [if_pos e]
        exact ⟨⟨p, hp, rfl⟩, .inl rfl⟩
      · rw [if_neg e]
        exact ⟨⟨p, hp, rfl⟩, .inr hp⟩
    refine ⟨⟨by rw [ek]; exact h.nd, fun q hq => ?_, fun q hq => ?_, fun q hq => ?_⟩, by rw [List.length_map]; omega⟩
    · obtain ⟨⟨p, hp, e⟩, _⟩ := mem q hq
      rw [e]
      exact h.nm p hp
    · rcases (mem q hq).2 with e | e
      · omega
      · exact h.w1 q e
    · rcases (mem q hq).2 with e | e
      · omega
      · exact h.w2 q e
  · rw [if_neg hm]
    refine ⟨⟨?_, fun q hq => ?_, fun q hq => ?_, fun q hq => ?_⟩, by rw [List.length_append]; exact Nat.le_refl _⟩
    · rw [List.map_append]
      refine List.nodup_append.mpr ⟨h.nd, by simp, fun a ha b hb e => ?_⟩
      have e2 : b = z := by simpa using hb
      rw [e, e2] at ha
      exact hm ha
    · rcases List.mem_append.mp hq with e | e
      · exact h.nm q e
      · rw [List.mem_singleton.mp e]; exact hz
    · rcases List.mem_append.mp hq with e | e
      · exact h.w1 q e
      · rw [List.mem_singleton.mp e]; exact h1
    · rcases List.mem_append.mp hq with e | e
      · exact h.w2 q e
      · rw [List.mem_singleton.mp e]; exact h2
theorem Kv.nil : Kv [] := ⟨List.nodup_nil, (fun _ h => nomatch h), (fun _ h => nomatch h), (fun _ h => nomatch h)⟩
theorem wsum_nonneg : ∀ {kvs : List (Str × Int)}, (∀ p ∈ kvs, 1 ≤ p.2) → 0 ≤ wsum kvs
  | [], _ => Int.le_refl _
  | p :: r, h => by
    have := wsum_nonneg (kvs := r) fun q hq => h q (List.mem_cons_of_mem _ hq)
    have := h p List.mem_cons_self
    unfold wsum at *
    rw [List.map_cons, List.sum_cons]
    omega
theorem wsum_le : ∀ {kvs : List (Str × Int)}, (∀ p ∈ kvs, p.2 ≤ 10 ^ 70) → wsum kvs ≤ kvs.length * 10 ^ 70
  | [], _ => Int.le_refl _
  | p :: r, h => by
    have := wsum_le (kvs := r) fun q hq => h q (List.mem_cons_of_mem _ hq)
    have := h p List.mem_cons_self
    unfold wsum at *
    rw [List.map_cons, List.sum_cons, List.length_cons]
    omega
/-- stores, None as none -/
inductive StV (H : Hp) : V → Int → Prop
  | non : StV H .non 0
  | dict {d : Addr} {kvs : List (Str × Int)} : H d = some (.dK (sd kvs)) → Kv kvs → kvs.length ≤ 8 → StV H (.ref d) (wsum kvs)
theorem StV.mono {H H' : Hp} {v : V} {k : Int} (h : StV H v k) (s : Same H H') : StV H' v k := by
  cases h with
  | non => exact .non
  | dict e k l => exact .dict (s _ _ e) k l
theorem StV.bd {H : Hp} {v : V} {k : Int} (h : StV H v k) : 0 ≤ k ∧ k ≤ 10 ^ 71 := by
  cases h with
  | non => exact ⟨by omega, by omega⟩
  | dict e k l =>
    have := wsum_nonneg k.w1
    have := wsum_le k.w2
    constructor
    · omega
    · omega
end LT
set_option Elab.async false
set_option linter.all false
set_option maxRecDepth 100000
set_option maxHeartbeats 1600000
/-! Own layer: comprehensions within comprehensions, dict comprehensions, tables of rows (dicts from letters to numbers). -/
namespace LT
open PySem PySem.Spec PyProof.Rows L2 NdefX
/-! ### comprehensions within comprehensions -/
section
variable {J : It} {n : Nat} {G : Hp → Prop} {Y : Nat → Hp → V → Hp → Prop}
/-- a dict comprehension over a walk -/
theorem dc_it (w : Walk J n G Y) {g : TG} {tt : TT} {tk tv : TE} {vs : List Nat} {σ : L2.St} {H1 : Hp} {D : Addr} {Qd : Hp → Prop} (Pv : Nat → Hp → Prop) (h0 : Pv 0 (upd H1 D (.dK []))) (hG : ∀ i H, i ≤ n → Pv i H → G H)
    (hs : ∀ i x H H', i < n → Pv i H → Y i H x H' → g x (wipe σ vs) H' fun σ2 H2 => wipe σ2 vs = wipe σ vs ∧ tt σ2 H2 fun b H3 =>
      if b = true then tk σ2 H3 fun y H4 => tv σ2 H4 fun z H5 => ∃ kvs k, y = kV k ∧ H5 D = some (.dK kvs) ∧ kvs.length < sizeLine ∧ Pv (i + 1) (upd H5 D (.dK (putK kvs k z))) else Pv (i + 1) H3) (hd : ∀ H, Pv n H → Qd H) :
    ∃ W : Nat → Nat → Hp → Prop, (∃ m, W 0 m (upd H1 D (.dK []))) ∧ ∀ i m H, W i m H →
      (J.stop i H ∧ Qd H) ∨ (J.go i H ∧ ∃ Nx : Hp → Prop, (∀ H', Nx H' → ∃ m', m' < m ∧ W (i + 1) m' H') ∧ ∀ x H', J.yld i H x H' → g x (wipe σ vs) H' fun σ2 H2 => wipe σ2 vs = wipe σ vs ∧ tt σ2 H2 fun b H3 =>
        if b = true then tk σ2 H3 fun y H4 => tv σ2 H4 fun z H5 => ∃ kvs k, y = kV k ∧ H5 D = some (.dK kvs) ∧ kvs.length < sizeLine ∧ Nx (upd H5 D (.dK (putK kvs k z))) else Nx H3) := by
  refine ⟨fun i m H => m = n - i ∧ i ≤ n ∧ Pv i H, ⟨n, by simp, Nat.zero_le _, h0⟩, ?_⟩
  rintro i m H ⟨rfl, hi, p⟩
  have q := hG i H hi p
  by_cases hlt : i < n
  · exact .inr ⟨w.goes i H hlt q, Pv (i + 1), fun H' p' => ⟨n - (i + 1), by omega, rfl, hlt, p'⟩, fun x H' y => hs i x H H' hlt p (w.yields i H x H' hlt q y)⟩
  · have e : i = n := by omega
    subst e
    exact .inl ⟨w.stops H q, hd H p⟩
end
/-! ### rows and tables -/
abbrev KRow := List (Str × Int)
abbrev KTab := List KRow
/-- one small letter -/
def Ltr (z : Str) : Prop := ∃ c, small c = true ∧ z = ⟨#[c]⟩
def letts : List Str := (List.range' 97 26).map fun c => ⟨#[c]⟩
theorem Ltr.mem {z : Str} (h : Ltr z) : z ∈ letts := by
  obtain ⟨c, hc, rfl⟩ := h
  unfold small at hc
  rw [Bool.and_eq_true, decide_eq_true_eq, decide_eq_true_eq] at hc
  refine List.mem_map.mpr ⟨c, ?_, rfl⟩
  rw [List.mem_range'_1]
  omega
theorem letts_few {zs : List Str} (nd : zs.Nodup) (h : ∀ z ∈ zs, Ltr z) : zs.length ≤ 26 := by
  have := List.Nodup.length_le_of_subset nd (fun z hz => (h z hz).mem)
  simpa [letts] using this
structure KRw (n : Nat) (r : KRow) : Prop where
  ne : r ≠ []
  nd : (r.map (·.1)).Nodup
  lt : ∀ p ∈ r, Ltr p.1
  bd : ∀ p ∈ r, 0 ≤ p.2 ∧ p.2 < n
theorem KRw.len {n : Nat} {r : KRow} (h : KRw n r) : r.length ≤ 26 := by
  have := letts_few h.nd (fun z hz => by
    obtain ⟨p, hp, rfl⟩ := List.mem_map.mp hz
    exact h.lt p hp)
  simpa using this
theorem KRw.mono {n m : Nat} {r : KRow} (h : KRw n r) (l : n ≤ m) : KRw m r := ⟨h.ne, h.nd, h.lt, fun p hp => by have := h.bd p hp; omega⟩
theorem KRw.get {n : Nat} {r : KRow} {z : Str} {v : Int} (h : KRw n r) (e : getA r z = some v) : 0 ≤ v ∧ v < n := h.bd _ (getA_mem e)
theorem KRw.put {n : Nat} {r : KRow} {z : Str} {v : Int} (h : KRw n r) (hz : Ltr z) (h0 : 0 ≤ v) (h1 : v < n) : KRw n (putA r z v) := by
  refine ⟨fun e => ?_, nodup_put h.nd, fun p hp => ?_, fun p hp => ?_⟩
  · have : getA (putA r z v) z = some v := by rw [getA_put, if_pos rfl]
    rw [e] at this
    cases this
  · rcases mem_put hp with rfl | hp
    · exact hz
    · exact h.lt p hp
  · rcases mem_put hp with rfl | hp
    · exact ⟨h0, h1⟩
    · exact h.bd p hp
structure KTb (t : KTab) : Prop where
  l1 : 1 ≤ t.length
  l2 : t.length ≤ 1000
  rw : ∀ r ∈ t, KRw t.length r
theorem KTb.at_ {t : KTab} (h : KTb t) {i : Nat} {r : KRow} (e : t[i]? = some r) : KRw t.length r := h.rw r (List.mem_of_getElem? e)
/-- the rows stand -/
structure KRows (H : Hp) (ds : List Addr) (t : KTab) : Prop where
  len : ds.length = t.length
  at_ : ∀ (i : Nat) (d : Addr) (r : KRow), ds[i]? = some d → t[i]? = some r → H d = some (.dK (sd r))
theorem KRows.nil {H : Hp} : KRows H [] [] := ⟨rfl, fun i d r h => by simp at h⟩
theorem KRows.get {H : Hp} {ds : List Addr} {t : KTab} (h : KRows H ds t) {i : Nat} (hi : i < t.length) : ∃ d r, ds[i]? = some d ∧ t[i]? = some r ∧ H d = some (.dK (sd r)) := by
  have h2 : i < ds.length := by rw [h.len]; exact hi
  exact ⟨ds[i], t[i], List.getElem?_eq_getElem h2, List.getElem?_eq_getElem hi, h.at_ i _ _ (List.getElem?_eq_getElem h2) (List.getElem?_eq_getElem hi)⟩
theorem KRows.by {H H' : Hp} {ds : List Addr} {t : KTab} (h : KRows H ds t) (f : ∀ d ∈ ds, ∀ r, H d = some (.dK (sd r)) → H' d = some (.dK (sd r))) : KRows H' ds t :=
  ⟨h.len, fun i d r h1 h2 => f d (List.mem_of_getElem? h1) r (h.at_ i d r h1 h2)⟩
theorem KRows.mono {H H' : Hp} {ds : List Addr} {t : KTab} (h : KRows H ds t) (s : Same H H') : KRows H' ds t := h.by fun d _ r e => s _ _ e
theorem KRows.mem {H : Hp} {ds : List Addr} {t : KTab} (h : KRows H ds t) {d : Addr} (hd : d ∈ ds) : ∃ r, H d = some (.dK (sd r)) := by
  obtain ⟨i, hi, rfl⟩ := List.mem_iff_getElem.mp hd
  have h2 : i < t.length := by rw [← h.len]; exact hi
  exact ⟨_, h.at_ i _ _ (List.getElem?_eq_getElem hi) (List.getElem?_eq_getElem h2)⟩
theorem KRows.upd {H : Hp} {a : Addr} {o : HO} {ds : List Addr} {t : KTab} (h : KRows H ds t) (ha : a ∉ ds) : KRows (L2.upd H a o) ds t := h.by fun d hd r e => by
  have n : d ≠ a := fun z => ha (by rw [← z]; exact hd)
  rw [upd_ne n]
  exact e
theorem KRows.snoc {H : Hp} {ds : List Addr} {t : KTab} {d : Addr} {r : KRow} (h : KRows H ds t) (e : H d = some (.dK (sd r))) : KRows H (ds ++ [d]) (t ++ [r]) := by
  refine ⟨by rw [List.length_append, List.length_append, h.len]; rfl, fun i d' r' h1 h2 => ?_⟩
  by_cases hi : i < ds.length
  · rw [List.getElem?_append_left hi] at h1
    rw [List.getElem?_append_left (by rw [← h.len]; exact hi)] at h2
    exact h.at_ i d' r' h1 h2
  · rw [List.getElem?_append_right (by omega)] at h1
    rw [List.getElem?_append_right (by rw [← h.len]; omega), ← h.len] at h2
    cases hj : i - ds.length with
    | zero =>
      rw [hj] at h1 h2
      cases h1
      cases h2
      exact e
    | succ j =>
      rw [hj] at h1
      simp at h1
theorem KRows.set {H : Hp} {ds : List Addr} {t : KTab} {i : Nat} {d : Addr} {r : KRow} (h : KRows H ds t) (nd : ds.Nodup) (e : ds[i]? = some d) : KRows (L2.upd H d (.dK (sd r))) ds (t.set i r) := by
  refine ⟨by rw [List.length_set, h.len], fun j d' r' h1 h2 => ?_⟩
  obtain ⟨hi, ei⟩ := List.getElem?_eq_some_iff.mp e
  obtain ⟨hj, ej⟩ := List.getElem?_eq_some_iff.mp h1
  by_cases hij : i = j
  · subst hij
    rw [List.getElem?_set_self (by rw [← h.len]; exact hi)] at h2
    cases h2
    rw [e] at h1
    cases h1
    exact upd_same
  · rw [List.getElem?_set_ne hij] at h2
    have : d' ≠ d := by
      rw [← ej, ← ei]
      exact fun z => hij ((List.getElem_inj nd).mp z).symm
    rw [upd_ne this]
    exact h.at_ j d' r' h1 h2
theorem KRows.rd {H : Hp} {ds : List Addr} {t : KTab} (h : KRows H ds t) {i : Nat} {v : V} (e : (ds.map V.ref)[i]? = some v) : ∃ d r, v = .ref d ∧ ds[i]? = some d ∧ t[i]? = some r ∧ H d = some (.dK (sd r)) := by
  rw [List.getElem?_map] at e
  cases hd : ds[i]? with
  | none => rw [hd] at e; cases e
  | some d =>
    rw [hd] at e
    cases e
    have hi : i < t.length := by rw [← h.len]; exact (List.getElem?_eq_some_iff.mp hd).1
    exact ⟨d, t[i], rfl, rfl, List.getElem?_eq_getElem hi, h.at_ i d _ hd (List.getElem?_eq_getElem hi)⟩
/-- a table stands at a -/
structure TabAt (H : Hp) (a : Addr) (ds : List Addr) (t : KTab) : Prop where
  ls : H a = some (.lst (ds.map V.ref))
  rows : KRows H ds t
  nd : ds.Nodup
theorem TabAt.mono {H H' : Hp} {a : Addr} {ds : List Addr} {t : KTab} (h : TabAt H a ds t) (s : Same H H') : TabAt H' a ds t := ⟨s _ _ h.ls, h.rows.mono s, h.nd⟩
theorem TabAt.ne {H : Hp} {a d : Addr} {ds : List Addr} {t : KTab} (h : TabAt H a ds t) (hd : d ∈ ds) : d ≠ a := by
  obtain ⟨r, e⟩ := h.rows.mem hd
  exact ne_of e h.ls (by intro z; cases z)
theorem TabAt.item {H : Hp} {a : Addr} {ds : List Addr} {t : KTab} (h : TabAt H a ds t) {i : Int} (h0 : 0 ≤ i) (h1 : i < t.length) : ∃ d r, ds[i.toNat]? = some d ∧ t[i.toNat]? = some r ∧ H d = some (.dK (sd r)) ∧ atI (ds.map V.ref) i = some (.ref d) := by
  obtain ⟨d, r, e1, e2, e3⟩ := h.rows.get (i := i.toNat) (by omega)
  refine ⟨d, r, e1, e2, e3, ?_⟩
  have : i = ((i.toNat : Nat) : Int) := by omega
  rw [this]
  exact atI_nat (by rw [List.getElem?_map, e1]; rfl)
theorem val_row {r : KRow} {z : Str} : valV (sd r) (Sum.inr z) = (getA r z).map V.int := val_en inr_inj z r
theorem put_row (r : KRow) (z : Str) (v : Int) : putK (sd r) (Sum.inr z) (V.int v) = sd (putA r z v) := put_en inr_inj r z v
/-! ### a row by rising letters -/
def rowOf (r : KRow) (ys : List Str) : KRow := ys.map fun z => (z, (getA r z).getD 0)
def Rise (r r' : KRow) : Prop := ∃ ys, ys.Perm (r.map (·.1)) ∧ sortedS ys = true ∧ r' = rowOf r ys
theorem rowOf_keys (r : KRow) (ys : List Str) : (rowOf r ys).map (·.1) = ys := by
  unfold LT.rowOf
  rw [List.map_map]
  exact List.map_id' ys
theorem getA_some_of {r : KRow} {z : Str} (h : z ∈ r.map (·.1)) : ∃ v, getA r z = some v := by
  cases e : getA r z with
  | some v => exact ⟨v, rfl⟩
  | none => exact absurd h (getA_none_iff.mp e)
theorem Rise.get {r r' : KRow} (h : Rise r r') (nd : (r.map (·.1)).Nodup) (z : Str) : getA r' z = getA r z := by
  obtain ⟨ys, hp, _, rfl⟩ := h
  by_cases hz : z ∈ ys
  · obtain ⟨v, hv⟩ := getA_some_of (hp.mem_iff.mp hz)
    rw [hv]
    refine getA_of_mem (by rw [rowOf_keys]; exact hp.nodup_iff.mpr nd) ?_
    refine List.mem_map.mpr ⟨z, hz, ?_⟩
    rw [hv]
    rfl
  · rw [getA_none_iff.mpr (by rw [rowOf_keys]; exact hz), getA_none_iff.mpr fun h => hz (hp.mem_iff.mpr h)]
theorem Rise.rw {n : Nat} {r r' : KRow} (h : Rise r r') (k : KRw n r) : KRw n r' := by
  have g := h.get k.nd
  obtain ⟨ys, hp, _, rfl⟩ := h
  have hk := rowOf_keys r ys
  have nd : ((rowOf r ys).map (·.1)).Nodup := by rw [hk]; exact hp.nodup_iff.mpr k.nd
  refine ⟨fun e => ?_, nd, fun p hp' => ?_, fun p hp' => ?_⟩
  · have := hp.length_eq
    rw [e] at hk
    rw [← hk] at this
    simp at this
    exact k.ne (List.length_eq_zero_iff.mp this.symm)
  · have : p.1 ∈ r.map (·.1) := hp.mem_iff.mp (hk ▸ List.mem_map.mpr ⟨p, hp', rfl⟩)
    obtain ⟨p2, hp2, e⟩ := List.mem_map.mp this
    rw [← e]
    exact k.lt p2 hp2
  · have := getA_of_mem nd (k := p.1) (v := p.2) hp'
    rw [g] at this
    exact k.get this
/-- every row risen -/
structure RiseT (t t' : KTab) : Prop where
  len : t'.length = t.length
  at_ : ∀ (i : Nat) (r r' : KRow), t[i]? = some r → t'[i]? = some r' → Rise r r'
theorem RiseT.row {t t' : KTab} (h : RiseT t t') {i : Nat} {r : KRow} (e : t[i]? = some r) : ∃ r', t'[i]? = some r' ∧ Rise r r' := by
  have hi : i < t'.length := by rw [h.len]; exact (List.getElem?_eq_some_iff.mp e).1
  exact ⟨t'[i], List.getElem?_eq_getElem hi, h.at_ i r _ e (List.getElem?_eq_getElem hi)⟩
/-! ### isinstance of str, of all sorts of things -/
def isStr : V → Bool
  | .str _ => true
  | _ => false
theorem Odd.tyS {K : PySem.W.Frag} {H : Hp} {v : V} (h : Odd H v) : ∃ t, TyX K H v t ∧ PySem.W.kitOne K t (.type "str") = some (isStr v) := by
  cases h with
  | non => exact ⟨_, .base .non, kit_ty (show kitB "NoneType" "str" = some false by decide +kernel)⟩
  | bl b => exact ⟨_, .base (.bl b), kit_ty (show kitB "bool" "str" = some false by decide +kernel)⟩
  | int i => exact ⟨_, .base (.int i), kit_ty (show kitB "int" "str" = some false by decide +kernel)⟩
  | str z => exact ⟨_, .base (.str z), kit_ty (show kitB "str" "str" = some true by decide +kernel)⟩
  | lst e => exact ⟨_, .base (.lst e), kit_ty (show kitB "list" "str" = some false by decide +kernel)⟩
  | tup e => exact ⟨_, .base (.tup e), kit_ty (show kitB "tuple" "str" = some false by decide +kernel)⟩
  | dK e => exact ⟨_, .base (.dK e), kit_ty (show kitB "dict" "str" = some false by decide +kernel)⟩
/-- mergeK of pairs with unlike keys -/
theorem merge_nodup {kvs : KRow} (nd : (kvs.map (·.1)).Nodup) : mergeK [] (sd kvs) = sd kvs := by
  suffices h : ∀ (r acc : KRow), ((acc ++ r).map (·.1)).Nodup → mergeK (sd acc) (sd r) = sd (acc ++ r) from h kvs [] nd
  intro r
  induction r with
  | nil => intro acc _; rw [List.append_nil]; rfl
  | cons p r ih =>
    intro acc h
    have e : putK (sd acc) (Sum.inr p.1) (V.int p.2) = sd (acc ++ [p]) := by
      rw [put_row, putA_new]
      rw [getA_none_iff]
      rw [List.map_append, List.map_cons, List.nodup_append] at h
      exact fun hm => h.2.2 _ hm _ List.mem_cons_self rfl
    show mergeK (putK (sd acc) (Sum.inr p.1) (V.int p.2)) (sd r) = _
    rw [e, ih (acc ++ [p]) (by rw [List.append_assoc]; exact h), List.append_assoc]
    rfl
end LT
namespace LT
open PySem PySem.Spec PyProof.Rows L2 NdefX
/-- a row's letters and numbers, pair by pair -/
theorem walk_rows {d : Addr} {o : Obj} {r : KRow} : Walk (Iti d o (sd r)) r.length (fun H => H d = some (.frz o (.dK (sd r)))) (fun i H x H' => ∃ T p, r[i]? = some p ∧ x = .ref T ∧ H T = none ∧ H' = upd H T (.tup [.str p.1, .int p.2])) := by
  refine ⟨fun i H hi q => ⟨q, by rw [sd_len]; exact hi⟩, fun H q => ⟨q, by rw [sd_len]; exact Nat.le_refl _⟩, fun i H x H' hi _ y => ?_⟩
  obtain ⟨T, k, v, h1, rfl, h3, rfl⟩ := y
  unfold sd at h1
  rw [List.getElem?_map, List.getElem?_eq_getElem hi] at h1
  cases h1
  exact ⟨T, r[i], List.getElem?_eq_getElem hi, rfl, h3, rfl⟩
/-- a row's letters -/
theorem walk_rowk {d : Addr} {o : Obj} {r : KRow} : Walk (Itk d o (sd r)) r.length (fun H => H d = some (.frz o (.dK (sd r)))) (fun i H x H' => H' = H ∧ ∃ p, r[i]? = some p ∧ x = .str p.1) := by
  refine ⟨fun i H hi q => ⟨q, by rw [sd_len]; exact hi⟩, fun H q => ⟨q, by rw [sd_len]; exact Nat.le_refl _⟩, fun i H x H' hi _ y => ?_⟩
  obtain ⟨rfl, k, v, h1, rfl⟩ := y
  unfold sd at h1
  rw [List.getElem?_map, List.getElem?_eq_getElem hi] at h1
  cases h1
  exact ⟨rfl, r[i], List.getElem?_eq_getElem hi, rfl⟩
theorem rep_succ {α : Type} (i : Nat) (a : α) : List.replicate i a ++ [a] = List.replicate (i + 1) a := by rw [List.replicate_succ']
theorem rep_all (i : Nat) : (List.replicate i true).all id = true := by
  rw [List.all_eq_true]
  intro b hb
  rw [(List.mem_replicate.mp hb).2]
  rfl
end LT
set_option Elab.async false
set_option linter.all false
set_option maxRecDepth 100000
set_option maxHeartbeats 1600000
/-! Own layer: books. What is told of keepers and lights, as a list of what was told; histories; what of them holds. -/
namespace LT
open PySem PySem.Spec PyProof.Rows L2 NdefX
theorem snoc_ind {α : Type} {p : List α → Prop} (h0 : p []) (hs : ∀ l a, p l → p (l ++ [a])) : ∀ l, p l := by
  intro l
  rw [← List.reverse_reverse l]
  induction l.reverse with
  | nil => exact h0
  | cons a r ih =>
    rw [List.reverse_cons]
    exact hs _ _ ih
/-- what a book is told: of a move or of a landing, known, who, day, worth -/
structure Evt where
  mv : Bool
  kn : Int
  who : Str
  day : Int
  w : V
abbrev Told := List (Int × V)
abbrev Hist := List (Int × Told)
def ctK : Option Int → Int → Bool
  | none, _ => true
  | some m, k => decide (k ≤ m)
def knV : Option Int → V
  | none => .non
  | some k => .int k
/-- what was told last, of that which counts -/
def LastW (t : Told) (kn : Option Int) (w : V) : Prop :=
  ((∀ p ∈ t, ctK kn p.1 = false) ∧ w = .non) ∨ ∃ k, getA t k = some w ∧ ctK kn k = true ∧ ∀ p ∈ t, ctK kn p.1 = true → p.1 ≤ k
theorem LastW.uniq {t : Told} {kn : Option Int} {w w' : V} (h : LastW t kn w) (h' : LastW t kn w') : w = w' := by
  rcases h with ⟨a, rfl⟩ | ⟨k, a1, a2, a3⟩
  · rcases h' with ⟨_, rfl⟩ | ⟨k, b1, b2, _⟩
    · rfl
    · have := a _ (getA_mem b1)
      rw [b2] at this
      cases this
  · rcases h' with ⟨b, rfl⟩ | ⟨k', b1, b2, b3⟩
    · have := b _ (getA_mem a1)
      rw [a2] at this
      cases this
    · have e : k = k' := Int.le_antisymm (b3 _ (getA_mem a1) a2) (a3 _ (getA_mem b1) b2)
      subst e
      rw [a1] at b1
      exact Option.some.inj b1
theorem LastW.nil {kn : Option Int} : LastW [] kn .non := .inl ⟨nofun, rfl⟩
def noteH (h : Hist) (kn day : Int) (w : V) : Hist := putA h day (putA ((getA h day).getD []) kn w)
def ofE (mv : Bool) (who : Str) (e : Evt) : Bool := decide (e.mv = mv) && decide (e.who = who)
def stepH (mv : Bool) (who : Str) (h : Hist) (e : Evt) : Hist := if ofE mv who e = true then noteH h e.kn e.day e.w else h
def histE (es : List Evt) (mv : Bool) (who : Str) : Hist := es.foldl (stepH mv who) []
theorem histE_snoc (es : List Evt) (e : Evt) (mv : Bool) (who : Str) : histE (es ++ [e]) mv who = stepH mv who (histE es mv who) e := by
  unfold histE
  rw [List.foldl_append]
  rfl
def heldP (mv : Bool) (who : Str) (kn : Option Int) (day : Int) (e : Evt) : Bool := ofE mv who e && ctK kn e.kn && decide (e.day = day)
def heldO (es : List Evt) (mv : Bool) (who : Str) (kn : Option Int) (day : Int) : Option V := ((es.filter (heldP mv who kn day)).getLast?).map (·.w)
def heldE (es : List Evt) (mv : Bool) (who : Str) (kn : Option Int) (day : Int) : V := (heldO es mv who kn day).getD .non
theorem heldO_snoc (es : List Evt) (e : Evt) (mv : Bool) (who : Str) (kn : Option Int) (day : Int) :
    heldO (es ++ [e]) mv who kn day = if heldP mv who kn day e = true then some e.w else heldO es mv who kn day := by
  unfold heldO
  rw [List.filter_append]
  by_cases h : heldP mv who kn day e = true
  · rw [if_pos h, List.filter_cons_of_pos h, List.filter_nil, List.getLast?_append]
    rfl
  · rw [if_neg h, List.filter_cons_of_neg h, List.filter_nil, List.append_nil]
theorem heldE_snoc (es : List Evt) (e : Evt) (mv : Bool) (who : Str) (kn : Option Int) (day : Int) :
    heldE (es ++ [e]) mv who kn day = if heldP mv who kn day e = true then e.w else heldE es mv who kn day := by
  unfold heldE
  rw [heldO_snoc]
  split <;> rfl
theorem heldO_mem {es : List Evt} {mv : Bool} {who : Str} {kn : Option Int} {day : Int} {w : V} (h : heldO es mv who kn day = some w) : ∃ e ∈ es, heldP mv who kn day e = true ∧ e.w = w := by
  unfold heldO at h
  rw [Option.map_eq_some_iff] at h
  obtain ⟨e, h1, h2⟩ := h
  have hm := List.mem_of_getLast? h1
  rw [List.mem_filter] at hm
  exact ⟨e, hm.1, hm.2, h2⟩
theorem ofE_iff {mv : Bool} {who : Str} {e : Evt} : ofE mv who e = true ↔ e.mv = mv ∧ e.who = who := by
  unfold ofE
  rw [Bool.and_eq_true, decide_eq_true_iff, decide_eq_true_iff]
theorem heldP_iff {mv : Bool} {who : Str} {kn : Option Int} {day : Int} {e : Evt} : heldP mv who kn day e = true ↔ (e.mv = mv ∧ e.who = who) ∧ ctK kn e.kn = true ∧ e.day = day := by
  unfold heldP
  rw [Bool.and_eq_true, Bool.and_eq_true, ofE_iff, decide_eq_true_iff, and_assoc]
theorem getA_note (h : Hist) (kn day d : Int) (w : V) : getA (noteH h kn day w) d = if d = day then some (putA ((getA h day).getD []) kn w) else getA h d := getA_put _ _ _ _
/-- what stands in a history was told -/
theorem hist_of (mv : Bool) (who : Str) : ∀ es : List Evt, ∀ d t, getA (histE es mv who) d = some t → (t.map (·.1)).Nodup ∧ t.length ≤ es.length ∧ t ≠ [] ∧ ∀ p ∈ t, ∃ e ∈ es, (e.mv = mv ∧ e.who = who) ∧ e.kn = p.1 ∧ e.day = d ∧ e.w = p.2 := by
  refine snoc_ind (fun d t h => by cases h) fun es e ih d t h => ?_
  have old : getA (histE es mv who) d = some t → (t.map (·.1)).Nodup ∧ t.length ≤ (es ++ [e]).length ∧ t ≠ [] ∧ ∀ p ∈ t, ∃ e' ∈ es ++ [e], (e'.mv = mv ∧ e'.who = who) ∧ e'.kn = p.1 ∧ e'.day = d ∧ e'.w = p.2 := fun h => by
    obtain ⟨a, b, n, c⟩ := ih d t h
    refine ⟨a, by rw [List.length_append]; omega, n, fun p hp => ?_⟩
    obtain ⟨e', h1, h2⟩ := c p hp
    exact ⟨e', List.mem_append_left _ h1, h2⟩
  rw [histE_snoc] at h
  unfold stepH at h
  by_cases ho : ofE mv who e = true
  · rw [if_pos ho, getA_note] at h
    by_cases hd : d = e.day
    · rw [if_pos hd] at h
      cases h
      subst hd
      have hi : (((getA (histE es mv who) e.day).getD []).map (·.1)).Nodup ∧ ((getA (histE es mv who) e.day).getD []).length ≤ es.length ∧ ∀ p ∈ (getA (histE es mv who) e.day).getD [], ∃ e' ∈ es, (e'.mv = mv ∧ e'.who = who) ∧ e'.kn = p.1 ∧ e'.day = e.day ∧ e'.w = p.2 := by
        cases hg : getA (histE es mv who) e.day with
        | none => exact ⟨List.nodup_nil, Nat.zero_le _, nofun⟩
        | some t =>
          obtain ⟨a, b, _, c⟩ := ih _ t hg
          exact ⟨a, b, c⟩
      obtain ⟨a, b, c⟩ := hi
      refine ⟨nodup_put a, ?_, ?_, fun p hp => ?_⟩
      · have := putA_len (kvs := (getA (histE es mv who) e.day).getD []) (k := e.kn) (v := e.w)
        rw [List.length_append, List.length_singleton]
        omega
      · intro z
        have := getA_put ((getA (histE es mv who) e.day).getD []) e.kn e.kn e.w
        rw [z, if_pos rfl] at this
        cases this
      · rcases mem_put hp with rfl | hp
        · exact ⟨e, List.mem_append_right _ List.mem_cons_self, ofE_iff.mp ho, rfl, rfl, rfl⟩
        · obtain ⟨e', h1, h2⟩ := c p hp
          exact ⟨e', List.mem_append_left _ h1, h2⟩
    · rw [if_neg hd] at h
      exact old h
  · rw [if_neg ho] at h
    exact old h
theorem hist_keys (mv : Bool) (who : Str) : ∀ es : List Evt, ((histE es mv who).map (·.1)).Nodup ∧ (histE es mv who).length ≤ es.length := by
  refine snoc_ind ⟨List.nodup_nil, Nat.le_refl _⟩ fun es e ih => ?_
  rw [histE_snoc]
  unfold stepH
  have hl : (es ++ [e]).length = es.length + 1 := by rw [List.length_append]; rfl
  rw [hl]
  split
  · refine ⟨nodup_put ih.1, ?_⟩
    have := putA_len (kvs := histE es mv who) (k := e.day) (v := putA ((getA (histE es mv who) e.day).getD []) e.kn e.w)
    have := ih.2
    unfold noteH
    omega
  · exact ⟨ih.1, by have := ih.2; omega⟩
abbrev Rising (es : List Evt) : Prop := es.Pairwise fun a b => a.kn ≤ b.kn
theorem rising_snoc {es : List Evt} {e : Evt} (h : Rising (es ++ [e])) : Rising es ∧ ∀ a ∈ es, a.kn ≤ e.kn := by
  rw [Rising, List.pairwise_append] at h
  exact ⟨h.1, fun a ha => h.2.2 a ha e List.mem_cons_self⟩
theorem last_held (mv : Bool) (who : Str) (kn : Option Int) (d : Int) : ∀ es : List Evt, Rising es → LastW ((getA (histE es mv who) d).getD []) kn (heldE es mv who kn d) := by
  refine snoc_ind (fun _ => .nil) fun es e ih hr => ?_
  obtain ⟨hr, hle⟩ := rising_snoc hr
  have ih := ih hr
  rw [histE_snoc, heldE_snoc]
  unfold stepH
  by_cases ho : ofE mv who e = true
  · rw [if_pos ho, getA_note]
    by_cases hd : d = e.day
    · rw [if_pos hd, Option.getD_some]
      rw [← hd]
      have all : ∀ p ∈ (getA (histE es mv who) d).getD [], p.1 ≤ e.kn := by
        intro p hp
        cases hg : getA (histE es mv who) d with
        | none =>
          rw [hg] at hp
          exact nomatch hp
        | some t =>
          rw [hg] at hp
          obtain ⟨_, _, _, c⟩ := hist_of mv who es d t hg
          obtain ⟨e', h1, _, h2, _⟩ := c p hp
          rw [← h2]
          exact hle e' h1
      by_cases hc : ctK kn e.kn = true
      · rw [if_pos (heldP_iff.mpr ⟨ofE_iff.mp ho, hc, hd.symm⟩)]
        refine .inr ⟨e.kn, by rw [getA_put, if_pos rfl], hc, fun p hp _ => ?_⟩
        rcases mem_put hp with rfl | hp
        · exact Int.le_refl _
        · exact all p hp
      · rw [if_neg (fun h => hc (heldP_iff.mp h).2.1)]
        rcases ih with ⟨a, b⟩ | ⟨k, a1, a2, a3⟩
        · refine .inl ⟨fun p hp => ?_, b⟩
          rcases mem_put hp with rfl | hp
          · exact bool_false hc
          · exact a p hp
        · refine .inr ⟨k, ?_, a2, fun p hp h => ?_⟩
          · rw [getA_put, if_neg (fun z : k = e.kn => hc (z ▸ a2))]
            exact a1
          · rcases mem_put hp with rfl | hp
            · exact absurd h hc
            · exact a3 p hp h
    · rw [if_neg hd, if_neg (fun h => hd (heldP_iff.mp h).2.2.symm)]
      exact ih
  · rw [if_neg ho, if_neg (fun h => ho (ofE_iff.mpr (heldP_iff.mp h).1))]
    exact ih
/-- what holds, by rising days -/
structure HoldF (f : Int → V) (L : List (Int × V)) : Prop where
  up : L.Pairwise fun a b => a.1 < b.1
  mem : ∀ d w, (d, w) ∈ L ↔ w ≠ .non ∧ f d = w
def HoldH (h : Hist) (kn : Option Int) (L : List (Int × V)) : Prop := (L.Pairwise fun a b => a.1 < b.1) ∧ L.length ≤ h.length ∧ ∀ d w, (d, w) ∈ L ↔ w ≠ .non ∧ LastW ((getA h d).getD []) kn w
theorem HoldH.held {es : List Evt} {mv : Bool} {who : Str} {kn : Option Int} {L : List (Int × V)} (h : HoldH (histE es mv who) kn L) (hr : Rising es) : HoldF (heldE es mv who kn) L ∧ L.length ≤ es.length := by
  obtain ⟨h1, h2, h3⟩ := h
  refine ⟨⟨h1, fun d w => ?_⟩, Nat.le_trans h2 (hist_keys mv who es).2⟩
  rw [h3]
  have := last_held mv who kn d es hr
  constructor
  · rintro ⟨a, b⟩
    exact ⟨a, this.uniq b⟩
  · rintro ⟨a, rfl⟩
    exact ⟨a, this⟩
theorem HoldF.uniq {f : Int → V} : ∀ {L L' : List (Int × V)}, HoldF f L → HoldF f L' → L = L' := by
  intro L
  induction L generalizing f with
  | nil =>
    intro L' h h'
    cases L' with
    | nil => rfl
    | cons p r => exact nomatch (h.mem p.1 p.2).mpr ((h'.mem p.1 p.2).mp List.mem_cons_self)
  | cons p r ih =>
    intro L' h h'
    cases L' with
    | nil => exact nomatch (h'.mem p.1 p.2).mpr ((h.mem p.1 p.2).mp List.mem_cons_self)
    | cons p' r' =>
      have u := List.pairwise_cons.mp h.up
      have u' := List.pairwise_cons.mp h'.up
      have hp := (h.mem p.1 p.2).mp List.mem_cons_self
      have hp' := (h'.mem p'.1 p'.2).mp List.mem_cons_self
      have e1 : p.1 = p'.1 := by
        have a : p'.1 ≤ p.1 := by
          rcases List.mem_cons.mp ((h'.mem p.1 p.2).mpr hp) with e | e
          · exact Int.le_of_eq (congrArg Prod.fst e).symm
          · exact Int.le_of_lt (u'.1 _ e)
        have b : p.1 ≤ p'.1 := by
          rcases List.mem_cons.mp ((h.mem p'.1 p'.2).mpr hp') with e | e
          · exact Int.le_of_eq (congrArg Prod.fst e).symm
          · exact Int.le_of_lt (u.1 _ e)
        omega
      have e2 : p.2 = p'.2 := by rw [← hp.2, ← hp'.2, e1]
      have e : p = p' := Prod.ext e1 e2
      subst e
      congr 1
      refine ih (f := fun d => if d = p.1 then .non else f d) ⟨u.2, fun d w => ?_⟩ ⟨u'.2, fun d w => ?_⟩
      · by_cases hd : d = p.1
        · rw [if_pos hd]
          constructor
          · intro hm
            have := u.1 _ hm
            omega
          · rintro ⟨a, b⟩
            exact absurd b.symm a
        · rw [if_neg hd, ← h.mem]
          constructor
          · exact List.mem_cons_of_mem _
          · intro hm
            rcases List.mem_cons.mp hm with e | e
            · exact absurd (congrArg Prod.fst e) hd
            · exact e
      · by_cases hd : d = p.1
        · rw [if_pos hd]
          constructor
          · intro hm
            have := u'.1 _ hm
            omega
          · rintro ⟨a, b⟩
            exact absurd b.symm a
        · rw [if_neg hd, ← h'.mem]
          constructor
          · exact List.mem_cons_of_mem _
          · intro hm
            rcases List.mem_cons.mp hm with e | e
            · exact absurd (congrArg Prod.fst e) hd
            · exact e
/-- where one is on a day, by what holds of each day -/
def IsWhere (f : Int → V) (day : Int) (r : V) : Prop :=
  (∃ on, on ≤ day ∧ f on = r ∧ r ≠ .non ∧ ∀ o, o ≤ day → f o ≠ .non → o ≤ on) ∨ ((∀ o, o ≤ day → f o = .non) ∧ r = .str (Str.ofString ""))
theorem IsWhere.uniq {f : Int → V} {day : Int} {r r' : V} (h : IsWhere f day r) (h' : IsWhere f day r') : r = r' := by
  rcases h with ⟨o, a1, a2, a3, a4⟩ | ⟨a, rfl⟩
  · rcases h' with ⟨o', b1, b2, b3, b4⟩ | ⟨b, rfl⟩
    · have : o = o' := Int.le_antisymm (b4 _ a1 (by rw [a2]; exact a3)) (a4 _ b1 (by rw [b2]; exact b3))
      rw [← a2, ← b2, this]
    · exact absurd (a2.symm.trans (b o a1)) a3
  · rcases h' with ⟨o', b1, b2, b3, b4⟩ | ⟨b, rfl⟩
    · exact absurd (b2.symm.trans (a o' b1)) b3
    · rfl
/-- the place by a list that holds, as far as it is gone through -/
def whereL (L : List (Int × V)) (day : Int) : V := L.foldl (fun r p => if p.1 ≤ day then p.2 else r) (.str (Str.ofString ""))
theorem whereL_is {f : Int → V} {L : List (Int × V)} {day : Int} (h : HoldF f L) : IsWhere f day (whereL L day) := by
  have key : ∀ L : List (Int × V), (L.Pairwise fun a b => a.1 < b.1) → (∃ p ∈ L, p.1 ≤ day ∧ whereL L day = p.2 ∧ ∀ q ∈ L, q.1 ≤ day → q.1 ≤ p.1) ∨ ((∀ q ∈ L, ¬ q.1 ≤ day) ∧ whereL L day = .str (Str.ofString "")) := by
    refine snoc_ind (fun _ => .inr ⟨nofun, rfl⟩) fun L p ih hu => ?_
    rw [List.pairwise_append] at hu
    have ew : whereL (L ++ [p]) day = if p.1 ≤ day then p.2 else whereL L day := by
      unfold whereL
      rw [List.foldl_append]
      rfl
    rw [ew]
    by_cases hp : p.1 ≤ day
    · rw [if_pos hp]
      refine .inl ⟨p, List.mem_append_right _ List.mem_cons_self, hp, rfl, fun q hq _ => ?_⟩
      rcases List.mem_append.mp hq with hq | hq
      · exact Int.le_of_lt (hu.2.2 q hq p List.mem_cons_self)
      · rw [List.mem_singleton.mp hq]
        exact Int.le_refl _
    · rw [if_neg hp]
      rcases ih hu.1 with ⟨q, a, b, c, d⟩ | ⟨a, b⟩
      · refine .inl ⟨q, List.mem_append_left _ a, b, c, fun q' hq' hle => ?_⟩
        rcases List.mem_append.mp hq' with hq' | hq'
        · exact d q' hq' hle
        · rw [List.mem_singleton.mp hq'] at hle
          exact absurd hle hp
      · refine .inr ⟨fun q hq => ?_, b⟩
        rcases List.mem_append.mp hq with hq | hq
        · exact a q hq
        · rw [List.mem_singleton.mp hq]
          exact hp
  rcases key L h.up with ⟨p, a, b, c, d⟩ | ⟨a, b⟩
  · obtain ⟨n, e⟩ := (h.mem p.1 p.2).mp a
    exact .inl ⟨p.1, b, e.trans c.symm, by rw [c]; exact n, fun o ho hn => d (o, f o) ((h.mem o (f o)).mpr ⟨hn, rfl⟩) ho⟩
  · refine .inr ⟨fun o ho => Classical.byContradiction fun hn => ?_, b⟩
    exact a (o, f o) ((h.mem o (f o)).mpr ⟨hn, rfl⟩) ho
end LT
set_option Elab.async false
set_option linter.all false
set_option maxRecDepth 100000
set_option maxHeartbeats 1600000
/-! Own layer: a reading told anew; indices. -/
namespace LT
open PySem PySem.Spec PyProof.Rows L2 NdefX
theorem PE.tx {X : Cx} {e : Expr} {t t' : TE} (h : PE X e t) (ht : t = t') : PE X e t' := ht ▸ h
theorem PI.tx {X : Cx} {tg e : Expr} {t t' : TI} (h : PI X tg e t) (ht : t = t') : PI X tg e t' := ht ▸ h
theorem CallR.tx {X : Cx} {f : Value} {r r' : List V → Hp → VK → Prop} (h : CallR X f r) (e : r = r') : CallR X f r' := e ▸ h
theorem paired_imp {α β : Type} {R S : α → β → Prop} (f : ∀ a b, R a b → S a b) : ∀ {xs : List α} {ys : List β}, Paired R xs ys → Paired S xs ys
  | _, _, .nil => .nil
  | _, _, .cons h t => .cons (f _ _ h) (paired_imp f t)
theorem ne_of_none' {H : Hp} {a b : Addr} {o : HO} (n : H a = none) (e : H b = some o) : a ≠ b := (ne_of_none e n).symm
/-- a row without one letter -/
def dropA (r : KRow) (z : Str) : KRow := r.filter fun p => decide (p.1 ≠ z)
theorem KRw.drop {n : Nat} {r : KRow} {z : Str} (h : KRw n r) (hl : 1 < r.length) : KRw n (dropA r z) := by
  refine ⟨fun e => ?_, ?_, fun p hp => h.lt p (List.mem_filter.mp hp).1, fun p hp => h.bd p (List.mem_filter.mp hp).1⟩
  · have all : ∀ p ∈ r, p.1 = z := by
      intro p hp
      by_cases hz : p.1 = z
      · exact hz
      · have : p ∈ dropA r z := List.mem_filter.mpr ⟨hp, decide_eq_true hz⟩
        rw [e] at this
        cases this
    match r, hl, h.nd, all with
    | a :: b :: r, _, nd, all =>
      rw [List.map_cons, List.map_cons, List.nodup_cons] at nd
      refine nd.1 ?_
      rw [all a List.mem_cons_self, ← all b (List.mem_cons_of_mem _ List.mem_cons_self)]
      exact List.mem_cons_self
  · exact h.nd.sublist (List.Sublist.map _ List.filter_sublist)
end LT
set_option Elab.async false
set_option linter.all false
set_option maxRecDepth 100000
set_option maxHeartbeats 1600000
/-! Own layer: books on the heap. -/
namespace LT
open PySem PySem.Spec PyProof.Rows L2 NdefX
/-- all but what stands at some addresses is as it was -/
def SameL (S : List Addr) (H H' : Hp) : Prop := ∀ b o, b ∉ S → H b = some o → H' b = some o
theorem SameL.of {S : List Addr} {H H' : Hp} (s : Same H H') : SameL S H H' := fun b o _ e => s b o e
theorem SameL.ofB {p : Addr} {S : List Addr} {H H' : Hp} (hp : p ∈ S) (s : SameB p H H') : SameL S H H' := fun b o n e => s b o (fun h => n (h ▸ hp)) e
theorem SameL.trans {S : List Addr} {H H1 H2 : Hp} (a : SameL S H H1) (b : SameL S H1 H2) : SameL S H H2 := fun c o n e => b c o n (a c o n e)
theorem SameL.mono {S T : List Addr} {H H' : Hp} (h : ∀ a ∈ S, a ∈ T) (s : SameL S H H') : SameL T H H' := fun b o n e => s b o (fun z => n (h b z)) e
theorem SameL.upd {S : List Addr} {H H' : Hp} {p : Addr} {o : HO} (hp : p ∈ S) (s : SameL S H H') : SameL S H (L2.upd H' p o) := fun b x n e => by
  rw [upd_ne (fun z : b = p => n (by rw [z]; exact hp))]
  exact s b x n e
/-- what was new may change, too -/
theorem SameL.fresh {S T : List Addr} {H H1 H2 : Hp} (a : SameL S H H1) (b : SameL T H1 H2) (h : ∀ c ∈ T, c ∈ S ∨ H c = none) : SameL S H H2 := fun c o n e => by
  refine b c o (fun z => ?_) (a c o n e)
  rcases h c z with h | h
  · exact n h
  · rw [h] at e
    cases e
theorem SameL.same {S : List Addr} {H H' : Hp} (s : SameL S H H') (h : ∀ c ∈ S, H c = none) : Same H H' := fun b o e => s b o (fun z => by rw [h b z] at e; cases e) e
theorem SameL.free {S : List Addr} {H H' : Hp} {a : Addr} (s : SameL S H H') (h : H' a = none) (n : a ∉ S) : H a = none := by
  cases e : H a with
  | none => rfl
  | some o =>
    rw [s a o n e] at h
    cases h
/-! ### a heap without what may change -/
def Ho (M : List Addr) (H : Hp) : Hp := fun a => if a ∈ M then none else H a
theorem ho_iff {M : List Addr} {H : Hp} {a : Addr} {o : HO} : Ho M H a = some o ↔ a ∉ M ∧ H a = some o := by
  unfold Ho
  split <;> simp_all
theorem ho_le {M : List Addr} {H : Hp} : Same (Ho M H) H := fun a o e => (ho_iff.mp e).2
theorem ho_step {M M' S : List Addr} {H H' : Hp} (s : SameL S H H') (hs : ∀ a ∈ S, a ∈ M) (hm : ∀ a ∈ M', a ∈ M ∨ H a = none) : Same (Ho M H) (Ho M' H') := fun a o e => by
  obtain ⟨n, e⟩ := ho_iff.mp e
  refine ho_iff.mpr ⟨fun h => ?_, s a o (fun h => n (hs a h)) e⟩
  rcases hm a h with h | h
  · exact n h
  · rw [h] at e
    cases e
theorem ho_same {M : List Addr} {H H' : Hp} (s : Same H H') : Same (Ho M H) (Ho M H') := ho_step (S := []) (.of s) nofun (fun a h => .inl h)
theorem ho_in {M : List Addr} {H : Hp} {a : Addr} {o : HO} (n : a ∉ M) (e : H a = some o) : Ho M H a = some o := ho_iff.mpr ⟨n, e⟩
/-! ### histories -/
structure HA where
  x : Addr
  dx : Addr
  D : Addr
  g : List (Int × Addr)
  h : Hist
def HA.fp (a : HA) : List Addr := a.x :: a.D :: a.g.map (·.2)
def toldK (t : Told) : List (Key × V) := enA Sum.inl id t
def dayK (g : List (Int × Addr)) : List (Key × V) := enA Sum.inl V.ref g
def DayR (H : Hp) (p : Int × Addr) (e : Int × Told) : Prop := p.1 = e.1 ∧ H p.2 = some (.dK (toldK e.2))
structure HistAt (C : Addr) (H : Hp) (a : HA) : Prop where
  ix : H a.x = some (.ins C a.dx [("by_day", .ref a.D)])
  bd : H a.D = some (.dK (dayK a.g))
  ta : Paired (DayR H) a.g a.h
  nd : a.fp.Nodup
  nk : (a.h.map (·.1)).Nodup
theorem HistAt.by {C : Addr} {H H' : Hp} {a : HA} (h : HistAt C H a) (f : ∀ c ∈ a.fp, ∀ o, H c = some o → H' c = some o) : HistAt C H' a := by
  refine ⟨f _ List.mem_cons_self _ h.ix, f _ (List.mem_cons_of_mem _ List.mem_cons_self) _ h.bd, ?_, h.nd, h.nk⟩
  have : ∀ {g : List (Int × Addr)} {t : Hist}, (∀ c ∈ g.map (·.2), c ∈ a.fp) → Paired (DayR H) g t → Paired (DayR H') g t := by
    intro g t hg hp
    induction hp with
    | nil => exact .nil
    | cons r _ ih => exact .cons ⟨r.1, f _ (hg _ List.mem_cons_self) _ r.2⟩ (ih fun c hc => hg c (List.mem_cons_of_mem _ hc))
  exact this (fun c hc => List.mem_cons_of_mem _ (List.mem_cons_of_mem _ hc)) h.ta
theorem HistAt.mono {C : Addr} {H H' : Hp} {a : HA} (h : HistAt C H a) (s : Same H H') : HistAt C H' a := h.by fun c _ o e => s c o e
theorem HistAt.monoL {C : Addr} {S : List Addr} {H H' : Hp} {a : HA} (h : HistAt C H a) (s : SameL S H H') (n : ∀ c ∈ a.fp, c ∉ S) : HistAt C H' a := h.by fun c hc o e => s c o (n c hc) e
theorem HistAt.ex {C : Addr} {H : Hp} {a : HA} (h : HistAt C H a) : ∀ c ∈ a.fp, ∃ o, H c = some o := by
  intro c hc
  rcases List.mem_cons.mp hc with rfl | hc
  · exact ⟨_, h.ix⟩
  rcases List.mem_cons.mp hc with rfl | hc
  · exact ⟨_, h.bd⟩
  have : ∀ {g : List (Int × Addr)} {t : Hist}, Paired (DayR H) g t → c ∈ g.map (·.2) → ∃ o, H c = some o := by
    intro g t hp
    induction hp with
    | nil => exact nofun
    | cons r _ ih =>
      intro hc
      rcases List.mem_cons.mp hc with rfl | hc
      · exact ⟨_, r.2⟩
      · exact ih hc
  exact this h.ta hc
theorem paired_keys {H : Hp} {g : List (Int × Addr)} {h : Hist} (p : Paired (DayR H) g h) : g.map (·.1) = h.map (·.1) := by
  induction p with
  | nil => rfl
  | cons r _ ih => rw [List.map_cons, List.map_cons, ih, r.1]
theorem paired_at {H : Hp} {d : Int} {g : List (Int × Addr)} {h : Hist} (p : Paired (DayR H) g h) : (getA g d = none ∧ getA h d = none) ∨ ∃ T t, getA g d = some T ∧ getA h d = some t ∧ H T = some (.dK (toldK t)) := by
  induction p with
  | nil => exact .inl ⟨rfl, rfl⟩
  | cons r _ ih =>
    rename_i x y xs ys _
    by_cases e : y.1 = d
    · exact .inr ⟨x.2, y.2, getA_pos (r.1.trans e), getA_pos e, r.2⟩
    · rw [getA_neg (fun z => e (r.1.symm.trans z)), getA_neg e]
      exact ih
theorem day_val (g : List (Int × Addr)) (d : Int) : valV (dayK g) (Sum.inl d) = (getA g d).map V.ref := val_en inl_inj d g
theorem told_val (t : Told) (k : Int) : valV (toldK t) (Sum.inl k) = getA t k := by
  have := val_en (f := id) inl_inj k t
  rw [Option.map_id] at this
  exact this
theorem told_put (t : Told) (k : Int) (v : V) : putK (toldK t) (Sum.inl k) v = toldK (putA t k v) := put_en (f := id) inl_inj t k v
theorem day_put (g : List (Int × Addr)) (d : Int) (T : Addr) : putK (dayK g) (Sum.inl d) (V.ref T) = dayK (putA g d T) := put_en inl_inj g d T
theorem told_len (t : Told) : (toldK t).length = t.length := enA_len ..
theorem day_len (g : List (Int × Addr)) : (dayK g).length = g.length := enA_len ..
theorem dayK_keys (g : List (Int × Addr)) : (dayK g).map (·.1) = (g.map (·.1)).map Sum.inl := by
  unfold dayK enA
  rw [List.map_map, List.map_map]
  rfl
/-- a day's dict put anew -/
theorem paired_set {H H' : Hp} {d : Int} {T : Addr} {t' : Told} {g : List (Int × Addr)} {h : Hist} (p : Paired (DayR H) g h) (hg : getA g d = some T) (nk : (h.map (·.1)).Nodup)
    (hT : H' T = some (.dK (toldK t'))) (ho : ∀ c ∈ g.map (·.2), c ≠ T → ∀ o, H c = some o → H' c = some o) (nd : (g.map (·.2)).Nodup) : Paired (DayR H') g (h.map fun e => if e.1 = d then (e.1, t') else e) := by
  induction p with
  | nil => exact .nil
  | cons r p ih =>
    rename_i x y xs ys
    have nk' := (List.nodup_cons.mp nk)
    have nd' := (List.nodup_cons.mp nd)
    by_cases e : y.1 = d
    · have e1 : x.2 = T := by
        rw [getA_pos (r.1.trans e)] at hg
        exact Option.some.inj hg
      refine .cons ?_ ?_
      · show DayR H' x (if y.1 = d then (y.1, t') else y)
        rw [if_pos e]
        exact ⟨r.1, by rw [e1]; exact hT⟩
      · have em : ys.map (fun e => if e.1 = d then (e.1, t') else e) = ys := by
          have : ∀ q ∈ ys, (if q.1 = d then (q.1, t') else q) = q := fun q hq => if_neg fun z => nk'.1 (List.mem_map.mpr ⟨q, hq, z.trans e.symm⟩)
          exact (List.map_congr_left this).trans (List.map_id _)
        rw [em]
        have : ∀ {g : List (Int × Addr)} {t : Hist}, (∀ c ∈ g.map (·.2), c ∈ xs.map (·.2)) → Paired (DayR H) g t → Paired (DayR H') g t := by
          intro g t hg hp
          induction hp with
          | nil => exact .nil
          | cons r' _ ih' =>
            refine .cons ⟨r'.1, ho _ (List.mem_cons_of_mem _ (hg _ List.mem_cons_self)) (fun z => ?_) _ r'.2⟩ (ih' fun c hc => hg c (List.mem_cons_of_mem _ hc))
            have := hg _ List.mem_cons_self
            rw [z, ← e1] at this
            exact nd'.1 this
        exact this (fun c hc => hc) p
    · rw [getA_neg (fun z => e (r.1.symm.trans z))] at hg
      have hx : x.2 ≠ T := fun z => nd'.1 (by show x.2 ∈ _; rw [z]; exact List.mem_map.mpr ⟨_, getA_mem hg, rfl⟩)
      refine .cons ?_ (ih hg nk'.2 (fun c hc => ho c (List.mem_cons_of_mem _ hc)) nd'.2)
      show DayR H' x (if y.1 = d then (y.1, t') else y)
      rw [if_neg e]
      exact ⟨r.1, ho _ List.mem_cons_self hx _ r.2⟩
theorem putA_old {κ α : Type} [DecidableEq κ] {kvs : List (κ × α)} {k : κ} {v x : α} (h : getA kvs k = some x) : putA kvs k v = kvs.map fun p => if p.1 = k then (p.1, v) else p := by
  unfold putA
  rw [getA_any, h]
  rfl
theorem paired_snoc' {α β : Type} {R : α → β → Prop} : ∀ {xs : List α} {ys : List β} {x : α} {y : β}, Paired R xs ys → R x y → Paired R (xs ++ [x]) (ys ++ [y]) := by
  intro xs ys x y p r
  induction p with
  | nil => exact .cons r .nil
  | cons r' _ ih => exact .cons r' ih
/-- a note of a day that was told of -/
theorem HistAt.note1 {C : Addr} {H H' : Hp} {a : HA} {d kn : Int} {w : V} {T : Addr} {t : Told} (h : HistAt C H a) (hg : getA a.g d = some T) (hh : getA a.h d = some t)
    (hT : H' T = some (.dK (toldK (putA t kn w)))) (ho : ∀ c, c ≠ T → ∀ o, H c = some o → H' c = some o) : HistAt C H' { a with h := noteH a.h kn d w } := by
  have nd := h.nd
  have nd1 := List.nodup_cons.mp nd
  have nd2 := List.nodup_cons.mp nd1.2
  have mT : T ∈ a.g.map (·.2) := List.mem_map.mpr ⟨_, getA_mem hg, rfl⟩
  refine ⟨ho _ (fun z : a.x = T => nd1.1 (List.mem_cons_of_mem _ (by rw [z]; exact mT))) _ h.ix, ho _ (fun z : a.D = T => nd2.1 (by rw [z]; exact mT)) _ h.bd, ?_, h.nd, nodup_put h.nk⟩
  show Paired (DayR H') a.g (noteH a.h kn d w)
  unfold noteH
  rw [hh, Option.getD_some, putA_old hh]
  exact paired_set h.ta hg h.nk hT (fun c _ n o e => ho c n o e) nd2.2
/-- a note of another day -/
theorem HistAt.note2 {C : Addr} {H H' : Hp} {a : HA} {d kn : Int} {w : V} {T : Addr} (h : HistAt C H a) (hg : getA a.g d = none) (hh : getA a.h d = none) (nT : H T = none)
    (hT : H' T = some (.dK (toldK [(kn, w)]))) (hD : H' a.D = some (.dK (dayK (a.g ++ [(d, T)])))) (ho : ∀ c, c ≠ T → c ≠ a.D → ∀ o, H c = some o → H' c = some o) : HistAt C H' { a with g := a.g ++ [(d, T)], h := noteH a.h kn d w } := by
  have nd := h.nd
  have nd1 := List.nodup_cons.mp nd
  have nd2 := List.nodup_cons.mp nd1.2
  have nTf : T ∉ a.fp := fun z => by
    obtain ⟨o, e⟩ := h.ex T z
    rw [nT] at e
    cases e
  refine ⟨ho _ (fun z : a.x = T => nTf (by rw [← z]; exact List.mem_cons_self)) (fun z : a.x = a.D => nd1.1 (by rw [z]; exact List.mem_cons_self)) _ h.ix, hD, ?_, ?_, nodup_put h.nk⟩
  · show Paired (DayR H') (a.g ++ [(d, T)]) (noteH a.h kn d w)
    unfold noteH
    rw [hh, Option.getD_none, putA_new hh]
    refine paired_snoc' ?_ ⟨rfl, hT⟩
    have : ∀ {g : List (Int × Addr)} {t : Hist}, (∀ c ∈ g.map (·.2), c ∈ a.g.map (·.2)) → Paired (DayR H) g t → Paired (DayR H') g t := by
      intro g t hg hp
      induction hp with
      | nil => exact .nil
      | cons r' _ ih' =>
        have m := hg _ List.mem_cons_self
        exact .cons ⟨r'.1, ho _ (fun z => nTf (by rw [← z]; exact List.mem_cons_of_mem _ (List.mem_cons_of_mem _ m))) (fun z => nd2.1 (by rw [← z]; exact m)) _ r'.2⟩ (ih' fun c hc => hg c (List.mem_cons_of_mem _ hc))
    exact this (fun c hc => hc) h.ta
  · show (a.x :: a.D :: (a.g ++ [(d, T)]).map (·.2)).Nodup
    rw [List.map_append]
    have e : a.x :: a.D :: (a.g.map (·.2) ++ [T]) = a.fp ++ [T] := rfl
    show (a.x :: a.D :: (a.g.map (·.2) ++ [T])).Nodup
    rw [e, List.nodup_append]
    refine ⟨nd, List.nodup_cons.mpr ⟨nofun, List.nodup_nil⟩, fun x hx y hy z => ?_⟩
    rw [List.mem_singleton.mp hy] at z
    exact nTf (by rw [← z]; exact hx)
def OKH (a : HA) : Prop := a.h.length ≤ 60 ∧ ∀ e ∈ a.h, e.2.length ≤ 60
theorem OKH.of {es : List Evt} {mv : Bool} {who : Str} {a : HA} (h : a.h = histE es mv who) (hl : es.length ≤ 60) : OKH a := by
  obtain ⟨k1, k2⟩ := hist_keys mv who es
  refine ⟨by rw [h]; omega, fun e he => ?_⟩
  rw [h] at he
  have := (hist_of mv who es e.1 e.2 (getA_of_mem k1 he)).2.1
  omega
def spHInit (C : Addr) : Sp := fun vs H Q _ => ∃ (x dx : Addr), vs = [.ref x] ∧ H x = some (.ins C dx []) ∧
  ∀ (a : HA) (H' : Hp), a.x = x → a.h = [] → a.g = [] → H a.D = none → HistAt C H' a → SameB x H H' → Q .non H'
def spNote (C : Addr) : Sp := fun vs H Q _ => ∃ (a : HA) (kn d : Int) (w : V), vs = [.ref a.x, .int kn, .int d, w] ∧ HistAt C H a ∧ OKH a ∧
  ∀ (a' : HA) (H' : Hp), a'.x = a.x → a'.h = noteH a.h kn d w → HistAt C H' a' → (∀ c ∈ a'.fp, c ∈ a.fp ∨ H c = none) → SameL a.fp H H' → Q .non H'
def spLast (C : Addr) : Sp := fun vs H Q _ => ∃ (a : HA) (d : Int) (kn : Option Int), vs = [.ref a.x, .int d, knV kn] ∧ HistAt C H a ∧ OKH a ∧
  ∀ (w : V) (H' : Hp), LastW ((getA a.h d).getD []) kn w → Same H H' → Q w H'
/-- tuples of a day and a worth -/
def RowsP (H : Hp) (ts : List Addr) (L : List (Int × V)) : Prop := Paired (fun t (p : Int × V) => H t = some (.tup [.int p.1, p.2])) ts L
theorem RowsP.mono {H H' : Hp} {ts : List Addr} {L : List (Int × V)} (h : RowsP H ts L) (s : Same H H') : RowsP H' ts L := paired_imp (fun _ _ h => s _ _ h) h
theorem RowsP.snoc {H : Hp} {ts : List Addr} {L : List (Int × V)} {t : Addr} {d : Int} {w : V} (h : RowsP H ts L) (e : H t = some (.tup [.int d, w])) : RowsP H (ts ++ [t]) (L ++ [(d, w)]) := paired_snoc' h e
theorem RowsP.upd {H : Hp} {ts : List Addr} {L : List (Int × V)} {F : Addr} {xs : List V} {o : HO} (h : RowsP H ts L) (e : H F = some (.lst xs)) : RowsP (L2.upd H F o) ts L := paired_imp (fun t p h => by rw [upd_ne (ne_of h e (by intro z; cases z))]; exact h) h
theorem RowsP.at_ {H : Hp} {ts : List Addr} {L : List (Int × V)} {i : Nat} {v : V} (h : RowsP H ts L) (e : (ts.map V.ref)[i]? = some v) : ∃ t p, v = .ref t ∧ L[i]? = some p ∧ H t = some (.tup [.int p.1, p.2]) := by
  rw [List.getElem?_map, Option.map_eq_some_iff] at e
  obtain ⟨t, e, rfl⟩ := e
  obtain ⟨p, h1, h2⟩ := paired_get h e
  exact ⟨t, p, rfl, h1, h2⟩
/-- a list of them -/
def RowsAt (H : Hp) (l : Addr) (L : List (Int × V)) : Prop := ∃ ts : List Addr, H l = some (.lst (ts.map V.ref)) ∧ RowsP H ts L
theorem RowsAt.mono {H H' : Hp} {l : Addr} {L : List (Int × V)} (h : RowsAt H l L) (s : Same H H') : RowsAt H' l L := by
  obtain ⟨ts, a, b⟩ := h
  exact ⟨ts, s _ _ a, b.mono s⟩
theorem HistAt.glen {C : Addr} {H : Hp} {a : HA} (h : HistAt C H a) : a.g.length = a.h.length := Paired.length h.ta
/-- of all days, by rising days, those of which anything holds -/
theorem hold_of {h : Hist} {kn : Option Int} {ys : List Int} {rs : List (Int × V)} (nk : (h.map (·.1)).Nodup) (perm : ys.Perm (h.map (·.1))) (up : ys.Pairwise (· ≤ ·)) (ek : rs.map (·.1) = ys)
    (hl : ∀ p ∈ rs, LastW ((getA h p.1).getD []) kn p.2) : HoldH h kn (rs.filter fun p => !decide (p.2 = .non)) := by
  have nd : ys.Nodup := perm.nodup_iff.mpr nk
  have lt : ys.Pairwise (· < ·) := (up.and nd).imp fun ⟨a, b⟩ => by omega
  refine ⟨?_, ?_, fun d w => ?_⟩
  · rw [← ek, List.pairwise_map] at lt
    exact lt.filter _
  · refine Nat.le_trans (List.length_filter_le _ _) ?_
    have e1 := congrArg List.length ek
    have e2 := perm.length_eq
    rw [List.length_map] at e1 e2
    omega
  · rw [List.mem_filter]
    constructor
    · rintro ⟨a, b⟩
      refine ⟨fun e => ?_, hl _ a⟩
      have b : (!decide (w = V.non)) = true := b
      rw [decide_eq_true e] at b
      cases b
    · rintro ⟨a, b⟩
      have hd : d ∈ ys := by
        rw [perm.mem_iff]
        cases hg : getA h d with
        | none =>
          rw [hg] at b
          exact absurd (b.uniq .nil) a
        | some t => exact List.mem_map.mpr ⟨_, getA_mem hg, rfl⟩
      rw [← ek] at hd
      obtain ⟨p, hp, e⟩ := List.mem_map.mp hd
      have e2 := hl p hp
      rw [e] at e2
      have e3 := e2.uniq b
      refine ⟨by rw [← e, ← e3]; exact hp, ?_⟩
      show (!decide (w = V.non)) = true
      rw [decide_eq_false a]
      rfl
def spHolding (C : Addr) : Sp := fun vs H Q _ => ∃ (a : HA) (kn : Option Int), vs = [.ref a.x, knV kn] ∧ HistAt C H a ∧ OKH a ∧
  ∀ (l : Addr) (L : List (Int × V)) (H' : Hp), H l = none → RowsAt H' l L → HoldH a.h kn L → Same H H' → Q (.ref l) H'
end LT
set_option Elab.async false
set_option linter.all false
set_option maxRecDepth 100000
set_option maxHeartbeats 1600000
/-! Own layer: a book on the heap. -/
namespace LT
open PySem PySem.Spec PyProof.Rows L2 NdefX
structure BA where
  b : Addr
  dx : Addr
  R : Addr
  M : Addr
  L : Addr
  mv : List (Str × HA)
  ld : List (Str × HA)
  rk : List (Str × Int)
  es : List Evt
def hsfp (hs : List (Str × HA)) : List Addr := hs.flatMap fun e => e.2.fp
def hsK (hs : List (Str × HA)) : List (Key × V) := enA Sum.inr (fun a : HA => V.ref a.x) hs
def BA.fp (B : BA) : List Addr := B.b :: B.R :: B.M :: B.L :: (hsfp B.mv ++ hsfp B.ld)
def lateV (es : List Evt) : V := match es.getLast? with
  | none => .non
  | some e => .int e.kn
/-- ranks -/
structure Rk (rk : List (Str × Int)) : Prop where
  nd : (rk.map (·.1)).Nodup
  nm : ∀ p ∈ rk, Nm p.1
  b1 : ∀ p ∈ rk, 1 ≤ p.2 ∧ p.2 ≤ 9
  ln : rk.length ≤ 30
def Pl (z : Str) : Prop := z = Str.ofString "" ∨ Nm z
structure EvOK (rk : List (Str × Int)) (e : Evt) : Prop where
  k0 : 0 ≤ e.kn
  d0 : 0 ≤ e.day
  d1 : e.day < 10 ^ 55
  mw : e.mv = true → e.who ∈ rk.map (·.1) ∧ (e.w = .non ∨ ∃ z, e.w = .str z ∧ Pl z)
  lw : e.mv = false → Nm e.who ∧ ∃ n : Int, e.w = .int n ∧ 0 ≤ n ∧ n < 10 ^ 57
structure BkH (CB CH : Addr) (H : Hp) (B : BA) (v : V) : Prop where
  ix : H B.b = some (.ins CB B.dx [("rank_of", .ref B.R), ("moves", .ref B.M), ("landings", .ref B.L), ("latest_known", v)])
  rd : H B.R = some (.dK (sd B.rk))
  md : H B.M = some (.dK (hsK B.mv))
  ldd : H B.L = some (.dK (hsK B.ld))
  hm : ∀ e ∈ B.mv, HistAt CH H e.2
  hl : ∀ e ∈ B.ld, HistAt CH H e.2
  nd : B.fp.Nodup
structure BkP (B : BA) : Prop where
  rk : Rk B.rk
  km : B.mv.map (·.1) = B.rk.map (·.1)
  lk : (B.ld.map (·.1)).Nodup
  hm : ∀ e ∈ B.mv, e.2.h = histE B.es true e.1
  hl : ∀ e ∈ B.ld, e.2.h = histE B.es false e.1
  ln : ∀ e ∈ B.es, e.mv = false → e.who ∈ B.ld.map (·.1)
  up : Rising B.es
  ev : ∀ e ∈ B.es, EvOK B.rk e
theorem hsfp_app (a b : List (Str × HA)) : hsfp (a ++ b) = hsfp a ++ hsfp b := List.flatMap_append
theorem hsfp_cons (e : Str × HA) (b : List (Str × HA)) : hsfp (e :: b) = e.2.fp ++ hsfp b := rfl
theorem hsfp_mem {hs : List (Str × HA)} {c : Addr} : c ∈ hsfp hs ↔ ∃ e ∈ hs, c ∈ e.2.fp := List.mem_flatMap
theorem BkH.ex {CB CH : Addr} {H : Hp} {B : BA} {v : V} (h : BkH CB CH H B v) : ∀ c ∈ B.fp, ∃ o, H c = some o := by
  intro c hc
  rcases List.mem_cons.mp hc with rfl | hc
  · exact ⟨_, h.ix⟩
  rcases List.mem_cons.mp hc with rfl | hc
  · exact ⟨_, h.rd⟩
  rcases List.mem_cons.mp hc with rfl | hc
  · exact ⟨_, h.md⟩
  rcases List.mem_cons.mp hc with rfl | hc
  · exact ⟨_, h.ldd⟩
  rcases List.mem_append.mp hc with hc | hc
  · obtain ⟨e, he, hc⟩ := hsfp_mem.mp hc
    exact (h.hm e he).ex c hc
  · obtain ⟨e, he, hc⟩ := hsfp_mem.mp hc
    exact (h.hl e he).ex c hc
theorem BkH.by {CB CH : Addr} {H H' : Hp} {B : BA} {v : V} (h : BkH CB CH H B v) (f : ∀ c ∈ B.fp, ∀ o, H c = some o → H' c = some o) : BkH CB CH H' B v := by
  have m1 : B.b ∈ B.fp := List.mem_cons_self
  have m2 : B.R ∈ B.fp := List.mem_cons_of_mem _ List.mem_cons_self
  have m3 : B.M ∈ B.fp := List.mem_cons_of_mem _ (List.mem_cons_of_mem _ List.mem_cons_self)
  have m4 : B.L ∈ B.fp := List.mem_cons_of_mem _ (List.mem_cons_of_mem _ (List.mem_cons_of_mem _ List.mem_cons_self))
  have mt : ∀ c ∈ hsfp B.mv ++ hsfp B.ld, c ∈ B.fp := fun c hc => List.mem_cons_of_mem _ (List.mem_cons_of_mem _ (List.mem_cons_of_mem _ (List.mem_cons_of_mem _ hc)))
  exact ⟨f _ m1 _ h.ix, f _ m2 _ h.rd, f _ m3 _ h.md, f _ m4 _ h.ldd,
    fun e he => (h.hm e he).by fun c hc => f c (mt c (List.mem_append_left _ (hsfp_mem.mpr ⟨e, he, hc⟩))),
    fun e he => (h.hl e he).by fun c hc => f c (mt c (List.mem_append_right _ (hsfp_mem.mpr ⟨e, he, hc⟩))), h.nd⟩
theorem nodup_swap {X F F' Y : List Addr} (h : (X ++ (F ++ Y)).Nodup) (h' : F'.Nodup) (hs : ∀ c ∈ F', c ∈ F ∨ (c ∉ X ∧ c ∉ Y)) : (X ++ (F' ++ Y)).Nodup := by
  rw [List.nodup_append, List.nodup_append] at h ⊢
  obtain ⟨a, ⟨b, c, d⟩, e⟩ := h
  refine ⟨a, ⟨h', c, fun x hx y hy z => ?_⟩, fun x hx y hy z => ?_⟩
  · subst z
    rcases hs x hx with h | h
    · exact d x h x hy rfl
    · exact h.2 hy
  · subst z
    rcases List.mem_append.mp hy with hy | hy
    · rcases hs x hy with h | h
      · exact e x hx x (List.mem_append_left _ h) rfl
      · exact h.1 hx
    · exact e x hx x (List.mem_append_right _ hy) rfl
theorem get_split {α : Type} {z : Str} {a : α} : ∀ {hs : List (Str × α)}, getA hs z = some a → ∃ l1 l2, hs = l1 ++ (z, a) :: l2 ∧ z ∉ l1.map (·.1)
  | [], h => nomatch h
  | p :: r, h => by
    by_cases e : p.1 = z
    · rw [getA_pos e] at h
      cases h
      subst e
      exact ⟨[], r, rfl, nofun⟩
    · rw [getA_neg e] at h
      obtain ⟨l1, l2, rfl, n⟩ := get_split h
      refine ⟨p :: l1, l2, rfl, fun hm => ?_⟩
      rcases List.mem_cons.mp hm with hm | hm
      · exact e hm.symm
      · exact n hm
theorem hsK_swap {l1 l2 : List (Str × HA)} {z : Str} {a a' : HA} (h : a'.x = a.x) : hsK (l1 ++ (z, a') :: l2) = hsK (l1 ++ (z, a) :: l2) := by
  unfold hsK enA
  rw [List.map_append, List.map_append, List.map_cons, List.map_cons]
  show _ ++ ((Sum.inr z : Key), V.ref a'.x) :: _ = _ ++ ((Sum.inr z : Key), V.ref a.x) :: _
  rw [h]
theorem step_eq (mv : Bool) (kn : Int) (z : Str) (d : Int) (w : V) (h : Hist) : stepH mv z h ⟨mv, kn, z, d, w⟩ = noteH h kn d w := by
  unfold stepH
  rw [show ofE mv z ⟨mv, kn, z, d, w⟩ = true from ofE_iff.mpr ⟨rfl, rfl⟩]
  rfl
theorem step_ne {mv : Bool} {who : Str} {h : Hist} {e : Evt} (n : ¬ (e.mv = mv ∧ e.who = who)) : stepH mv who h e = h := by
  unfold stepH
  rw [if_neg (fun z => n (ofE_iff.mp z))]
/-- one keeper's history put otherwise -/
theorem BkH.setM {CB CH : Addr} {H H' : Hp} {B : BA} {v : V} {l1 l2 : List (Str × HA)} {z : Str} {a a' : HA} (h : BkH CB CH H B v) (e : B.mv = l1 ++ (z, a) :: l2)
    (h' : HistAt CH H' a') (ex : a'.x = a.x) (fr : ∀ c ∈ a'.fp, c ∈ a.fp ∨ H c = none) (s : SameL a.fp H H') :
    BkH CB CH H' { B with mv := l1 ++ (z, a') :: l2 } v ∧ (∀ c ∈ BA.fp { B with mv := l1 ++ (z, a') :: l2 }, c ∈ B.fp ∨ H c = none) ∧ SameL B.fp H H' := by
  have efp : B.fp = (B.b :: B.R :: B.M :: B.L :: hsfp l1) ++ (a.fp ++ (hsfp l2 ++ hsfp B.ld)) := by
    unfold BA.fp
    rw [e, hsfp_app, hsfp_cons, List.append_assoc, List.append_assoc]
    rfl
  have efp' : BA.fp { B with mv := l1 ++ (z, a') :: l2 } = (B.b :: B.R :: B.M :: B.L :: hsfp l1) ++ (a'.fp ++ (hsfp l2 ++ hsfp B.ld)) := by
    unfold BA.fp
    show B.b :: B.R :: B.M :: B.L :: (hsfp (l1 ++ (z, a') :: l2) ++ hsfp B.ld) = _
    rw [hsfp_app, hsfp_cons, List.append_assoc, List.append_assoc]
    rfl
  have nd := h.nd
  rw [efp] at nd
  have nd0 := nd
  rw [List.nodup_append, List.nodup_append] at nd
  obtain ⟨_, ⟨_, _, n3⟩, n4⟩ := nd
  have offX : ∀ c ∈ B.b :: B.R :: B.M :: B.L :: hsfp l1, c ∉ a.fp := fun c hc hf => n4 c hc c (List.mem_append_left _ hf) rfl
  have offY : ∀ c ∈ hsfp l2 ++ hsfp B.ld, c ∉ a.fp := fun c hc hf => n3 c hf c hc rfl
  have exf := h.ex
  refine ⟨⟨s _ _ (offX _ List.mem_cons_self) h.ix, s _ _ (offX _ (List.mem_cons_of_mem _ List.mem_cons_self)) h.rd, ?_, s _ _ (offX _ (List.mem_cons_of_mem _ (List.mem_cons_of_mem _ (List.mem_cons_of_mem _ List.mem_cons_self)))) h.ldd, ?_, ?_, ?_⟩, ?_, ?_⟩
  · show H' B.M = some (.dK (hsK (l1 ++ (z, a') :: l2)))
    rw [hsK_swap ex, ← e]
    exact s _ _ (offX _ (List.mem_cons_of_mem _ (List.mem_cons_of_mem _ List.mem_cons_self))) h.md
  · intro q hq
    rcases List.mem_append.mp hq with hq | hq
    · exact (h.hm q (by rw [e]; exact List.mem_append_left _ hq)).monoL s fun c hc => offX c (List.mem_cons_of_mem _ (List.mem_cons_of_mem _ (List.mem_cons_of_mem _ (List.mem_cons_of_mem _ (hsfp_mem.mpr ⟨q, hq, hc⟩)))))
    · rcases List.mem_cons.mp hq with rfl | hq
      · exact h'
      · exact (h.hm q (by rw [e]; exact List.mem_append_right _ (List.mem_cons_of_mem _ hq))).monoL s fun c hc => offY c (List.mem_append_left _ (hsfp_mem.mpr ⟨q, hq, hc⟩))
  · exact fun q hq => (h.hl q hq).monoL s fun c hc => offY c (List.mem_append_right _ (hsfp_mem.mpr ⟨q, hq, hc⟩))
  · rw [efp']
    refine nodup_swap nd0 h'.nd fun c hc => ?_
    rcases fr c hc with f | f
    · exact .inl f
    · refine .inr ⟨fun z => ?_, fun z => ?_⟩
      · obtain ⟨o, w⟩ := exf c (by rw [efp]; exact List.mem_append_left _ z)
        rw [f] at w
        cases w
      · obtain ⟨o, w⟩ := exf c (by rw [efp]; exact List.mem_append_right _ (List.mem_append_right _ z))
        rw [f] at w
        cases w
  · intro c hc
    rw [efp'] at hc
    rw [efp]
    rcases List.mem_append.mp hc with hc | hc
    · exact .inl (List.mem_append_left _ hc)
    · rcases List.mem_append.mp hc with hc | hc
      · exact (fr c hc).imp (fun f => List.mem_append_right _ (List.mem_append_left _ f)) id
      · exact .inl (List.mem_append_right _ (List.mem_append_right _ hc))
  · refine s.mono fun c hc => ?_
    rw [efp]
    exact List.mem_append_right _ (List.mem_append_left _ hc)
/-- one light's history put otherwise -/
theorem BkH.setL {CB CH : Addr} {H H' : Hp} {B : BA} {v : V} {l1 l2 : List (Str × HA)} {z : Str} {a a' : HA} (h : BkH CB CH H B v) (e : B.ld = l1 ++ (z, a) :: l2)
    (h' : HistAt CH H' a') (ex : a'.x = a.x) (fr : ∀ c ∈ a'.fp, c ∈ a.fp ∨ H c = none) (s : SameL a.fp H H') :
    BkH CB CH H' { B with ld := l1 ++ (z, a') :: l2 } v ∧ (∀ c ∈ BA.fp { B with ld := l1 ++ (z, a') :: l2 }, c ∈ B.fp ∨ H c = none) ∧ SameL B.fp H H' := by
  have efp : B.fp = (B.b :: B.R :: B.M :: B.L :: (hsfp B.mv ++ hsfp l1)) ++ (a.fp ++ hsfp l2) := by
    unfold BA.fp
    rw [e, hsfp_app, hsfp_cons, ← List.append_assoc]
    rfl
  have efp' : BA.fp { B with ld := l1 ++ (z, a') :: l2 } = (B.b :: B.R :: B.M :: B.L :: (hsfp B.mv ++ hsfp l1)) ++ (a'.fp ++ hsfp l2) := by
    unfold BA.fp
    show B.b :: B.R :: B.M :: B.L :: (hsfp B.mv ++ hsfp (l1 ++ (z, a') :: l2)) = _
    rw [hsfp_app, hsfp_cons, ← List.append_assoc]
    rfl
  have nd := h.nd
  rw [efp] at nd
  have nd0 := nd
  rw [List.nodup_append, List.nodup_append] at nd
  obtain ⟨_, ⟨_, _, n3⟩, n4⟩ := nd
  have offX : ∀ c ∈ B.b :: B.R :: B.M :: B.L :: (hsfp B.mv ++ hsfp l1), c ∉ a.fp := fun c hc hf => n4 c hc c (List.mem_append_left _ hf) rfl
  have offY : ∀ c ∈ hsfp l2, c ∉ a.fp := fun c hc hf => n3 c hf c hc rfl
  have exf := h.ex
  have d4 : ∀ {c : Addr} {X : List Addr}, c ∈ X → c ∈ B.b :: B.R :: B.M :: B.L :: X := fun h => List.mem_cons_of_mem _ (List.mem_cons_of_mem _ (List.mem_cons_of_mem _ (List.mem_cons_of_mem _ h)))
  refine ⟨⟨s _ _ (offX _ List.mem_cons_self) h.ix, s _ _ (offX _ (List.mem_cons_of_mem _ List.mem_cons_self)) h.rd, s _ _ (offX _ (List.mem_cons_of_mem _ (List.mem_cons_of_mem _ List.mem_cons_self))) h.md, ?_, ?_, ?_, ?_⟩, ?_, ?_⟩
  · show H' B.L = some (.dK (hsK (l1 ++ (z, a') :: l2)))
    rw [hsK_swap ex, ← e]
    exact s _ _ (offX _ (List.mem_cons_of_mem _ (List.mem_cons_of_mem _ (List.mem_cons_of_mem _ List.mem_cons_self)))) h.ldd
  · exact fun q hq => (h.hm q hq).monoL s fun c hc => offX c (d4 (List.mem_append_left _ (hsfp_mem.mpr ⟨q, hq, hc⟩)))
  · intro q hq
    rcases List.mem_append.mp hq with hq | hq
    · exact (h.hl q (by rw [e]; exact List.mem_append_left _ hq)).monoL s fun c hc => offX c (d4 (List.mem_append_right _ (hsfp_mem.mpr ⟨q, hq, hc⟩)))
    · rcases List.mem_cons.mp hq with rfl | hq
      · exact h'
      · exact (h.hl q (by rw [e]; exact List.mem_append_right _ (List.mem_cons_of_mem _ hq))).monoL s fun c hc => offY c (hsfp_mem.mpr ⟨q, hq, hc⟩)
  · rw [efp']
    refine nodup_swap nd0 h'.nd fun c hc => ?_
    rcases fr c hc with f | f
    · exact .inl f
    · refine .inr ⟨fun z => ?_, fun z => ?_⟩
      · obtain ⟨o, w⟩ := exf c (by rw [efp]; exact List.mem_append_left _ z)
        rw [f] at w
        cases w
      · obtain ⟨o, w⟩ := exf c (by rw [efp]; exact List.mem_append_right _ (List.mem_append_right _ z))
        rw [f] at w
        cases w
  · intro c hc
    rw [efp'] at hc
    rw [efp]
    rcases List.mem_append.mp hc with hc | hc
    · exact .inl (List.mem_append_left _ hc)
    · rcases List.mem_append.mp hc with hc | hc
      · exact (fr c hc).imp (fun f => List.mem_append_right _ (List.mem_append_left _ f)) id
      · exact .inl (List.mem_append_right _ (List.mem_append_right _ hc))
  · refine s.mono fun c hc => ?_
    rw [efp]
    exact List.mem_append_right _ (List.mem_append_left _ hc)
/-- one light more -/
theorem BkH.newL {CB CH : Addr} {H H1 H' : Hp} {B : BA} {v : V} {z : Str} {a : HA} (h : BkH CB CH H B v) (s1 : Same H H1) (h' : HistAt CH H1 a) (fr : ∀ c ∈ a.fp, H c = none)
    (hL : H' B.L = some (.dK (hsK (B.ld ++ [(z, a)])))) (s : SameB B.L H1 H') :
    BkH CB CH H' { B with ld := B.ld ++ [(z, a)] } v ∧ (∀ c ∈ BA.fp { B with ld := B.ld ++ [(z, a)] }, c ∈ B.fp ∨ H c = none) ∧ SameL B.fp H H' := by
  have efp' : BA.fp { B with ld := B.ld ++ [(z, a)] } = B.fp ++ a.fp := by
    unfold BA.fp
    show B.b :: B.R :: B.M :: B.L :: (hsfp B.mv ++ hsfp (B.ld ++ [(z, a)])) = _
    rw [hsfp_app, ← List.append_assoc]
    show _ = B.b :: B.R :: B.M :: B.L :: (hsfp B.mv ++ hsfp B.ld ++ a.fp)
    rw [show hsfp [(z, a)] = a.fp from List.append_nil _]
  have exf := h.ex
  have nd := h.nd
  have n1 := (List.nodup_cons.mp nd).1
  have n2 := (List.nodup_cons.mp (List.nodup_cons.mp nd).2).1
  have n3 := (List.nodup_cons.mp (List.nodup_cons.mp (List.nodup_cons.mp nd).2).2).1
  have n4 := (List.nodup_cons.mp (List.nodup_cons.mp (List.nodup_cons.mp (List.nodup_cons.mp nd).2).2).2).1
  have mL : B.L ∈ B.fp := List.mem_cons_of_mem _ (List.mem_cons_of_mem _ (List.mem_cons_of_mem _ List.mem_cons_self))
  have up : ∀ c o, c ≠ B.L → H c = some o → H' c = some o := fun c o n e => s c o n (s1 c o e)
  refine ⟨⟨up _ _ (fun z => n1 (by rw [z]; exact List.mem_cons_of_mem _ (List.mem_cons_of_mem _ List.mem_cons_self))) h.ix, up _ _ (fun z => n2 (by rw [z]; exact List.mem_cons_of_mem _ List.mem_cons_self)) h.rd,
    up _ _ (fun z => n3 (by rw [z]; exact List.mem_cons_self)) h.md, hL, ?_, ?_, ?_⟩, ?_, ?_⟩
  · exact fun q hq => (h.hm q hq).by fun c hc o e => up c o (fun z => n4 (by rw [← z]; exact List.mem_append_left _ (hsfp_mem.mpr ⟨q, hq, hc⟩))) e
  · intro q hq
    rcases List.mem_append.mp hq with hq | hq
    · exact (h.hl q hq).by fun c hc o e => up c o (fun z => n4 (by rw [← z]; exact List.mem_append_right _ (hsfp_mem.mpr ⟨q, hq, hc⟩))) e
    · rw [List.mem_singleton.mp hq]
      refine h'.by fun c hc o e => s c o (fun z => ?_) e
      obtain ⟨o', w⟩ := exf B.L mL
      rw [← z, fr c hc] at w
      cases w
  · rw [efp', List.nodup_append]
    refine ⟨nd, h'.nd, fun x hx y hy z => ?_⟩
    obtain ⟨o', w⟩ := exf x hx
    rw [z, fr y hy] at w
    cases w
  · intro c hc
    rw [efp'] at hc
    exact (List.mem_append.mp hc).imp id (fr c)
  · exact fun c o n e => up c o (fun z => n (by rw [z]; exact mL)) e
/-- another latest day -/
theorem BkH.late {CB CH : Addr} {H : Hp} {B : BA} {v : V} (h : BkH CB CH H B v) (v' : V) :
    BkH CB CH (upd H B.b (.ins CB B.dx [("rank_of", .ref B.R), ("moves", .ref B.M), ("landings", .ref B.L), ("latest_known", v')])) B v' := by
  have n1 := (List.nodup_cons.mp h.nd).1
  have up : ∀ {c : Addr} {o : HO}, c ∈ B.R :: B.M :: B.L :: (hsfp B.mv ++ hsfp B.ld) → H c = some o → upd H B.b (.ins CB B.dx [("rank_of", .ref B.R), ("moves", .ref B.M), ("landings", .ref B.L), ("latest_known", v')]) c = some o := fun hc e => by
    rw [upd_ne (fun z => n1 (by rw [← z]; exact hc))]
    exact e
  have d3 : ∀ {c : Addr}, c ∈ hsfp B.mv ++ hsfp B.ld → c ∈ B.R :: B.M :: B.L :: (hsfp B.mv ++ hsfp B.ld) := fun h => List.mem_cons_of_mem _ (List.mem_cons_of_mem _ (List.mem_cons_of_mem _ h))
  exact ⟨upd_same, up List.mem_cons_self h.rd, up (List.mem_cons_of_mem _ List.mem_cons_self) h.md, up (List.mem_cons_of_mem _ (List.mem_cons_of_mem _ List.mem_cons_self)) h.ldd,
    fun q hq => (h.hm q hq).by fun c hc o e => up (d3 (List.mem_append_left _ (hsfp_mem.mpr ⟨q, hq, hc⟩))) e,
    fun q hq => (h.hl q hq).by fun c hc o e => up (d3 (List.mem_append_right _ (hsfp_mem.mpr ⟨q, hq, hc⟩))) e, h.nd⟩
/-- a book of these ranks stands at b, told these things; its own addresses are fp -/
def Bk (CB CH : Addr) (H : Hp) (b : Addr) (rk : List (Str × Int)) (es : List Evt) (fp : List Addr) : Prop :=
  ∃ B : BA, B.b = b ∧ B.rk = rk ∧ B.es = es ∧ B.fp = fp ∧ BkH CB CH H B (lateV es) ∧ BkP B ∧ B.ld.length ≤ B.es.length
theorem Bk.by {CB CH : Addr} {H H' : Hp} {b : Addr} {rk : List (Str × Int)} {es : List Evt} {fp : List Addr} (h : Bk CB CH H b rk es fp) (f : ∀ c ∈ fp, ∀ o, H c = some o → H' c = some o) : Bk CB CH H' b rk es fp := by
  obtain ⟨B, rfl, rfl, rfl, rfl, h1, h2⟩ := h
  exact ⟨B, rfl, rfl, rfl, rfl, h1.by f, h2⟩
theorem Bk.mono {CB CH : Addr} {H H' : Hp} {b : Addr} {rk : List (Str × Int)} {es : List Evt} {fp : List Addr} (h : Bk CB CH H b rk es fp) (s : Same H H') : Bk CB CH H' b rk es fp := h.by fun c _ o e => s c o e
theorem Bk.monoL {CB CH : Addr} {H H' : Hp} {S : List Addr} {b : Addr} {rk : List (Str × Int)} {es : List Evt} {fp : List Addr} (h : Bk CB CH H b rk es fp) (s : SameL S H H') (n : ∀ c ∈ fp, c ∉ S) : Bk CB CH H' b rk es fp := h.by fun c hc o e => s c o (n c hc) e
theorem Bk.ex {CB CH : Addr} {H : Hp} {b : Addr} {rk : List (Str × Int)} {es : List Evt} {fp : List Addr} (h : Bk CB CH H b rk es fp) : ∀ c ∈ fp, ∃ o, H c = some o := by
  obtain ⟨B, rfl, rfl, rfl, rfl, h1, _⟩ := h
  exact h1.ex
theorem Bk.ev {CB CH : Addr} {H : Hp} {b : Addr} {rk : List (Str × Int)} {es : List Evt} {fp : List Addr} (h : Bk CB CH H b rk es fp) : Rk rk ∧ Rising es ∧ ∀ e ∈ es, EvOK rk e := by
  obtain ⟨B, rfl, rfl, rfl, rfl, _, h2, _⟩ := h
  exact ⟨h2.rk, h2.up, h2.ev⟩
theorem lateV_snoc (es : List Evt) (e : Evt) : lateV (es ++ [e]) = .int e.kn := by
  unfold lateV
  rw [List.getLast?_append]
  rfl
theorem late_le {es : List Evt} {kn : Int} (h : ∀ e ∈ es, e.kn ≤ kn) : lateV es = .non ∨ ∃ l, lateV es = .int l ∧ l ≤ kn := by
  unfold lateV
  cases e : es.getLast? with
  | none => exact .inl rfl
  | some x => exact .inr ⟨x.kn, rfl, h x (List.mem_of_getLast? e)⟩
theorem rising_app {es : List Evt} {e : Evt} (h : Rising es) (g : ∀ a ∈ es, a.kn ≤ e.kn) : Rising (es ++ [e]) := by
  rw [Rising, List.pairwise_append]
  refine ⟨h, List.pairwise_singleton _ _, fun a ha b hb => ?_⟩
  rw [List.mem_singleton.mp hb]
  exact g a ha
/-- the pure side of a told move -/
theorem BkP.tell {B : BA} {l1 l2 : List (Str × HA)} {z : Str} {a a' : HA} {kn d : Int} {w : V} (h : BkP B) (e : B.mv = l1 ++ (z, a) :: l2) (ha : a'.h = noteH a.h kn d w)
    (hk : ∀ x ∈ B.es, x.kn ≤ kn) (ok : EvOK B.rk ⟨true, kn, z, d, w⟩) : BkP { B with mv := l1 ++ (z, a') :: l2, es := B.es ++ [⟨true, kn, z, d, w⟩] } := by
  have nk : (B.mv.map (·.1)).Nodup := by rw [h.km]; exact h.rk.nd
  rw [e, List.map_append, List.map_cons, List.nodup_append, List.nodup_cons] at nk
  obtain ⟨_, ⟨k2, _⟩, k4⟩ := nk
  have hne : ∀ q ∈ l1 ++ l2, q.1 ≠ z := by
    intro q hq hz
    rcases List.mem_append.mp hq with hq | hq
    · exact k4 z (by rw [← hz]; exact List.mem_map.mpr ⟨q, hq, rfl⟩) z List.mem_cons_self rfl
    · exact k2 (by show z ∈ _; rw [← hz]; exact List.mem_map.mpr ⟨q, hq, rfl⟩)
  have old : ∀ q ∈ l1 ++ l2, q.2.h = histE (B.es ++ [⟨true, kn, z, d, w⟩]) true q.1 := by
    intro q hq
    rw [histE_snoc, step_ne (fun he => hne q hq he.2.symm)]
    exact h.hm q (by
      rw [e]
      rcases List.mem_append.mp hq with hq | hq
      · exact List.mem_append_left _ hq
      · exact List.mem_append_right _ (List.mem_cons_of_mem _ hq))
  refine ⟨h.rk, ?_, h.lk, ?_, ?_, ?_, rising_app h.up hk, ?_⟩
  · have := h.km
    rw [e] at this
    show (l1 ++ (z, a') :: l2).map (·.1) = _
    rw [← this, List.map_append, List.map_append]
    rfl
  · intro q hq
    rcases List.mem_append.mp hq with hq | hq
    · exact old q (List.mem_append_left _ hq)
    rcases List.mem_cons.mp hq with rfl | hq
    · show a'.h = histE (B.es ++ [⟨true, kn, z, d, w⟩]) true z
      rw [histE_snoc]
      rw [step_eq, ha]
      have := h.hm (z, a) (by rw [e]; exact List.mem_append_right _ List.mem_cons_self)
      rw [show a.h = _ from this]
    · exact old q (List.mem_append_right _ hq)
  · intro q hq
    show q.2.h = histE (B.es ++ [⟨true, kn, z, d, w⟩]) false q.1
    rw [histE_snoc, step_ne (fun he => by cases he.1)]
    exact h.hl q hq
  · intro x hx hm
    rcases List.mem_append.mp hx with hx | hx
    · exact h.ln x hx hm
    · rw [List.mem_singleton.mp hx] at hm
      cases hm
  · intro x hx
    rcases List.mem_append.mp hx with hx | hx
    · exact h.ev x hx
    · rw [List.mem_singleton.mp hx]
      exact ok
/-- the pure side of a told landing, of a light that has a history -/
theorem BkP.land {B : BA} {l1 l2 : List (Str × HA)} {z : Str} {a a' : HA} {kn d : Int} {w : V} (h : BkP B) (e : B.ld = l1 ++ (z, a) :: l2) (ha : a'.h = noteH a.h kn d w)
    (hk : ∀ x ∈ B.es, x.kn ≤ kn) (ok : EvOK B.rk ⟨false, kn, z, d, w⟩) : BkP { B with ld := l1 ++ (z, a') :: l2, es := B.es ++ [⟨false, kn, z, d, w⟩] } := by
  have nk := h.lk
  rw [e, List.map_append, List.map_cons, List.nodup_append, List.nodup_cons] at nk
  obtain ⟨_, ⟨k2, _⟩, k4⟩ := nk
  have hne : ∀ q ∈ l1 ++ l2, q.1 ≠ z := by
    intro q hq hz
    rcases List.mem_append.mp hq with hq | hq
    · exact k4 z (by rw [← hz]; exact List.mem_map.mpr ⟨q, hq, rfl⟩) z List.mem_cons_self rfl
    · exact k2 (by show z ∈ _; rw [← hz]; exact List.mem_map.mpr ⟨q, hq, rfl⟩)
  have old : ∀ q ∈ l1 ++ l2, q.2.h = histE (B.es ++ [⟨false, kn, z, d, w⟩]) false q.1 := by
    intro q hq
    rw [histE_snoc, step_ne (fun he => hne q hq he.2.symm)]
    exact h.hl q (by
      rw [e]
      rcases List.mem_append.mp hq with hq | hq
      · exact List.mem_append_left _ hq
      · exact List.mem_append_right _ (List.mem_cons_of_mem _ hq))
  have ek : (l1 ++ (z, a') :: l2).map (·.1) = B.ld.map (·.1) := by
    rw [e, List.map_append, List.map_append]
    rfl
  refine ⟨h.rk, h.km, ?_, ?_, ?_, ?_, rising_app h.up hk, ?_⟩
  · show ((l1 ++ (z, a') :: l2).map (·.1)).Nodup
    rw [ek]
    exact h.lk
  · intro q hq
    show q.2.h = histE (B.es ++ [⟨false, kn, z, d, w⟩]) true q.1
    rw [histE_snoc, step_ne (fun he => by cases he.1)]
    exact h.hm q hq
  · intro q hq
    rcases List.mem_append.mp hq with hq | hq
    · exact old q (List.mem_append_left _ hq)
    rcases List.mem_cons.mp hq with rfl | hq
    · show a'.h = histE (B.es ++ [⟨false, kn, z, d, w⟩]) false z
      rw [histE_snoc]
      rw [step_eq, ha]
      have := h.hl (z, a) (by rw [e]; exact List.mem_append_right _ List.mem_cons_self)
      rw [show a.h = _ from this]
    · exact old q (List.mem_append_right _ hq)
  · intro x hx hm
    show x.who ∈ (l1 ++ (z, a') :: l2).map (·.1)
    rw [ek]
    rcases List.mem_append.mp hx with hx | hx
    · exact h.ln x hx hm
    · rw [List.mem_singleton.mp hx, e, List.map_append]
      exact List.mem_append_right _ List.mem_cons_self
  · intro x hx
    rcases List.mem_append.mp hx with hx | hx
    · exact h.ev x hx
    · rw [List.mem_singleton.mp hx]
      exact ok
theorem hist_none {z : Str} : ∀ es : List Evt, (∀ e ∈ es, e.mv = false → e.who ≠ z) → histE es false z = [] := by
  refine snoc_ind (fun _ => rfl) fun es e ih h => ?_
  rw [histE_snoc, ih fun x hx => h x (List.mem_append_left _ hx)]
  unfold stepH
  rw [if_neg (fun he => h e (List.mem_append_right _ List.mem_cons_self) (ofE_iff.mp he).1 (ofE_iff.mp he).2)]
/-- one light more, of which nothing was told -/
theorem BkP.newL {B : BA} {z : Str} {a : HA} (h : BkP B) (hz : z ∉ B.ld.map (·.1)) (ha : a.h = []) : BkP { B with ld := B.ld ++ [(z, a)] } := by
  refine ⟨h.rk, h.km, ?_, h.hm, ?_, ?_, h.up, h.ev⟩
  · show ((B.ld ++ [(z, a)]).map (·.1)).Nodup
    rw [List.map_append, List.nodup_append]
    refine ⟨h.lk, List.nodup_cons.mpr ⟨nofun, List.nodup_nil⟩, fun x hx y hy e => ?_⟩
    rw [List.map_singleton, List.mem_singleton] at hy
    exact hz (by rw [← show y = z from hy, ← e]; exact hx)
  · intro q hq
    rcases List.mem_append.mp hq with hq | hq
    · exact h.hl q hq
    · rw [List.mem_singleton.mp hq]
      show a.h = _
      rw [ha, hist_none B.es fun e he hm (e2 : e.who = z) => hz (by rw [← e2]; exact h.ln e he hm)]
  · intro x hx hm
    show x.who ∈ (B.ld ++ [(z, a)]).map (·.1)
    rw [List.map_append]
    exact List.mem_append_left _ (h.ln x hx hm)
end LT
set_option Elab.async false
set_option linter.all false
set_option maxRecDepth 100000
set_option maxHeartbeats 1600000
/-! Own layer: {k: v} with a tuple as key; "".join(reversed(a list)). -/
namespace LT
open PySem PySem.Spec PyProof.Rows L2 NdefX
/-! ### {k: v}, k a tuple -/
/-! ### "".join(reversed(xs)) -/
end LT
set_option Elab.async false
set_option linter.all false
set_option maxRecDepth 100000
set_option maxHeartbeats 1600000
/-! Own layer: weathers along tables, and the search for the first one beyond (pure). -/
namespace LT
open PySem PySem.Spec PyProof.Rows L2 NdefX
/-- where some weather leads -/
def aftF (t : KTab) : Int → List Nat → Option Int
  | i, [] => some i
  | i, c :: cs => match (t[i.toNat]?).bind (fun r => getA r ⟨#[c]⟩) with
    | none => none
    | some j => aftF t j cs
def rowAt (t : KTab) (i : Int) : KRow := (t[i.toNat]?).getD []
theorem rowAt_of {t : KTab} {i : Int} {r : KRow} (e : t[i.toNat]? = some r) : rowAt t i = r := by unfold rowAt; rw [e]; rfl
theorem bind_row (t : KTab) (i : Int) (z : Str) : (t[i.toNat]?).bind (fun r => getA r z) = getA (rowAt t i) z := by
  unfold rowAt
  cases t[i.toNat]? with
  | none => rfl
  | some r => rfl
theorem aft_cons (t : KTab) (i : Int) (c : Nat) (cs : List Nat) : aftF t i (c :: cs) = (getA (rowAt t i) ⟨#[c]⟩).bind fun j => aftF t j cs := by
  rw [aftF, bind_row]
  cases getA (rowAt t i) ⟨#[c]⟩ <;> rfl
theorem aft_app (t : KTab) : ∀ (a b : List Nat) (i : Int), aftF t i (a ++ b) = (aftF t i a).bind fun j => aftF t j b
  | [], b, i => rfl
  | c :: a, b, i => by
    rw [List.cons_append, aft_cons, aft_cons]
    cases getA (rowAt t i) ⟨#[c]⟩ with
    | none => rfl
    | some j => exact aft_app t a b j
theorem aft_snoc (t : KTab) (w : List Nat) (c : Nat) (i : Int) : aftF t i (w ++ [c]) = (aftF t i w).bind fun j => getA (rowAt t j) ⟨#[c]⟩ := by
  rw [aft_app]
  cases aftF t i w with
  | none => rfl
  | some j =>
    show aftF t j [c] = getA (rowAt t j) ⟨#[c]⟩
    rw [aft_cons]
    cases getA (rowAt t j) ⟨#[c]⟩ <;> rfl
theorem KTb.rowAt {t : KTab} (k : KTb t) {i : Int} (h0 : 0 ≤ i) (h1 : i < t.length) : KRw t.length (rowAt t i) := by
  have : i.toNat < t.length := by omega
  have e : t[i.toNat]? = some t[i.toNat] := List.getElem?_eq_getElem this
  rw [rowAt_of e]
  exact k.at_ e
/-! ### the search -/
abbrev Ent := (Int × Int) × List Nat
def addE (es : List Ent) (p : Int × Int) (w : List Nat) : List Ent := if p ∈ es.map (·.1) then es else es ++ [(p, w)]
theorem addE_pre (es : List Ent) (p : Int × Int) (w : List Nat) : es <+: addE es p w := by
  unfold addE
  split
  · exact List.prefix_refl _
  · exact List.prefix_append _ _
theorem addE_mem (es : List Ent) (p : Int × Int) (w : List Nat) : p ∈ (addE es p w).map (·.1) := by
  unfold addE
  split
  · assumption
  · rw [List.map_append, List.mem_append]
    exact .inr List.mem_cons_self
theorem addE_in {es : List Ent} {p : Int × Int} {w : List Nat} {e : Ent} (h : e ∈ addE es p w) : e ∈ es ∨ e = (p, w) := by
  unfold addE at h
  split at h
  · exact .inl h
  · rcases List.mem_append.mp h with h | h
    · exact .inl h
    · exact .inr (List.mem_singleton.mp h)
def scanR (w : List Nat) (o : KRow) : KRow → List Ent → (List Nat) ⊕ (List Ent)
  | [], es => .inr es
  | (z, v) :: r, es => match getA o z with
    | none => .inl (w ++ z.cps.toList)
    | some u => scanR w o r (addE es (v, u) (w ++ z.cps.toList))
inductive BSt
  | run (a : Nat) (es : List Ent)
  | stop (x : Option (List Nat))
def stepB (t u : KTab) : BSt → BSt
  | .stop x => .stop x
  | .run a es => match es[a]? with
    | none => .stop none
    | some e => match scanR e.2 (rowAt u e.1.2) (rowAt t e.1.1) es with
      | .inl w => .stop (some w)
      | .inr es' => .run (a + 1) es'
def iterB (t u : KTab) : Nat → BSt
  | 0 => .run 0 [((0, 0), [])]
  | n + 1 => stepB t u (iterB t u n)
def Res (t u : KTab) (x : Option (List Nat)) : Prop := ∃ n, iterB t u n = .stop x
theorem iter_stay {t u : KTab} {n : Nat} {x : Option (List Nat)} (h : iterB t u n = .stop x) : ∀ m, iterB t u (n + m) = .stop x
  | 0 => h
  | m + 1 => by
    show stepB t u (iterB t u (n + m)) = _
    rw [iter_stay h m]
    rfl
theorem Res.uniq {t u : KTab} {x y : Option (List Nat)} (h : Res t u x) (g : Res t u y) : x = y := by
  obtain ⟨n, h⟩ := h
  obtain ⟨m, g⟩ := g
  have a := iter_stay h m
  have b := iter_stay g n
  rw [Nat.add_comm] at b
  rw [a] at b
  injection b
/-- what holds of all that is met -/
structure BI (t u : KTab) (es : List Ent) : Prop where
  nd : (es.map (·.1)).Nodup
  bd : ∀ e ∈ es, (0 ≤ e.1.1 ∧ e.1.1 < t.length) ∧ (0 ≤ e.1.2 ∧ e.1.2 < u.length)
  re : ∀ e ∈ es, aftF t 0 e.2 = some e.1.1 ∧ aftF u 0 e.2 = some e.1.2
  hd : es[0]? = some ((0, 0), [])
theorem BI.start {t u : KTab} (k1 : KTb t) (k2 : KTb u) : BI t u [((0, 0), [])] := by
  have a := k1.l1
  have b := k2.l1
  refine ⟨List.nodup_cons.mpr ⟨nofun, List.nodup_nil⟩, fun e he => ?_, fun e he => ?_, rfl⟩
  · rw [List.mem_singleton.mp he]
    exact ⟨⟨Int.le_refl _, by show (0 : Int) < _; omega⟩, ⟨Int.le_refl _, by show (0 : Int) < _; omega⟩⟩
  · rw [List.mem_singleton.mp he]
    exact ⟨rfl, rfl⟩
theorem BI.add {t u : KTab} {es : List Ent} (h : BI t u es) {i j : Int} {w : List Nat} (hi : 0 ≤ i ∧ i < t.length) (hj : 0 ≤ j ∧ j < u.length) (ht : aftF t 0 w = some i) (hu : aftF u 0 w = some j) : BI t u (addE es (i, j) w) := by
  refine ⟨?_, fun e he => ?_, fun e he => ?_, ?_⟩
  · unfold addE
    split
    · exact h.nd
    · rename_i hn
      rw [List.map_append, List.nodup_append]
      refine ⟨h.nd, List.nodup_cons.mpr ⟨nofun, List.nodup_nil⟩, fun x hx y hy => ?_⟩
      rw [List.mem_singleton.mp hy]
      rintro rfl
      exact hn hx
  · rcases addE_in he with he | rfl
    · exact h.bd e he
    · exact ⟨hi, hj⟩
  · rcases addE_in he with he | rfl
    · exact h.re e he
    · exact ⟨ht, hu⟩
  · obtain ⟨s, hs⟩ := addE_pre es (i, j) w
    rw [← hs, List.getElem?_append_left, h.hd]
    exact (List.getElem?_eq_some_iff.mp h.hd).1
theorem box_len (n m : Nat) (ps : List (Int × Int)) (nd : ps.Nodup) (h : ∀ p ∈ ps, (0 ≤ p.1 ∧ p.1 < n) ∧ (0 ≤ p.2 ∧ p.2 < m)) : ps.length ≤ n * m := by
  have hs : ps ⊆ (List.range n).flatMap fun i => (List.range m).map fun j => (((i : Nat) : Int), ((j : Nat) : Int)) := by
    intro p hp
    obtain ⟨⟨a, b⟩, c, d⟩ := h p hp
    rw [List.mem_flatMap]
    refine ⟨p.1.toNat, List.mem_range.mpr (by omega), List.mem_map.mpr ⟨p.2.toNat, List.mem_range.mpr (by omega), ?_⟩⟩
    rw [show ((p.1.toNat : Nat) : Int) = p.1 by omega, show ((p.2.toNat : Nat) : Int) = p.2 by omega]
  have hl := List.Nodup.length_le_of_subset nd hs
  have e : ((List.range n).flatMap fun i => (List.range m).map fun j => (((i : Nat) : Int), ((j : Nat) : Int))).length = n * m := by
    clear hl hs h nd ps
    induction n with
    | zero => simp
    | succ n ih => rw [List.range_succ, List.flatMap_append, List.length_append, ih]; simp [Nat.succ_mul]
  omega
theorem BI.len {t u : KTab} {es : List Ent} (h : BI t u es) (k1 : KTb t) (k2 : KTb u) : es.length ≤ 1000000 := by
  have := box_len t.length u.length (es.map (·.1)) h.nd (fun p hp => by
    obtain ⟨e, he, rfl⟩ := List.mem_map.mp hp
    exact h.bd e he)
  rw [List.length_map] at this
  have := Nat.mul_le_mul k1.l2 k2.l2
  omega
/-- a row scanned -/
theorem scan_ok {t u : KTab} (k1 : KTb t) (k2 : KTb u) {i j : Int} {w : List Nat} (hi : 0 ≤ i ∧ i < t.length) (hj : 0 ≤ j ∧ j < u.length) (ht : aftF t 0 w = some i) (hu : aftF u 0 w = some j) :
    ∀ (r : KRow) (es : List Ent), (∀ p ∈ r, getA (rowAt t i) p.1 = some p.2) → BI t u es →
    (∀ es', scanR w (rowAt u j) r es = .inr es' → es <+: es' ∧ BI t u es' ∧ ∀ p ∈ r, ∃ l, getA (rowAt u j) p.1 = some l ∧ (p.2, l) ∈ es'.map (·.1)) ∧
    (∀ x, scanR w (rowAt u j) r es = .inl x → ∃ p ∈ r, getA (rowAt u j) p.1 = none ∧ x = w ++ p.1.cps.toList)
  | [], es, _, h => ⟨fun es' e => by cases e; exact ⟨List.prefix_refl _, h, nofun⟩, fun x e => by cases e⟩
  | (z, v) :: r, es, hr, h => by
    have hz := hr _ List.mem_cons_self
    have kt := k1.rowAt hi.1 hi.2
    have ku := k2.rowAt hj.1 hj.2
    obtain ⟨c, _, rfl⟩ : Ltr z := kt.lt _ (getA_mem hz)
    unfold scanR
    cases hg : getA (rowAt u j) ⟨#[c]⟩ with
    | none =>
      refine ⟨fun es' e => ?_, fun x e => ?_⟩
      · cases e
      · cases e
        exact ⟨_, List.mem_cons_self, hg, rfl⟩
    | some l =>
      have a1 : aftF t 0 (w ++ [c]) = some v := by rw [aft_snoc, ht]; exact hz
      have a2 : aftF u 0 (w ++ [c]) = some l := by rw [aft_snoc, hu]; exact hg
      have h' := h.add (kt.get hz) (ku.get hg) a1 a2
      obtain ⟨i1, i2⟩ := scan_ok k1 k2 hi hj ht hu r _ (fun p hp => hr p (List.mem_cons_of_mem _ hp)) h'
      refine ⟨fun es' e => ?_, fun x e => ?_⟩
      · obtain ⟨p1, p2, p3⟩ := i1 es' e
        refine ⟨(addE_pre _ _ _).trans p1, p2, fun p hp => ?_⟩
        rcases List.mem_cons.mp hp with rfl | hp
        · refine ⟨l, hg, ?_⟩
          obtain ⟨s, rfl⟩ := p1
          rw [List.map_append, List.mem_append]
          exact .inl (addE_mem _ _ _)
        · exact p3 p hp
      · obtain ⟨p, hp, q⟩ := i2 x e
        exact ⟨p, List.mem_cons_of_mem _ hp, q⟩
/-- at the head of the loop -/
structure BH (t u : KTab) (n : Nat) (es : List Ent) : Prop where
  it : iterB t u n = .run n es
  bi : BI t u es
  cl : ∀ (k : Nat) (e : Ent), k < n → es[k]? = some e → ∀ z l, getA (rowAt t e.1.1) z = some l → ∃ l', getA (rowAt u e.1.2) z = some l' ∧ (l, l') ∈ es.map (·.1)
theorem BH.start {t u : KTab} (k1 : KTb t) (k2 : KTb u) : BH t u 0 [((0, 0), [])] := ⟨rfl, BI.start k1 k2, fun k e h => by omega⟩
theorem row_all {n : Nat} {r : KRow} (h : KRw n r) : ∀ p ∈ r, getA r p.1 = some p.2 := fun p hp => getA_of_mem h.nd hp
theorem BH.next {t u : KTab} (k1 : KTb t) (k2 : KTb u) {n : Nat} {es es' : List Ent} (h : BH t u n es) {e : Ent} (he : es[n]? = some e) (hs : scanR e.2 (rowAt u e.1.2) (rowAt t e.1.1) es = .inr es') : BH t u (n + 1) es' := by
  have hm := List.mem_of_getElem? he
  obtain ⟨hi, hj⟩ := h.bi.bd e hm
  obtain ⟨ht, hu⟩ := h.bi.re e hm
  obtain ⟨p1, p2, p3⟩ := (scan_ok k1 k2 hi hj ht hu _ es (row_all (k1.rowAt hi.1 hi.2)) h.bi).1 es' hs
  refine ⟨?_, p2, fun k e' hk he' z l hz => ?_⟩
  · show stepB t u (iterB t u n) = _
    rw [h.it]
    show (match es[n]? with | none => _ | some e => _) = _
    rw [he]
    show (match scanR e.2 (rowAt u e.1.2) (rowAt t e.1.1) es with | .inl w => BSt.stop (some w) | .inr es' => .run (n + 1) es') = _
    rw [hs]
  · obtain ⟨s, rfl⟩ := p1
    by_cases hkn : k = n
    · subst hkn
      have : k < es.length := (List.getElem?_eq_some_iff.mp he).1
      rw [List.getElem?_append_left this, he] at he'
      cases he'
      exact p3 (z, l) (getA_mem hz)
    · have hk2 : k < n := by omega
      have hn : n < es.length := (List.getElem?_eq_some_iff.mp he).1
      rw [List.getElem?_append_left (by omega)] at he'
      obtain ⟨l', q1, q2⟩ := h.cl k e' hk2 he' z l hz
      exact ⟨l', q1, by rw [List.map_append, List.mem_append]; exact .inl q2⟩
theorem BH.done {t u : KTab} {n : Nat} {es : List Ent} (h : BH t u n es) (he : es.length ≤ n) : Res t u none := by
  refine ⟨n + 1, ?_⟩
  show stepB t u (iterB t u n) = _
  rw [h.it]
  show (match es[n]? with | none => _ | some e => _) = _
  rw [List.getElem?_eq_none he]
/-! ### what it tells -/
theorem bh_all {t u : KTab} (k1 : KTb t) (k2 : KTb u) : ∀ n, (∃ es, BH t u n es) ∨ ∃ m es, m < n ∧ BH t u m es ∧ iterB t u (m + 1) = iterB t u n ∧ ∀ a es', iterB t u n ≠ .run a es'
  | 0 => .inl ⟨_, BH.start k1 k2⟩
  | n + 1 => by
    rcases bh_all k1 k2 n with ⟨es, h⟩ | ⟨m, es, hm, h, e, hs⟩
    · cases he : es[n]? with
      | none =>
        refine .inr ⟨n, es, Nat.lt_succ_self _, h, rfl, fun a es' => ?_⟩
        show stepB t u (iterB t u n) ≠ _
        rw [h.it]
        show (match es[n]? with | none => _ | some e => _) ≠ _
        rw [he]
        nofun
      | some e =>
        cases hsc : scanR e.2 (rowAt u e.1.2) (rowAt t e.1.1) es with
        | inr es' => exact .inl ⟨es', h.next k1 k2 he hsc⟩
        | inl x =>
          refine .inr ⟨n, es, Nat.lt_succ_self _, h, rfl, fun a es' => ?_⟩
          show stepB t u (iterB t u n) ≠ _
          rw [h.it]
          show (match es[n]? with | none => _ | some e => _) ≠ _
          rw [he]
          show (match scanR e.2 (rowAt u e.1.2) (rowAt t e.1.1) es with | .inl w => BSt.stop (some w) | .inr es' => .run (n + 1) es') ≠ _
          rw [hsc]
          nofun
    · refine .inr ⟨m, es, by omega, h, ?_, ?_⟩
      · rw [e]
        show _ = stepB t u (iterB t u n)
        cases hi : iterB t u n with
        | run a es' => exact absurd hi (hs a es')
        | stop x => rfl
      · intro a es'
        show stepB t u (iterB t u n) ≠ _
        cases hi : iterB t u n with
        | run a es' => exact absurd hi (hs a es')
        | stop x => nofun
/-- it comes to an end -/
theorem Res.ex {t u : KTab} (k1 : KTb t) (k2 : KTb u) : ∃ x, Res t u x := by
  rcases bh_all k1 k2 1000001 with ⟨es, h⟩ | ⟨m, es, _, h, e, hs⟩
  · refine ⟨none, h.done ?_⟩
    have := h.bi.len k1 k2
    omega
  · cases hi : iterB t u 1000001 with
    | run a es' => exact absurd hi (hs a es')
    | stop x => exact ⟨x, _, hi⟩
end LT
set_option Elab.async false
set_option linter.all false
set_option maxRecDepth 100000
set_option maxHeartbeats 1600000
/-! Own layer: promises of the defs that every law over kinds has. -/
namespace LT
open PySem PySem.Spec PyProof.Rows L2 NdefX
theorem small2k {n : Nat} (h : n ≤ 2000) : n < sizeLine := by rw [sizeLine_eq]; omega
def spWhole : Sp := fun vs H Q _ => ∃ v, vs = [v] ∧ Odd H v ∧ Q (.bl (wholeB v)) H
def spWithin : Sp := fun vs H Q _ => ∃ v l m, vs = [v, .int l, .int m] ∧ Odd H v ∧ Q (.bl (withinB v l m)) H
/-- a kind stands at x, its rows as they are kept -/
def Kd (C : Addr) (H : Hp) (x : Addr) (t : KTab) : Prop := ∃ dx l ds, H x = some (.ins C dx [("rows", .ref l)]) ∧ TabAt H l ds t
theorem Kd.mono {C : Addr} {H H' : Hp} {x : Addr} {t : KTab} (h : Kd C H x t) (s : Same H H') : Kd C H' x t := by
  obtain ⟨dx, l, ds, h1, h2⟩ := h
  exact ⟨dx, l, ds, s _ _ h1, h2.mono s⟩
def spPot (K : PySem.W.Frag) : Sp := fun vs H Q _ => ∃ (a : Addr) (ns : List Int) (k : Nat), vs = [.ref a, .int (k : Nat)] ∧ SqL K H a (ns.map V.int) ∧ k ≤ 1000 ∧
  ∀ p H', H p = none → Same H H' → Pot H' p → Q (.ref p) H'
/-- unlike letters -/
structure Lts (zs : List Str) : Prop where
  nd : zs.Nodup
  lt : ∀ z ∈ zs, Ltr z
theorem Lts.len {zs : List Str} (h : Lts zs) : zs.length ≤ 26 := letts_few h.nd h.lt
theorem str_at {zs : List Str} {i : Int} (h0 : 0 ≤ i) (h1 : i < zs.length) : ∃ z, zs[i.toNat]? = some z ∧ z ∈ zs ∧ atI (zs.map V.str) i = some (.str z) := by
  obtain ⟨m, rfl⟩ : ∃ m : Nat, i = (m : Nat) := ⟨i.toNat, by omega⟩
  have h2 : m < zs.length := by omega
  exact ⟨zs[m], List.getElem?_eq_getElem h2, List.getElem_mem h2, atI_nat (by rw [List.getElem?_map, List.getElem?_eq_getElem h2]; rfl)⟩
theorem strs_not_ints {zs : List Str} {i j : Int} : (HO.lst (zs.map V.str)) ≠ .lst [.int i, .int j] := by
  intro e
  have e := HO.lst.inj e
  cases zs with
  | nil => cases e
  | cons d r => simp at e
/-- a row under way -/
def KRq (n : Nat) (r : KRow) : Prop := r = [] ∨ KRw n r
theorem KRq.put {n : Nat} {r : KRow} {z : Str} {v : Int} (h : KRq n r) (hz : Ltr z) (h0 : 0 ≤ v) (h1 : v < n) : KRw n (putA r z v) := by
  rcases h with rfl | h
  · refine ⟨nofun, List.nodup_cons.mpr ⟨nofun, List.nodup_nil⟩, fun p hp => ?_, fun p hp => ?_⟩
    · rw [List.mem_singleton.mp hp]
      exact hz
    · rw [List.mem_singleton.mp hp]
      exact ⟨h0, h1⟩
  · exact h.put hz h0 h1
theorem KRq.len {n : Nat} {r : KRow} (h : KRq n r) : r.length ≤ 26 := by
  rcases h with rfl | h
  · exact Nat.zero_le _
  · exact h.len
/-- rows that stand, new since H -/
structure RowsN (H Hx : Hp) (F : Addr) (ds : List Addr) (t : KTab) (n : Nat) : Prop where
  at_ : TabAt Hx F ds t
  nF : H F = none
  nd : ∀ d ∈ ds, H d = none
  rw : ∀ r ∈ t, KRw n r
theorem RowsN.mono {H Hx Hy : Hp} {F : Addr} {ds : List Addr} {t : KTab} {n : Nat} (h : RowsN H Hx F ds t n) (s : Same Hx Hy) : RowsN H Hy F ds t n := ⟨h.at_.mono s, h.nF, h.nd, h.rw⟩
theorem RowsN.upd {H Hx : Hp} {F R : Addr} {o : HO} {ds : List Addr} {t : KTab} {n : Nat} (h : RowsN H Hx F ds t n) (h1 : F ≠ R) (h2 : R ∉ ds) : RowsN H (L2.upd Hx R o) F ds t n :=
  ⟨⟨by rw [upd_ne h1]; exact h.at_.ls, h.at_.rows.upd h2, h.at_.nd⟩, h.nF, h.nd, h.rw⟩
theorem RowsN.snoc {H Hx : Hp} {F R : Addr} {ds : List Addr} {t : KTab} {r : KRow} {n : Nat} (h : RowsN H Hx F ds t n) (nR : H R = none) (hR : Hx R = some (.dK (sd r))) (h2 : R ∉ ds) (hr : KRw n r) :
    RowsN H (L2.upd Hx F (.lst (ds.map V.ref ++ [V.ref R]))) F (ds ++ [R]) (t ++ [r]) n := by
  have hRF : R ≠ F := ne_of hR h.at_.ls (by intro z; cases z)
  have hF : F ∉ ds := fun hd => h.at_.ne hd rfl
  refine ⟨⟨by rw [upd_same, List.map_append]; rfl, KRows.snoc (h.at_.rows.upd hF) (by rw [upd_ne hRF]; exact hR), ?_⟩, h.nF, fun d hd => ?_, fun r' hr' => ?_⟩
  · rw [List.nodup_append]
    refine ⟨h.at_.nd, List.nodup_cons.mpr ⟨nofun, List.nodup_nil⟩, fun x hx y hy => ?_⟩
    rw [List.mem_singleton.mp hy]
    rintro rfl
    exact h2 hx
  · rcases List.mem_append.mp hd with hd | hd
    · exact h.nd d hd
    · rw [List.mem_singleton.mp hd]
      exact nR
  · rcases List.mem_append.mp hr' with hr' | hr'
    · exact h.rw r' hr'
    · rw [List.mem_singleton.mp hr']
      exact hr
/-- the same weathers -/
def LgEq (t' t : KTab) : Prop := ∀ w, (aftF t' 0 w).isSome = (aftF t 0 w).isSome
theorem LgEq.trans {a b c : KTab} (h : LgEq a b) (g : LgEq b c) : LgEq a c := fun w => (h w).trans (g w)
theorem RowsN.set {H Hx : Hp} {F d : Addr} {ds : List Addr} {t : KTab} {n i : Nat} {r : KRow} (h : RowsN H Hx F ds t n) (e : ds[i]? = some d) (hr : KRw n r) : RowsN H (L2.upd Hx d (.dK (sd r))) F ds (t.set i r) n := by
  have hd := h.at_.ne (List.mem_of_getElem? e)
  refine ⟨⟨by rw [upd_ne hd.symm]; exact h.at_.ls, h.at_.rows.set h.at_.nd e, h.at_.nd⟩, h.nF, h.nd, fun r' hr' => ?_⟩
  rcases List.mem_or_eq_of_mem_set hr' with h' | rfl
  · exact h.rw r' h'
  · exact hr
theorem str_app_len (i j : Str) : (i ++ j).length = i.length + j.length := strLen_append i j
theorem small_txt {n : Nat} (h : n ≤ 3000) : n ≤ sizeLine := by rw [sizeLine_eq]; omega
end LT
set_option Elab.async false
set_option linter.all false
set_option maxRecDepth 100000
set_option maxHeartbeats 1600000
/-! Own layer: a sign taken many times; a text within a text; dict.update with a dict; len(set(text)). -/
namespace LT
open PySem PySem.Spec PyProof.Rows L2 NdefX
end LT
set_option Elab.async false
set_option linter.all false
set_option maxRecDepth 100000
set_option maxHeartbeats 3200000
/-! Own layer: len(set(text)). -/
namespace LT
open PySem PySem.Spec PyProof.Rows L2 NdefX
end LT
set_option Elab.async false
set_option linter.all false
set_option maxRecDepth 100000
set_option maxHeartbeats 1600000
/-! Own layer: y = {k: v for ..} as a statement. -/
namespace LT
open PySem PySem.Spec PyProof.Rows L2 NdefX
end LT
set_option Elab.async false
set_option linter.all false
set_option maxRecDepth 100000
set_option maxHeartbeats 1600000
/-! Own layer: a walk on the heap. -/
namespace LT
open PySem PySem.Spec PyProof.Rows L2 NdefX
theorem RiseT.rowAt {t t' : KTab} (h : RiseT t t') (k : KTb t) (i : Int) (z : Str) : getA (rowAt t' i) z = getA (rowAt t i) z := by
  unfold LT.rowAt
  cases hr : t[i.toNat]? with
  | none =>
    have : t'[i.toNat]? = none := by
      rw [List.getElem?_eq_none_iff] at hr ⊢
      rw [h.len]
      exact hr
    rw [this]
  | some r =>
    obtain ⟨r', e1, e2⟩ := h.row hr
    rw [e1]
    exact e2.get (k.at_ hr).nd _
def keyE (p : Int × Int) : List Key := [Sum.inl p.1, Sum.inl p.2]
def numF : Nat → List Ent → List (List Key × V)
  | _, [] => []
  | n, e :: es => (keyE e.1, .int (n : Nat)) :: numF (n + 1) es
/-- a walk that has met es -/
structure WkA (C : Addr) (H : Hp) (x dx P N Y : Addr) (es : List Ent) : Prop where
  ix : H x = some (.ins C dx [("places", .ref P), ("numbers", .ref N), ("ways", .ref Y)])
  pl : ∃ ps : List Addr, H P = some (.lst (ps.map V.ref)) ∧ Paired (fun q (e : Ent) => H q = some (.tup [.int e.1.1, .int e.1.2])) ps es
  nu : H N = some (.dT (numF 0 es))
  wy : ∃ ys : List Addr, H Y = some (.lst (V.non :: ys.map V.ref)) ∧ ys.length + 1 = es.length ∧ ∀ (k : Nat) (y : Addr) (e : Ent), ys[k]? = some y → es[k + 1]? = some e →
    ∃ (o : Nat) (z : Str) (e0 : Ent), H y = some (.tup [.int (o : Nat), .str z]) ∧ o ≤ k ∧ es[o]? = some e0 ∧ Ltr z ∧ e.2 = e0.2 ++ z.cps.toList
  h0 : ∃ p, es[0]? = some (p, [])
def Same3 (P N Y : Addr) (H H' : Hp) : Prop := ∀ b o, b ≠ P → b ≠ N → b ≠ Y → H b = some o → H' b = some o
theorem Same3.of {P N Y : Addr} {H H' : Hp} (s : Same H H') : Same3 P N Y H H' := fun b o _ _ _ e => s b o e
theorem Same3.trans {P N Y : Addr} {H H1 H2 : Hp} (a : Same3 P N Y H H1) (b : Same3 P N Y H1 H2) : Same3 P N Y H H2 := fun c o h1 h2 h3 e => b c o h1 h2 h3 (a c o h1 h2 h3 e)
/-- what another thing's writing leaves -/
theorem WkA.by {C : Addr} {H H' : Hp} {x dx P N Y : Addr} {es : List Ent} (h : WkA C H x dx P N Y es) (f : ∀ b o, H b = some o → (match o with | .ins _ _ _ => True | .lst _ => True | .tup _ => True | .dT _ => True | _ => False) → H' b = some o) : WkA C H' x dx P N Y es := by
  obtain ⟨ps, p1, p2⟩ := h.pl
  obtain ⟨ys, y1, y2, y3⟩ := h.wy
  refine ⟨f _ _ h.ix trivial, ⟨ps, f _ _ p1 trivial, paired_imp (fun q e h => f _ _ h trivial) p2⟩, f _ _ h.nu trivial, ⟨ys, f _ _ y1 trivial, y2, fun k y e h1 h2 => ?_⟩, h.h0⟩
  obtain ⟨o, z, e0, a, b⟩ := y3 k y e h1 h2
  exact ⟨o, z, e0, f _ _ a trivial, b⟩
theorem WkA.mono {C : Addr} {H H' : Hp} {x dx P N Y : Addr} {es : List Ent} (h : WkA C H x dx P N Y es) (s : Same H H') : WkA C H' x dx P N Y es := h.by fun b o e _ => s b o e
theorem WkA.unlock {C : Addr} {H : Hp} {x dx P N Y d : Addr} {es : List Ent} {od : Obj} {v u : HO} (h : WkA C H x dx P N Y es) (e : H d = some (.frz od v)) : WkA C (upd H d u) x dx P N Y es := h.by fun b o eb ho => by
  rw [upd_ne (fun z => by rw [z, e] at eb; cases eb; exact ho)]
  exact eb
theorem WkA.len {C : Addr} {H : Hp} {x dx P N Y : Addr} {es : List Ent} (h : WkA C H x dx P N Y es) : ∃ (ps : List Addr), H P = some (.lst (ps.map V.ref)) ∧ ps.length = es.length := by
  obtain ⟨ps, p1, p2⟩ := h.pl
  exact ⟨ps, p1, Paired.length p2⟩
theorem str_eq {a b : Str} (h : a.cps.toList = b.cps.toList) : a = b := by
  obtain ⟨⟨a⟩⟩ := a
  obtain ⟨⟨b⟩⟩ := b
  have : a = b := h
  rw [this]
theorem str_app_codes (a b : Str) : (a ++ b).cps.toList = a.cps.toList ++ b.cps.toList := by
  show (a.cps ++ b.cps).toList = _
  exact Array.toList_append
end LT
set_option Elab.async false
set_option linter.all false
set_option maxRecDepth 100000
set_option maxHeartbeats 1600000
/-! Own layer: == of an own thing with any thing; lists of texts; letters that rise. -/
namespace LT
open PySem PySem.Spec PyProof.Rows L2 NdefX
/-! ### lists of texts -/
/-! ### letters that rise -/
/-! ### pairs met by the law -/
end LT
namespace LT
open PySem PySem.Spec PyProof.Rows L2 NdefX
theorem LgEq.symm {a b : KTab} (h : LgEq a b) : LgEq b a := fun w => (h w).symm
end LT
set_option Elab.async false
set_option linter.all false
set_option maxRecDepth 100000
set_option maxHeartbeats 1600000
/-! Own layer: promises of the defs over books. -/
namespace LT
open PySem PySem.Spec PyProof.Rows L2 NdefX
/-- keys of any dict, one by one -/
theorem walk_enk {κ α : Type} [DecidableEq κ] {gk : κ → Key} {f : α → V} {d : Addr} {o : Obj} {r : List (κ × α)} : Walk (Itk d o (enA gk f r)) r.length (fun H => H d = some (.frz o (.dK (enA gk f r)))) (fun i H x H' => H' = H ∧ ∃ p, r[i]? = some p ∧ x = kV (gk p.1)) := by
  refine ⟨fun i H hi q => ⟨q, by rw [enA_len]; exact hi⟩, fun H q => ⟨q, by rw [enA_len]; exact Nat.le_refl _⟩, fun i H x H' hi _ y => ?_⟩
  obtain ⟨rfl, k, v, h1, rfl⟩ := y
  unfold enA at h1
  rw [List.getElem?_map, List.getElem?_eq_getElem hi] at h1
  cases h1
  exact ⟨rfl, r[i], List.getElem?_eq_getElem hi, rfl⟩
/-- pairs of any dict, one by one -/
theorem walk_eni {κ α : Type} [DecidableEq κ] {gk : κ → Key} {f : α → V} {d : Addr} {o : Obj} {r : List (κ × α)} : Walk (Iti d o (enA gk f r)) r.length (fun H => H d = some (.frz o (.dK (enA gk f r)))) (fun i H x H' => ∃ T p, r[i]? = some p ∧ x = .ref T ∧ H T = none ∧ H' = upd H T (.tup [kV (gk p.1), f p.2])) := by
  refine ⟨fun i H hi q => ⟨q, by rw [enA_len]; exact hi⟩, fun H q => ⟨q, by rw [enA_len]; exact Nat.le_refl _⟩, fun i H x H' hi _ y => ?_⟩
  obtain ⟨T, k, v, h1, rfl, h3, rfl⟩ := y
  unfold enA at h1
  rw [List.getElem?_map, List.getElem?_eq_getElem hi] at h1
  cases h1
  exact ⟨T, r[i], List.getElem?_eq_getElem hi, rfl, h3, rfl⟩
def spFromB : Sp := fun vs H Q _ => ∃ (v : V) (l : Int), vs = [v, .int l] ∧ Odd H v ∧ Q (.bl (fromB v l)) H
def spDayB : Sp := fun vs H Q _ => ∃ (v : V), vs = [v] ∧ Odd H v ∧ Q (.bl (fromB v 0)) H
def spNameB : Sp := fun vs H Q _ => ∃ (v : V), vs = [v] ∧ Odd H v ∧ (∀ z, v = .str z → z.length ≤ sizeLine) ∧ ∀ H', Same H H' → Q (.bl (nameB v)) H'
def placeB : V → Bool
  | .str z => nameB (.str z) || decide (z = Str.ofString "")
  | _ => false
def spPlaceB : Sp := fun vs H Q _ => ∃ (v : V), vs = [v] ∧ Odd H v ∧ (∀ z, v = .str z → z.length ≤ sizeLine) ∧ ∀ H', Same H H' → Q (.bl (placeB v)) H'
theorem pl_b {z : Str} (h : Pl z) : placeB (.str z) = true := by
  rcases h with rfl | h
  · show (nameB (.str (Str.ofString "")) || decide (Str.ofString "" = Str.ofString "")) = true
    rw [decide_eq_true rfl, Bool.or_true]
  · show (nameB (.str z) || _) = true
    rw [h.b]
    rfl
theorem pl_len {z : Str} (h : Pl z) : z.length ≤ 8 := by
  rcases h with rfl | h
  · decide +kernel
  · exact h.l8
def spCkDay : Sp := fun vs H Q _ => ∃ (i : Int), vs = [.int i] ∧ 0 ≤ i ∧ Q .non H
def knOK (kn : Option Int) : Prop := ∀ k, kn = some k → 0 ≤ k
def spCkKnown : Sp := fun vs H Q _ => ∃ (kn : Option Int), vs = [knV kn] ∧ knOK kn ∧ Q .non H
def spCkLight : Sp := fun vs H Q _ => ∃ (z : Str), vs = [.str z] ∧ Nm z ∧ ∀ H', Same H H' → Q .non H'
def spCkPlace : Sp := fun vs H Q _ => ∃ (z : Str), vs = [.str z] ∧ Pl z ∧ ∀ H', Same H H' → Q .non H'
def spCkNumber : Sp := fun vs H Q _ => ∃ (i l : Int), vs = [.int i, .int l] ∧ l ≤ i ∧ Q .non H
def spRanks : Sp := fun vs H Q _ => ∃ (r : Addr) (rk : List (Str × Int)), vs = [.ref r] ∧ H r = some (.dK (sd rk)) ∧ Rk rk ∧ ∀ H', Same H H' → Q (.bl true) H'
def spBInit (CB CH : Addr) : Sp := fun vs H Q _ => ∃ (b dx r : Addr) (rk : List (Str × Int)), vs = [.ref b, .ref r] ∧ H b = some (.ins CB dx []) ∧ H r = some (.dK (sd rk)) ∧ Rk rk ∧
  ∀ (fp : List Addr) (H' : Hp), Bk CB CH H' b rk [] fp → (∀ c ∈ fp, c = b ∨ H c = none) → SameB b H H' → Q .non H'
def spTell (CB CH : Addr) : Sp := fun vs H Q _ => ∃ (b : Addr) (rk : List (Str × Int)) (es : List Evt) (fp : List Addr) (kn d : Int) (z : Str) (w : V), vs = [.ref b, .int kn, .str z, .int d, w] ∧ Bk CB CH H b rk es fp ∧
  EvOK rk ⟨true, kn, z, d, w⟩ ∧ (∀ e ∈ es, e.kn ≤ kn) ∧ es.length < 60 ∧
  ∀ (fp' : List Addr) (H' : Hp), Bk CB CH H' b rk (es ++ [⟨true, kn, z, d, w⟩]) fp' → (∀ c ∈ fp', c ∈ fp ∨ H c = none) → SameL fp H H' → Q .non H'
def spLand (CB CH : Addr) : Sp := fun vs H Q _ => ∃ (b : Addr) (rk : List (Str × Int)) (es : List Evt) (fp : List Addr) (kn d : Int) (z : Str) (w : V), vs = [.ref b, .int kn, .str z, .int d, w] ∧ Bk CB CH H b rk es fp ∧
  EvOK rk ⟨false, kn, z, d, w⟩ ∧ (∀ e ∈ es, e.kn ≤ kn) ∧ es.length < 60 ∧
  ∀ (fp' : List Addr) (H' : Hp), Bk CB CH H' b rk (es ++ [⟨false, kn, z, d, w⟩]) fp' → (∀ c ∈ fp', c ∈ fp ∨ H c = none) → SameL fp H H' → Q .non H'
def spMKn (CB CH : Addr) : Sp := fun vs H Q _ => ∃ (b : Addr) (rk : List (Str × Int)) (es : List Evt) (fp : List Addr) (z : Str) (kn : Option Int), vs = [.ref b, .str z, knV kn] ∧ Bk CB CH H b rk es fp ∧ z ∈ rk.map (·.1) ∧ es.length ≤ 60 ∧
  ∀ (l : Addr) (L : List (Int × V)) (H' : Hp), H l = none → RowsAt H' l L → HoldF (heldE es true z kn) L → L.length ≤ es.length → Same H H' → Q (.ref l) H'
def spCkKeeper (CB CH : Addr) : Sp := fun vs H Q _ => ∃ (b : Addr) (rk : List (Str × Int)) (es : List Evt) (fp : List Addr) (z : Str), vs = [.ref b, .str z] ∧ Bk CB CH H b rk es fp ∧ z ∈ rk.map (·.1) ∧ ∀ H', Same H H' → Q .non H'
def spNotEarly (CB CH : Addr) : Sp := fun vs H Q _ => ∃ (b : Addr) (rk : List (Str × Int)) (es : List Evt) (fp : List Addr) (kn : Int), vs = [.ref b, .int kn] ∧ Bk CB CH H b rk es fp ∧ (∀ e ∈ es, e.kn ≤ kn) ∧ Q .non H
end LT
set_option Elab.async false
set_option linter.all false
set_option maxRecDepth 100000
set_option maxHeartbeats 1600000
/-! Own layer: books, what the readings want. -/
namespace LT
open PySem PySem.Spec PyProof.Rows L2 NdefX
theorem hsK_val (hs : List (Str × HA)) (z : Str) : valV (hsK hs) (Sum.inr z) = (getA hs z).map fun a => V.ref a.x := val_en inr_inj z hs
theorem hsK_put (hs : List (Str × HA)) (z : Str) (a : HA) : putK (hsK hs) (Sum.inr z) (V.ref a.x) = hsK (putA hs z a) := put_en (f := fun a : HA => V.ref a.x) inr_inj hs z a
theorem hsK_len (hs : List (Str × HA)) : (hsK hs).length = hs.length := enA_len ..
theorem get_key {α : Type} {kvs : List (Str × α)} {z : Str} (h : z ∈ kvs.map (·.1)) : ∃ a, getA kvs z = some a := by
  cases e : getA kvs z with
  | none => exact absurd h (getA_none_iff.mp e)
  | some a => exact ⟨a, rfl⟩
theorem dget_hs {H : Hp} {M : Addr} {hs : List (Str × HA)} {z : Str} {a : HA} (h : H M = some (.dK (hsK hs))) (e : getA hs z = some a) : DGet H M (.str z) (some (.ref a.x)) := by
  have := DGet.k (k := Sum.inr z) h
  rw [hsK_val, e] at this
  exact this
theorem dget_no {H : Hp} {M : Addr} {hs : List (Str × HA)} {z : Str} (h : H M = some (.dK (hsK hs))) (e : getA hs z = none) : DGet H M (.str z) none := by
  have := DGet.k (k := Sum.inr z) h
  rw [hsK_val, e] at this
  exact this
theorem dget_sd {H : Hp} {M : Addr} {r : KRow} {z : Str} {v : Int} (h : H M = some (.dK (sd r))) (e : getA r z = some v) : DGet H M (.str z) (some (.int v)) := by
  have := DGet.k (k := Sum.inr z) h
  rw [val_row, e] at this
  exact this
theorem held_move {rk : List (Str × Int)} {es : List Evt} {z : Str} {kn : Option Int} {d : Int} {w : V} (h : ∀ e ∈ es, EvOK rk e) (e : heldO es true z kn d = some w) : w = .non ∨ ∃ y, w = .str y ∧ Pl y := by
  obtain ⟨e', h1, h2, rfl⟩ := heldO_mem e
  exact ((h e' h1).mw (heldP_iff.mp h2).1.1).2
theorem take_snoc {α : Type} {xs : List α} {i : Nat} {x : α} (h : xs[i]? = some x) : xs.take (i + 1) = xs.take i ++ [x] := by
  rw [List.take_add_one, h]
  rfl
end LT
set_option Elab.async false
set_option linter.all false
set_option maxRecDepth 100000
set_option maxHeartbeats 1000000
namespace LT
open PySem PySem.Spec PyProof.Rows L2 LamX
abbrev noX : CXT := fun _ _ _ _ _ _ => False
abbrev noE : XK := fun _ _ _ => False
/-! ### a lambda of one parameter -/
/-- x is the parameter; every other name is captured or global -/
structure LamP (sc scope : Scope) (x : Str) : Prop where
  kind : scope.kind = .function
  co : scope.isCoroutine = false
  gen : scope.isGenerator = false
  par : scope.names.lookup x = some .local
  nc : ∀ y ∈ scope.names, y.2 ≠ .cell
  own : ∀ y, scope.names.lookup y = some .local → y = x
  free : ∀ y ∈ scope.names, y.2 = .free → sc.names.lookup y.1 = some .cell ∨ sc.names.lookup y.1 = some .free
def lamPB (sc scope : Scope) (x : Str) : Bool :=
  decide (scope.kind = .function) && (!scope.isCoroutine && (!scope.isGenerator && (decide (scope.names.lookup x = some .local) && (scope.names.all (fun y => !decide (y.2 = .cell)) && (scope.names.all (fun y => !decide (y.2 = .local) || decide (y.1 = x)) &&
    scope.names.all (fun y => !decide (y.2 = .free) || (decide (sc.names.lookup y.1 = some .cell) || decide (sc.names.lookup y.1 = some .free))))))))
theorem lamP_by {sc scope : Scope} {x : Str} (h : lamPB sc scope x = true) : LamP sc scope x := by
  unfold lamPB at h
  simp only [Bool.and_eq_true, Bool.or_eq_true, Bool.not_eq_true', decide_eq_true_eq, decide_eq_false_iff_not, List.all_eq_true] at h
  obtain ⟨h1, h2, h3, h4, h5, h6, h7⟩ := h
  refine ⟨h1, h2, h3, h4, h5, fun y hy => ?_, fun y hy e => ?_⟩
  · rcases h6 (y, .local) (PySem.mem_of_lookup hy) with z | z
    · exact absurd rfl z
    · exact z
  · rcases h7 y hy with z | z
    · exact absurd e z
    · exact z
theorem LamP.has {X : Cx} {scope : Scope} {x : Str} (L : LamP X.env.scope scope x) (ok : X.Ok) : ∀ y ∈ scope.names, y.2 = .free → ∃ c, X.env.cells.lookup y.1 = some c :=
  fun y hy e => (L.free y hy e).elim (fun k => ok.has _ (.inl k)) (fun k => ok.has _ (.inr k))
/-- where the body of the lambda runs: slot 0 is the parameter, behind it the maker's slots -/
def lamCxP (CX : CXT) (X : Cx) (A : Around) (outer : List Env) (s : Shared) (H : Hp) (E : XK) (scope : Scope) (f c' : Addr) (x : Str) : Cx where
  prog := X.prog
  w := X.w
  K := X.K
  mg := X.mg
  base := X.base
  A := A.deeper (lamEnv X scope s.heap.objs.size f c')
  N := x :: X.N
  s_0 := s
  H_0 := H
  env := lamEnv X scope s.heap.objs.size f c'
  outer := outer
  stack := lamEnv X scope s.heap.objs.size f c' :: outer
  ex := []
  fn := fun _ => false
  calm := true
  pn := []
  xe := fun e s' => wpAny (model X.prog X.w) (A.deeper (lamEnv X scope s.heap.objs.size f c')) (leaving (lamEnv X scope s.heap.objs.size f c') e) (fun _ z => CX outer H s E e z) (fun e' z => CX outer H s E e' z) s'
section
variable {X : Cx} {pins : List (Addr × Obj)} {σ : L2.St} {H HZ : Hp} {s s1 : Shared} {CX : CXT}
theorem lam_startP {A : Around} {outer : List Env} {E : XK} {scope : Scope} {f c' : Addr} {x : Str} {v : V} {u : Value} {h₁ : Heap} {tk : Nat} (I : Inv X pins σ H s) (L : LamP X.env.scope scope x) (hx : x ∉ X.N)
    (e0 : Env0 X.prog X.w X.K X.mg X.base A outer s1 HZ) (hd : A.handled = none) (un : Un (frs X.stack) [] H HZ s.heap s1.heap) (r : RelV v u)
    (hns : h₁.Ns s1.heap.objs.size fun y => [(x, u)].reverse.lookup y) (kp : ∀ b o, s1.heap.get? b = some o → h₁.get? b = some o) :
    Inv (lamCxP CX X A outer s1 HZ E scope f c' x) [] (some v :: σ) HZ { s1 with heap := h₁, toks := tk } := by
  have hfree := L.has I.ok
  have cm : ∀ {y c}, (cloFrom X.env.cells scope.names []).lookup y = some c → X.env.cells.lookup y = some c := fun {y c} e => by
    rcases cloFrom_mem (PySem.mem_of_lookup e) with hm | ⟨g1, g2⟩
    · cases hm
    · obtain ⟨c1, hc⟩ := hfree _ g1 rfl
      have hc : X.env.cells.lookup y = some c1 := hc
      have e2 : c = c1 := by rw [g2, hc] <;> rfl
      rw [e2, hc]
  have look : ∀ {y}, scope.names.lookup y = some .free → ∃ c, (cloFrom X.env.cells scope.names []).lookup y = some c := fun {y} hl =>
    mem_lookup (cloFrom_has (cells := X.env.cells) (acc := []) (show (y, NameKind.free) ∈ scope.names from PySem.mem_of_lookup hl))
  have cellK : ∀ {c : Addr} {z : Option Value}, H c = none → s.heap.IsCell c z → h₁.IsCell c z := fun {c z} n ⟨o, ho, hd⟩ =>
    let ⟨_, q⟩ := un.any ho n (by simp)
    ⟨_, kp _ _ q, hd⟩
  have noA : ∀ b : Addr, b ∉ (lamCxP CX X A outer s1 HZ E scope f c' x).ex := fun b z => nomatch (show b ∈ ([] : List Addr) from z)
  refine ⟨⟨e0.mod, L.kind, rfl, rfl, Nat.le_refl _, fun y z c e1 e2 => I.ok.inj y z c (cm e1) (cm e2), fun y hy => ?has, fun y c z _ => (nomatch (show false = true from z)), fun _ => hd, Around.frames_deeper e0.frames, .inr ⟨rfl, rfl⟩, fun b z => absurd z (noA b),
      e0.bs, e0.bsz, fun b _ _ => noA b, fun b z => absurd z (noA b), e0.funs, e0.frf⟩,
    rfl, e0.bare, Un.kept kp, ⟨_, hns, fun i y z e1 e2 e3 => ?loc⟩, fun y c e => ?cell, e0.hok.fresh (Nat.le_refl _), fun y c e => ?freeC, fun q hq => (nomatch (show q ∈ ([] : List (Addr × Obj)) from hq)), e0.hok.kept kp, ?len⟩
  case has =>
    have hy : scope.names.lookup y = some .cell ∨ scope.names.lookup y = some .free := hy
    rcases hy with hy | hy
    · exact absurd rfl (L.nc _ (PySem.mem_of_lookup hy))
    · exact look hy
  case loc =>
    have e3 : Vis scope y := e3
    cases i with
    | zero =>
      have a1 : x = y := Option.some.inj e1
      have a2 : v = z := Option.some.inj (Option.some.inj e2)
      subst a1 a2
      refine ⟨u, r, .inl ⟨L.par, ?_⟩⟩
      show List.lookup x [(x, u)] = some u
      rw [List.lookup_cons, beq_self_eq_true]
    | succ i =>
      have n1 : X.N[i]? = some y := e1
      have n2 : σ[i]? = some (some z) := e2
      rcases e3 with k | k | k
      · exact absurd (L.own _ k ▸ List.mem_of_getElem? n1) hx
      · exact absurd rfl (L.nc _ (PySem.mem_of_lookup k))
      · obtain ⟨m, hn, hl⟩ := I.loc
        have kf := L.free _ (PySem.mem_of_lookup k) rfl
        obtain ⟨w', r', q⟩ := hl i y z n1 n2 (kf.elim (fun k => .inr (.inl k)) (fun k => .inr (.inr k)))
        obtain ⟨c2, h2⟩ := look k
        refine ⟨w', r', .inr ⟨.inr k, c2, h2, ?_⟩⟩
        have c1 := cm h2
        rcases q with ⟨k', _⟩ | ⟨_, c3, e', zz⟩
        · have k' : X.env.scope.names.lookup y = some .local := k'
          rcases kf with k2 | k2 <;> rw [show X.env.scope.names.lookup y = _ from k2] at k' <;> cases k'
        · rw [c1] at e'
          cases e'
          exact cellK (I.freeC y _ c1) zz
  case cell =>
    obtain ⟨w', z⟩ := I.cell y c (cm e)
    exact ⟨w', cellK (I.freeC y c (cm e)) z⟩
  case freeC =>
    obtain ⟨w', o, ho, _⟩ := I.cell y c (cm e)
    exact un.free c o ho (I.freeC y c (cm e)) (by simp)
  case len =>
    show σ.length + 1 = X.N.length + 1
    rw [I.len]
/-- the lambda called with one value -/
theorem lam_run {A : Around} {outer : List Env} {E : XK} {scope : Scope} {f c' : Addr} {x : Str} {v : V} {u pm ctv : Value} {params : Arguments} {body : Expr} {k : Nat} {Q : VK} {tb : TE} (I : Inv X pins σ H s) (L : LamP X.env.scope scope x) (hx : x ∉ X.N)
    (e0 : Env0 X.prog X.w X.K X.mg X.base A outer s1 HZ) (un : Un (frs X.stack) [] H HZ s.heap s1.heap)
    (hf : s1.heap.get? f = some (PySem.W.kla_obj "<lambda>" (X.env.qual ++ "<lambda>") params body scope (cloFrom X.env.cells scope.names []) pm c' ctv)) (hc : HZ c' = some (CodeO c' (X.env.qual ++ "<lambda>")))
    (hbind : bindArgs (PySem.W.kla_fn "<lambda>" (X.env.qual ++ "<lambda>") params body scope (cloFrom X.env.cells scope.names []) pm (.ref c') ctv) ⟨[u], []⟩ = pure [(x, u)]) (r : RelV v u) (hr : Room (k + 1) A)
    (hbody : Room k (A.deeper (lamEnv X scope s1.heap.objs.size f c')) → PE (lamCxP CX X A outer s1 HZ E scope f c' x) body tb) (ht : tb (some v :: σ) HZ Q) :
    codeAny (model X.prog X.w) A (.call (.ref f) ⟨[u], []⟩) (CR CX outer X.prog X.w HZ s1 Q E) s1 := by
  obtain ⟨⟨oc, vs, t, hoc, hdc, hvc⟩, _, _⟩ := e0.hok c' _ hc
  have lim : s1.heap.NoLimit := e0.mod.nolimit.keeps fun b o e => (e0.bs b o e).1
  refine PySem.W.kla_callFunE hr.depth hf rfl L.co L.gen rfl ⟨c', oc, vs, t, rfl, hoc, hdc, hvc⟩ ?_
  rw [hbind]
  refine wpAny_pure (wpAny_newFunctionEnv L.nc (fun y hy => ?_) (fun h₁ hns hsb => ⟨lim.fresh _ hsb, ?_⟩) L.kind)
  · rw [List.mem_singleton.mp hy]
    exact L.par
  show codeAny _ _ (.expr body (lamEnv X scope s1.heap.objs.size f c')) _ _
  have kp : ∀ b o, s1.heap.get? b = some o → h₁.get? b = some o := fun b o e => hsb.extBut b o (Nat.ne_of_lt (Heap.lt_size e)) (Heap.get?_push_of_some _ e)
  have J : Inv (lamCxP CX X A outer s1 HZ E scope f c' x) [] (some v :: σ) HZ { s1 with heap := h₁, toks := s1.toks + [(x, u)].length } := lam_startP I L hx e0 hr.hd un r hns kp
  refine PySem.W.kla_codeExpr (wpAny_mono ((hbody (hr.deeper _)).run [] _ _ HZ Q J ht) (fun z s' hq => ?_) fun e s' hq => hq)
  obtain ⟨w', H', J', rv, q⟩ := hq
  exact ⟨w', H', J'.os, J'.bare, J'.base, J'.hok, rv, q⟩
end
end LT
set_option Elab.async false
set_option linter.all false
set_option maxRecDepth 100000
set_option maxHeartbeats 1000000
namespace LT
open PySem PySem.Spec PyProof.Rows L2 LamX
/-! ### sorted(list or tuple, key=f) -/
theorem freed_get {h : Heap} {a : Addr} : (h.update a fun o => { o with data := .freed }).get? a = none := by
  obtain ⟨objs, l⟩ := h
  show Heap.get? ⟨objs.modify a (fun o => { o with data := .freed }), l⟩ a = none
  unfold Heap.get?
  show (match (objs.modify a (fun o => { o with data := .freed }))[a]? with
    | some ⟨_, _, .freed, _⟩ => none
    | r => r) = none
  rw [Array.getElem?_modify, if_pos rfl]
  cases objs[a]? <;> rfl
theorem vals_at : ∀ {xs : List V} {us : List Value}, Vals xs us → ∀ (j : Nat) {v : V} {u : Value}, xs[j]? = some v → us[j]? = some u → RelV v u
  | _, _, .cons h _, 0, _, _, e1, e2 => by
    cases e1
    cases e2
    exact h
  | _, _, .cons _ t, j + 1, _, _, e1, e2 => vals_at t j e1 e2
section
variable {prog : Program} {w : World} {A : Around} {E : Value → Shared → Prop} {s : Shared}
theorem sorted_seq {it : Addr} {T : String} {o : Obj} {vs : List Value} {n : Nat} {kw : List (Str × Value)} {Q : Value → Shared → Prop} (hT : T = "list" ∨ T = "tuple") (ho : s.heap.get? it = some o) (hc : o.cls = .type T) (hd : o.data = .seq vs.toArray n) (hL : vs.length ≤ sizeLine)
    (ha1 : argsOk "sorted" ⟨[.ref it], kw⟩) (ha2 : ∀ x, argsOk "list.sort" ⟨[.ref x], kw⟩)
    (go : ∀ (E' : Value → Shared → Prop) (g : Heap), (∀ b u, s.heap.get? b = some u → g.get? b = some u) →
      wpAny (model prog w) A.in1.in1 (Builtin.«list.sort» ⟨[.ref g.objs.size], kw⟩) (fun f s' => f = .done (.ret .none) ∧ Q (.ref g.objs.size) s') E' { s with heap := g.push (seqObj "list" vs.toArray 0) }) :
    wpAny (model prog w) A (call (.builtin "sorted") [.ref it] kw) Q E s := by
  refine call_function_entry_kw kind_sorted plain_sorted entry_sorted ha1 ?_
  unfold Builtin.«sorted»
  refine wpAny_bind (m := checkCount "sorted" 1 1 _) (wpAny_pure ?_)
  refine wpAny_bind (wpAny_collect_seq it hT ho hc hd (fun g hg => ?_) (by rw [List.size_toArray]; exact hL))
  refine wpAny_bind (wpAny_newList ?_ hL)
  refine wpAny_bind (wpAny_holding (wpAny_call_entry_kw slot_list_sort ⟨_, Heap.get?_push_size _ rfl, rfl⟩ entry_list_sort ?body (ha2 _)))
  case body =>
    refine wpAny_mono (go _ g hg) (fun f s' hf => ?_) fun _ _ e => e
    obtain ⟨rfl, hq⟩ := hf
    exact ⟨_, rfl, wpAny_pure ⟨_, rfl, hq⟩⟩
end
section
variable {X : Cx} {pins : List (Addr × Obj)} {σ : L2.St} {H : Hp} {s : Shared}
/-- an object that was not looked at is looked at as a list from now on -/
theorem inv_track {a : Addr} {ys : List V} {out : List Value} {c : Nat} (I : Inv X pins σ H s) (fp : FpOk X pins H a) (hv : Vals ys out) (hz : ys.length ≤ sizeLine) (ho : s.heap.get? a = some (seqObj "list" out.toArray c)) :
    Inv X pins σ (upd H a (.lst ys)) s := by
  have ne : ∀ b u, H b = some u → b ≠ a := fun b u e => ne_of_none e fp.1
  have at_ : ∀ b u, H b = some u → upd H a (.lst ys) b = some u := fun b u e => by rw [upd_ne (ne b u e)]; exact e
  refine I.step (h' := s.heap) (g' := s.gens) (d' := s.drawn) (t' := s.toks) (ch := [a]) (fun b hb => ?_) (fun _ _ _ _ _ e _ => e) (fun b o _ _ _ e _ => ⟨o.slots, e⟩) (fun b o hb e n => ?_) (fun b o _ e => ⟨o, e⟩) (fun b xs e => at_ _ _ e) (fun b o u e => at_ _ _ e) (fun b ps e => ⟨#[], by rw [at_ _ _ e]; simp⟩) (fun _ h => h) (fun b u e => ?_) I.bare
  · rw [List.mem_singleton.mp hb]
    exact ⟨fp.2.2.2.1, fp.2.1, fp.2.2.2.2.1, fp.2.2.2.2.2⟩
  · rw [upd_ne (fun z => hb (by rw [z]; exact List.mem_singleton.mpr rfl))]
    exact n
  · by_cases hb : b = a
    · subst hb
      rw [upd_same] at e
      cases e
      exact ⟨hz, out, c, hv, ho⟩
    · rw [upd_ne hb] at e
      exact (I.hok b u e).stay (fun _ _ _ q => q) (fun d q => at_ _ _ q) fun d xs q => at_ _ _ q
end
end LT
set_option Elab.async false
set_option linter.all false
set_option maxRecDepth 100000
set_option maxHeartbeats 1000000
namespace LT
open PySem PySem.Spec PyProof.Rows L2 LamX
theorem extN_seqL {K : PySem.W.Frag} {H H' : Hp} {a : Addr} {xs : List V} (e : ExtN H H') (h : SqL K H a xs) : SqL K H' a xs := by
  rcases h with (h | ⟨o, h⟩) | h
  · exact .inl (.inl (e _ _ h nofun))
  · exact .inl (.inr ⟨o, e _ _ h nofun⟩)
  · exact .inr h
theorem extN_seqT {K : PySem.W.Frag} {H H' : Hp} {a : Addr} {xs : List V} (e : ExtN H H') (h : SqT K H a xs) : SqT K H' a xs := by
  rcases h with (h | ⟨o, h⟩) | h
  · exact .inl (.inl (e _ _ h nofun))
  · exact .inl (.inr ⟨o, e _ _ h nofun⟩)
  · exact .inr h
def oneOf (R : V → Hp → Prop) : List V → Hp → Prop
  | [z], H => R z H
  | _, _ => False
section
variable {X : Cx}
theorem stk_free {f : Addr} (hst : X.stack = X.env :: X.outer) (hfr : X.env.frame = some X.env.locals) (h : f ∉ frs X.stack) : f ≠ X.env.locals ∧ f ∉ X.fs := by
  rw [hst] at h
  have e : frs (X.env :: X.outer) = X.env.locals :: frs X.outer := by
    unfold frs
    rw [List.filterMap_cons, hfr]
  rw [e] at h
  exact ⟨fun z => h (by rw [z]; exact .head _), fun z => h (.tail _ z)⟩
theorem in1_env0 {pins : List (Addr × Obj)} {σ : L2.St} {H : Hp} {s : Shared} (I : Inv X pins σ H s) : Env0 X.prog X.w X.K X.mg X.base X.A.in1.in1 X.stack s H := by
  have e := I.env0
  exact ⟨e.frames, e.mod, e.bs, e.bsz, e.funs, e.frf, e.hok, e.bare⟩
end
end LT
set_option Elab.async false
set_option linter.all false
namespace LD
abbrev Row := Int × Option Int
def In (r : Row) (d : Int) : Prop := r.1 ≤ d ∧ ∀ j, r.2 = some j → d ≤ j
def Ins (L : List Row) (d : Int) : Prop := ∃ r, r ∈ L ∧ In r d
def Ok (r : Row) : Prop := 0 ≤ r.1 ∧ ∀ j, r.2 = some j → r.1 ≤ j
theorem Ok.self {r : Row} (h : Ok r) : In r r.1 := ⟨Int.le_refl _, h.2⟩
/-- told in one way alone, the last row ahead -/
def Can : List Row → Prop
  | [] => True
  | [r] => Ok r
  | r :: s :: t => Ok r ∧ (∃ j, s.2 = some j ∧ j + 1 < r.1) ∧ Can (s :: t)
theorem Can.tail {r : Row} : ∀ {t : List Row}, Can (r :: t) → Can t
  | [], _ => trivial
  | _ :: _, h => h.2.2
theorem Can.hd {r : Row} : ∀ {t : List Row}, Can (r :: t) → Ok r
  | [], h => h
  | _ :: _, h => h.1
/-- the rows behind the head end two days ahead of it -/
theorem Can.under : ∀ {t : List Row} {r : Row}, Can (r :: t) → ∀ s ∈ t, ∃ j, s.2 = some j ∧ j + 1 < r.1
  | [], _, _, s, hs => nomatch hs
  | u :: t, r, h, s, hs => by
    obtain ⟨j, e, hj⟩ := h.2.1
    rcases List.mem_cons.mp hs with rfl | hs
    · exact ⟨j, e, hj⟩
    · obtain ⟨i, e2, hi⟩ := Can.under h.2.2 s hs
      have := h.2.2.hd.2 j e
      exact ⟨i, e2, by omega⟩
theorem Can.ok : ∀ {L : List Row}, Can L → ∀ s ∈ L, Ok s
  | [], _, s, hs => nomatch hs
  | r :: t, h, s, hs => by
    rcases List.mem_cons.mp hs with rfl | hs
    · exact h.hd
    · exact h.tail.ok s hs
theorem ins_cons {r : Row} {t : List Row} {d : Int} : Ins (r :: t) d ↔ In r d ∨ Ins t d := by
  constructor
  · rintro ⟨s, hs, h⟩
    rcases List.mem_cons.mp hs with rfl | hs
    · exact .inl h
    · exact .inr ⟨s, hs, h⟩
  · rintro (h | ⟨s, hs, h⟩)
    · exact ⟨r, .head _, h⟩
    · exact ⟨s, .tail _ hs, h⟩
theorem not_nil {d : Int} : ¬ Ins [] d := fun ⟨_, h, _⟩ => nomatch h
/-- what is of the tail is two days ahead of the head -/
theorem Can.below {r : Row} {t : List Row} (h : Can (r :: t)) {d : Int} (hd : Ins t d) : d + 1 < r.1 := by
  obtain ⟨s, hs, hi⟩ := hd
  obtain ⟨j, e, hj⟩ := h.under s hs
  have := hi.2 j e
  omega
/-- the same days, told in one way -/
theorem uniq : ∀ {L L' : List Row}, Can L → Can L' → (∀ d, Ins L d ↔ Ins L' d) → L = L'
  | [], [], _, _, _ => rfl
  | [], r :: t, _, h', e => absurd ((e r.1).mpr (ins_cons.mpr (.inl h'.hd.self))) not_nil
  | r :: t, [], h, _, e => absurd ((e r.1).mp (ins_cons.mpr (.inl h.hd.self))) not_nil
  | (a, x) :: t, (b, y) :: t', h, h', e => by
    have ha := h.hd
    have hb := h'.hd
    have lo : ∀ {a b : Int} {x y : Option Int} {t t' : List Row}, Can ((a, x) :: t) → Can ((b, y) :: t') → (∀ d, Ins ((a, x) :: t) d ↔ Ins ((b, y) :: t') d) → y = x → b ≤ a := by
      intro a b x y t t' h h' e exy
      by_cases hlt : a < b
      · exfalso
        have hin : In (a, x) (b - 1) := ⟨by show a ≤ b - 1; omega, fun j ej => by
          have := h'.hd.2 j (by show y = some j; rw [exy]; exact ej)
          show b - 1 ≤ j
          have : b ≤ j := this
          omega⟩
        rcases ins_cons.mp ((e (b - 1)).mp (ins_cons.mpr (.inl hin))) with z | z
        · have := z.1
          have : b ≤ b - 1 := this
          omega
        · have := h'.below z
          have : b - 1 + 1 < b := this
          omega
      · omega
    have hi : ∀ {a b : Int} {x y : Option Int} {t t' : List Row}, Can ((a, x) :: t) → Can ((b, y) :: t') → (∀ d, Ins ((a, x) :: t) d ↔ Ins ((b, y) :: t') d) → ∀ j, y = some j → ∃ i, x = some i ∧ i ≤ j := by
      intro a b x y t t' h h' e j ej
      have top : ∀ d, Ins ((b, y) :: t') d → d ≤ j := fun d hd => by
        rcases ins_cons.mp hd with z | z
        · exact z.2 j ej
        · have := h'.below z
          have h2 := h'.hd.2 j ej
          have : d + 1 < b := this
          have : b ≤ j := h2
          omega
      cases x with
      | none =>
        exfalso
        by_cases hc : a ≤ j + 1
        · have := top (j + 1) ((e _).mp (ins_cons.mpr (.inl ⟨hc, nofun⟩)))
          omega
        · have := top a ((e _).mp (ins_cons.mpr (.inl h.hd.self)))
          omega
      | some i =>
        refine ⟨i, rfl, ?_⟩
        exact top i ((e _).mp (ins_cons.mpr (.inl ⟨h.hd.2 i rfl, fun k ek => by cases ek; exact Int.le_refl _⟩)))
    have exy : x = y := by
      cases y with
      | some j =>
        obtain ⟨i, rfl, hij⟩ := hi h h' e j rfl
        obtain ⟨k, ek, hk⟩ := hi h' h (fun d => (e d).symm) i rfl
        cases ek
        exact congrArg some (by omega)
      | none =>
        cases x with
        | none => rfl
        | some i =>
          obtain ⟨k, ek, _⟩ := hi h' h (fun d => (e d).symm) i rfl
          cases ek
    subst exy
    have eab : a = b := by
      have h1 := lo h h' e rfl
      have h2 := lo h' h (fun d => (e d).symm) rfl
      omega
    subst eab
    have et : t = t' := uniq h.tail h'.tail fun d => by
      constructor
      · intro hd
        have lt := h.below hd
        rcases ins_cons.mp ((e d).mp (ins_cons.mpr (.inr hd))) with z | z
        · have := z.1
          have : a ≤ d := this
          have : d + 1 < a := lt
          omega
        · exact z
      · intro hd
        have lt := h'.below hd
        rcases ins_cons.mp ((e d).mpr (ins_cons.mpr (.inr hd))) with z | z
        · have := z.1
          have : a ≤ d := this
          have : d + 1 < a := lt
          omega
        · exact z
    rw [et]
/-! ### merging -/
/-! ### the walk over the marks -/
def stepD (w : Int → Bool) (R : List Row) (d : Int) : List Row := match R with
  | [] => if w d = true then [(d, none)] else []
  | (f, none) :: t => if w d = true then (f, none) :: t else (f, some (d - 1)) :: t
  | (f, some j) :: t => if w d = true then (d, none) :: (f, some j) :: t else (f, some j) :: t
structure Till (w : Int → Bool) (R : List Row) (m : Int) : Prop where
  can : Can R
  up : ∀ d, d ≤ m → (Ins R d ↔ w d = true)
  on : ∀ d, m < d → (Ins R d ↔ w m = true)
  fs : ∀ r ∈ R, r.1 ≤ m
theorem Till.step {w : Int → Bool} {R : List Row} {m n : Int} (h : Till w R m) (hn : m < n) (n0 : 0 ≤ n) (cst : ∀ d, m ≤ d → d < n → w d = w m) : Till w (stepD w R n) n := by
  have mid : ∀ d, d < n → (Ins R d ↔ w d = true) := fun d hd => by
    by_cases hm : d ≤ m
    · exact h.up d hm
    · rw [h.on d (by omega), cst d (by omega) hd]
  have keep : Ins R n → w m = true := fun z => (h.on n hn).mp z
  have noN : w m = false → ∀ d, m ≤ d → ¬ Ins R d := fun e d hd z => by
    by_cases hm : d ≤ m
    · have : d = m := by omega
      subst this
      have := (h.up d (Int.le_refl _)).mp z
      rw [e] at this
      cases this
    · have := (h.on d (by omega)).mp z
      rw [e] at this
      cases this
  have same : ∀ b, w m = b → w n = b → Till w R n := fun b e1 e2 => ⟨h.can, fun d hd => by
    by_cases hdn : d < n
    · exact mid d hdn
    · have : d = n := by omega
      subst this
      rw [h.on d hn, e1, e2], fun d hd => by rw [h.on d (by omega), e1, e2], fun r hr => by have := h.fs r hr; omega⟩
  have open_ : w m = false → w n = true → Till w ((n, none) :: R) n := fun e1 e2 => by
    refine ⟨?_, fun d hd => ?_, fun d hd => ?_, fun r hr => ?_⟩
    · cases hR : R with
      | nil => exact ⟨n0, nofun⟩
      | cons r t =>
        rw [hR] at h noN
        refine ⟨⟨n0, nofun⟩, ?_, h.can⟩
        obtain ⟨f, x⟩ := r
        cases x with
        | none => exact absurd (ins_cons.mpr (.inl (show In (f, none) m from ⟨h.fs (f, none) (.head _), fun j ej => by cases ej⟩))) (noN e1 m (Int.le_refl _))
        | some j =>
          refine ⟨j, rfl, ?_⟩
          show j + 1 < n
          by_cases hj : j < m
          · omega
          · exact absurd (ins_cons.mpr (.inl ⟨h.can.hd.2 j rfl, fun k ek => by cases ek; exact Int.le_refl _⟩)) (noN e1 j (by omega))
    · rw [ins_cons]
      by_cases hdn : d < n
      · rw [← mid d hdn]
        exact ⟨fun z => z.elim (fun q => by have := q.1; have : n ≤ d := this; omega) id, .inr⟩
      · have : d = n := by omega
        subst this
        exact ⟨fun _ => e2, fun _ => .inl ⟨Int.le_refl _, nofun⟩⟩
    · rw [ins_cons]
      exact ⟨fun _ => e2, fun _ => .inl ⟨by show n ≤ d; omega, nofun⟩⟩
    · rcases List.mem_cons.mp hr with rfl | hr
      · exact Int.le_refl _
      · have := h.fs r hr
        omega
  unfold stepD
  split
  · have e1 : w m = false := by
      cases hw : w m with
      | false => rfl
      | true => exact absurd ((h.on n hn).mpr hw) not_nil
    split
    · rename_i e2
      exact open_ e1 e2
    · rename_i e2
      exact same false e1 (by cases hw : w n <;> first | rfl | exact absurd hw e2)
  · rename_i f t
    have e1 : w m = true := (h.on n hn).mp (ins_cons.mpr (.inl ⟨by have := h.fs (f, none) (.head _); have : f ≤ m := this; show f ≤ n; omega, nofun⟩))
    have hf : f ≤ m := h.fs (f, none) (.head _)
    split
    · rename_i e2
      exact same true e1 e2
    · rename_i e2
      have e2 : w n = false := by cases hw : w n <;> first | rfl | exact absurd hw e2
      refine ⟨?_, fun d hd => ?_, fun d hd => ?_, fun r hr => ?_⟩
      · have okn : Ok (f, some (n - 1)) := ⟨h.can.hd.1, fun j ej => by cases ej; show f ≤ n - 1; omega⟩
        cases t with
        | nil => exact okn
        | cons s t => exact ⟨okn, h.can.2.1, h.can.2.2⟩
      · rw [ins_cons]
        by_cases hdn : d < n
        · rw [← mid d hdn, ins_cons]
          constructor
          · rintro (z | z)
            · exact .inl ⟨z.1, nofun⟩
            · exact .inr z
          · rintro (z | z)
            · exact .inl ⟨z.1, fun j ej => by cases ej; omega⟩
            · exact .inr z
        · have : d = n := by omega
          subst this
          rw [e2]
          refine ⟨fun z => ?_, nofun⟩
          rcases z with z | z
          · have := z.2 (d - 1) rfl
            omega
          · have := h.can.below z
            have : d + 1 < f := this
            omega
      · rw [ins_cons, e2]
        refine ⟨fun z => ?_, nofun⟩
        rcases z with z | z
        · have := z.2 (n - 1) rfl
          omega
        · have := h.can.below z
          have : d + 1 < f := this
          omega
      · rcases List.mem_cons.mp hr with rfl | hr
        · show f ≤ n
          omega
        · have := h.fs r (.tail _ hr)
          omega
  · rename_i f j t
    have e1 : w m = false := by
      cases hw : w m with
      | false => rfl
      | true =>
        have big : ∀ d, m < d → d ≤ j := fun d hd => by
          rcases ins_cons.mp ((h.on d hd).mpr hw) with z | z
          · exact z.2 j rfl
          · have := h.can.below z
            have h2 : f ≤ m := h.fs (f, some j) (.head _)
            have : d + 1 < f := this
            omega
        have b1 := big (m + 1) (by omega)
        have b2 := big (j + 1) (by omega)
        omega
    split
    · rename_i e2
      exact open_ e1 e2
    · rename_i e2
      exact same false e1 (by cases hw : w n <;> first | rfl | exact absurd hw e2)
/-! ### the rows' own look -/
end LD
set_option Elab.async false
set_option linter.all false
set_option maxRecDepth 100000
set_option maxHeartbeats 3200000
namespace LT
open PySem PySem.Spec PyProof.Rows L2
end LT
set_option Elab.async false
set_option linter.all false
set_option maxRecDepth 100000
namespace LT
open PySem PySem.Spec PyProof.Rows L2 LamX
/-- a list or a tuple -/
def Sq2 (K : PySem.W.Frag) (H : Hp) (a : Addr) (xs : List V) : Prop := SqL K H a xs ∨ SqT K H a xs
def Still (K : PySem.W.Frag) (H1 : Hp) (a : Addr) (xs : List V) (H : Hp) : Prop := (SqL K H1 a xs → SqL K H a xs) ∧ (SqT K H1 a xs → SqT K H a xs)
theorem Still.of {K : PySem.W.Frag} {H1 H : Hp} {a : Addr} {xs : List V} (e : ExtN H1 H) : Still K H1 a xs H := ⟨extN_seqL e, extN_seqT e⟩
theorem Sq2.ext {K : PySem.W.Frag} {H1 H : Hp} {a : Addr} {xs : List V} (h : Sq2 K H1 a xs) (e : ExtN H1 H) : Sq2 K H a xs := h.imp (extN_seqL e) (extN_seqT e)
theorem extN_same {H H' : Hp} (s : Same H H') : ExtN H H' := ExtN.of s
end LT
set_option Elab.async false
set_option linter.all false
set_option maxRecDepth 100000
set_option maxHeartbeats 1600000
namespace LT
open PySem PySem.Spec PyProof.Rows L2
section
variable {prog : Program} {w : World} {A : Around} {E : Value → Shared → Prop} {s : Shared}
/-- two lists that are not of one length -/
theorem ne_lens {Q : Value → Shared → Prop} {l b : Addr} {items items2 : Array Value} {n n2 : Nat} (hu : A.units < cLine) (ho : s.heap.get? l = some { cls := .type "list", data := .seq items n }) (ho2 : s.heap.get? b = some { cls := .type "list", data := .seq items2 n2 }) (hd : items.size ≠ items2.size)
    (h : Q (.bool true) s) : wpAny (model prog w) A (richCompare .NotEq (.ref l) (.ref b)) Q E s := by
  refine wpAny_richCompare_same_room (op := .NotEq) ⟨_, ho, rfl⟩ ⟨_, ho2, rfl⟩ PySem.F.slot_list_ne (GQ.call_here PySem.F.slot_list_ne ⟨_, ho, rfl⟩ PySem.F.entry_list_ne (PySem.F.args_list_ne_2 _ _) ?_) hu
  have f3 := AutoSeq1.sub_list_list
  have hne : (items.size != items2.size) = true := by simpa using hd
  obtain ⟨hp, g, d, tk, os⟩ := s
  wp_walk using wpAny_loadPart' ho, wpAny_loadPart' ho2
  exact ⟨(fun z => nomatch z), h⟩
end
def rNeNil (K : PySem.W.Frag) : R2 := fun x y H Q => ∃ (l k : Addr) (xs : List V), x = .ref l ∧ y = .ref k ∧ H l = some (.lst xs) ∧ H k = some (.lst []) ∧ Q (.bl (!xs.isEmpty)) H
/-- xs != [] -/
theorem op_neNil {X : Cx} (hu : X.A.units + 64 < cLine) : OpR X (compareOp .NotEq) (rNeNil X.K) := by
  intro pins s σ H x y v u Q I rx ry h
  obtain ⟨l, k, xs, rfl, rfl, hl, hk, q⟩ := h
  cases xs with
  | nil => exact op_neD hu pins s σ H _ _ v u Q I rx ry ⟨.list [], .list [], .lst (SqL.of hl) .nil, .lst (SqL.of hk) .nil, by decide +kernel, by decide +kernel, by
      rw [show PyData.eqv (.list []) (.list []) = true by decide +kernel]
      exact q⟩
  | cons x xs =>
    cases rx
    cases ry
    obtain ⟨_, its, n, rv, ho⟩ := (show ObjOk X.prog X.w H s.heap l (.lst (x :: xs)) from I.hok l _ hl)
    obtain ⟨_, its2, n2, rv2, ho2⟩ := (show ObjOk X.prog X.w H s.heap k (.lst []) from I.hok k _ hk)
    cases rv2
    refine ne_lens (by omega) ho ho2 ?_ ⟨.bl true, H, I, rfl, q⟩
    have := rv.length
    rw [List.length_cons] at this
    show its.toArray.size ≠ 0
    rw [List.size_toArray]
    omega
end LT
set_option Elab.async false
set_option linter.all false
set_option maxRecDepth 100000
set_option maxHeartbeats 1600000
/-! Own layer: what the laws over books draw: names, plans, events. -/
namespace LT
open PySem PySem.Spec PyProof.Rows L2 NdefX
def spTakeW : Sp := fun vs H Q _ => ∃ (p : Addr) (r : Int), vs = [.ref p, .int r] ∧ Pot H p ∧ 0 < r ∧ r ≤ 10 ^ 61 ∧
  ∀ (d : Int) (H' : Hp), 0 ≤ d → d < r → Pot H' p → SameB p H H' → Q (.int d) H'
theorem nopy61 {x r : Int} (h0 : 0 < r) (h : r ≤ 10 ^ 61) : Builtin.divisionGoesByPylong x r = false := by
  refine PyProof.noPylong_of_log2 (Nat.lt_trans ?_ (show 1920 < 9000 by decide))
  exact lg61 (by omega)
def spFarB : Sp := fun vs H Q _ => ∃ (p : Addr), vs = [.ref p] ∧ Pot H p ∧ ∀ (d : Int) (H' : Hp), 0 ≤ d → d < 10 ^ 54 → Pot H' p → SameB p H H' → Q (.int d) H'
/-- unlike names -/
structure Names (zs : List Str) : Prop where
  nd : zs.Nodup
  nm : ∀ z ∈ zs, Nm z
theorem Names.nil : Names [] := ⟨List.nodup_nil, nofun⟩
theorem Names.snoc {zs : List Str} {z : Str} (h : Names zs) (hz : Nm z) (n : z ∉ zs) : Names (zs ++ [z]) := by
  refine ⟨?_, fun y hy => ?_⟩
  · rw [List.nodup_append]
    refine ⟨h.nd, List.nodup_cons.mpr ⟨nofun, List.nodup_nil⟩, fun a ha b hb e => ?_⟩
    rw [List.mem_singleton.mp hb] at e
    exact n (e ▸ ha)
  · rcases List.mem_append.mp hy with h1 | h1
    · exact h.nm y h1
    · rw [List.mem_singleton.mp h1]
      exact hz
theorem at_small26 {d : Int} (d0 : 0 ≤ d) (d1 : d < 26) : ∃ c, atI (Str.ofString "abcdefghijklmnopqrstuvwxyz").cps.toList d = some c ∧ small c = true ∧ (c : Int) = 97 + d := by
  obtain ⟨j, rfl⟩ := Int.eq_ofNat_of_zero_le d0
  have hj : j < (Str.ofString "abcdefghijklmnopqrstuvwxyz").cps.toList.length := by
    rw [letters, List.length_range']
    omega
  have hg : (Str.ofString "abcdefghijklmnopqrstuvwxyz").cps.toList[j]? = some (97 + j) := by
    rw [letters, List.getElem?_range' (by omega)]
    congr 1
    omega
  refine ⟨97 + j, atI_nat hg, ?_, by omega⟩
  rw [← small_mem]
  exact decide_eq_true (List.mem_of_getElem? hg)
theorem inV_dec (z : Str) : ∀ zs : List Str, inV (.str z) (zs.map V.str) = decide (z ∈ zs)
  | [] => rfl
  | y :: ys => by
    show (eqV (.str y) (.str z) || inV (.str z) (ys.map V.str)) = _
    rw [inV_dec z ys]
    have e : eqV (.str y) (.str z) = decide (z = y) := by
      show (y == z) = _
      by_cases h : z = y
      · rw [decide_eq_true h, h]
        exact beq_self_eq_true y
      · rw [decide_eq_false h]
        exact beq_eq_false_iff_ne.mpr (Ne.symm h)
    rw [e]
    by_cases h : z = y
    · rw [decide_eq_true h, decide_eq_true (List.mem_cons.mpr (.inl h))]
      rfl
    · rw [decide_eq_false h]
      by_cases h2 : z ∈ ys
      · rw [decide_eq_true h2, decide_eq_true (List.mem_cons_of_mem _ h2)]
        rfl
      · rw [decide_eq_false h2, decide_eq_false (fun e => (List.mem_cons.mp e).elim h h2)]
        rfl
theorem strs_flat : ∀ zs : List Str, (zs.map V.str).all flatV = true
  | [] => rfl
  | _ :: zs => strs_flat zs
theorem cutS_take {z : Str} {i : Int} (h : 0 ≤ i) : (cutS z none (some i)).cps.toList = z.cps.toList.take i.toNat := by
  have hl : z.length = z.cps.toList.length := Array.length_toList.symm
  show (z.cps.toList.drop (HT.sIx z.length 0 none)).take (HT.sIx z.length z.length (some i) - HT.sIx z.length 0 none) = _
  rw [HT.sIx_none, sIx_pos h, List.drop_zero, Nat.sub_zero, hl, List.take_eq_take_iff]
  omega
/-! ### plans -/
def kindS (mv : Bool) : Str := if mv = true then Str.ofString "move" else Str.ofString "land"
theorem kind_eq (a b : Bool) : decide (V.str (kindS a) = V.str (kindS b)) = decide (a = b) := by cases a <;> cases b <;> decide +kernel
structure PlanD where
  n : Addr
  r : Addr
  l : Addr
  zs : List Str
  rk : List (Str × Int)
  ls : List Str
  far : Int
def planK (D : PlanD) (kn : Int) (la : Addr) : List (Key × V) :=
  [(.inr "names", .ref D.n), (.inr "ranks", .ref D.r), (.inr "lights", .ref D.l), (.inr "far", .int D.far), (.inr "known", .int kn), (.inr "last", .ref la)]
theorem at_any {xs : List V} {d : Int} (h0 : 0 ≤ d) (h1 : d < xs.length) : ∃ v, v ∈ xs ∧ atI xs d = some v := by
  obtain ⟨n, rfl⟩ : ∃ n : Nat, d = (n : Nat) := ⟨d.toNat, by omega⟩
  have h : n < xs.length := by omega
  exact ⟨xs[n], List.getElem_mem h, atI_nat (List.getElem?_eq_getElem h)⟩
/-- pairs of a name and a number, as tuples -/
def PairsP (H : Hp) (ts : List Addr) (rs : List (Str × Int)) : Prop := Paired (fun t (q : Str × Int) => H t = some (.tup [.str q.1, .int q.2])) ts rs
theorem PairsP.snoc {H : Hp} {ts : List Addr} {rs : List (Str × Int)} {t : Addr} {z : Str} {i : Int} (h : PairsP H ts rs) (e : H t = some (.tup [.str z, .int i])) : PairsP H (ts ++ [t]) (rs ++ [(z, i)]) := paired_snoc' h e
theorem PairsP.upd {H : Hp} {ts : List Addr} {rs : List (Str × Int)} {F : Addr} {xs : List V} {o : HO} (h : PairsP H ts rs) (e : H F = some (.lst xs)) : PairsP (L2.upd H F o) ts rs := paired_imp (fun t p h => by rw [upd_ne (ne_of h e (by intro z; cases z))]; exact h) h
theorem PairsP.kv {K : PySem.W.Frag} {H : Hp} {ts : List Addr} {rs : List (Str × Int)} (h : PairsP H ts rs) : Paired (fun p (kv : Key × V) => SqT K H p [kV kv.1, kv.2]) ts (sd rs) := by
  induction h with
  | nil => exact .nil
  | cons r _ ih => exact .cons (SqT.of r) ih
structure PlanI (H : Hp) (D : PlanD) : Prop where
  hn : H D.n = some (.lst (D.zs.map V.str))
  hr : H D.r = some (.dK (sd D.rk))
  hl : H D.l = some (.lst (D.ls.map V.str))
theorem PlanI.mono {H H' : Hp} {D : PlanD} (h : PlanI H D) (s : Same H H') : PlanI H' D := ⟨s _ _ h.hn, s _ _ h.hr, s _ _ h.hl⟩
theorem strs_no_pot {zs : List Str} (a b : Int) : (HO.lst (zs.map V.str)) ≠ .lst [.int a, .int b] := strs_not_ints
structure PlanG (D : PlanD) : Prop where
  zs : Names D.zs
  ls : Names D.ls
  l0 : 0 < D.ls.length
  zk : D.rk.map (·.1) = D.zs
  rk : Rk D.rk
  f0 : 0 ≤ D.far
  f1 : D.far < 10 ^ 54
  z8 : D.zs.length ≤ 30
  l8 : D.ls.length ≤ 3
/-- an event as a tuple -/
def EvT (H : Hp) (t : Addr) (e : Evt) : Prop := H t = some (.tup [.str (kindS e.mv), .int e.kn, .str e.who, .int e.day, e.w])
/-- what was told last, in short -/
def LastAt (H : Hp) (la : Addr) : Option Evt → Prop
  | none => H la = some (.lst [])
  | some e => ∃ t, H la = some (.lst [.ref t]) ∧ H t = some (.tup [.str (kindS e.mv), .str e.who, .int e.day])
theorem LastAt.mono {H H' : Hp} {la : Addr} {o : Option Evt} (h : LastAt H la o) (s : Same H H') : LastAt H' la o := by
  cases o with
  | none => exact s _ _ h
  | some e =>
    obtain ⟨t, a, b⟩ := h
    exact ⟨t, s _ _ a, s _ _ b⟩
/-- a list of events -/
def EvsAt (H Hi : Hp) (E : Addr) (es : List Evt) : Prop := ∃ ts : List Addr, H E = some (.lst (ts.map V.ref)) ∧ Paired (EvT Hi) ts es
theorem EvsAt.mono {H H' Hi Hi' : Hp} {E : Addr} {es : List Evt} (h : EvsAt H Hi E es) (s : Same H H') (s' : Same Hi Hi') : EvsAt H' Hi' E es := by
  obtain ⟨ts, a, b⟩ := h
  exact ⟨ts, s _ _ a, paired_imp (fun _ _ h => s' _ _ h) b⟩
/-- by day, what is told last, as a dict is made of it -/
def heldD (es : List Evt) (mv : Bool) (z : Str) (kn : Option Int) : List (Int × V) := es.foldl (fun t e => if (ofE mv z e && ctK kn e.kn) = true then putA t e.day e.w else t) []
theorem heldD_snoc (es : List Evt) (e : Evt) (mv : Bool) (z : Str) (kn : Option Int) : heldD (es ++ [e]) mv z kn = if (ofE mv z e && ctK kn e.kn) = true then putA (heldD es mv z kn) e.day e.w else heldD es mv z kn := by
  unfold heldD
  rw [List.foldl_append]
  rfl
theorem heldD_get (mv : Bool) (z : Str) (kn : Option Int) (d : Int) : ∀ es : List Evt, getA (heldD es mv z kn) d = heldO es mv z kn d := by
  refine snoc_ind rfl fun es e ih => ?_
  rw [heldD_snoc, heldO_snoc]
  unfold heldP
  by_cases h : (ofE mv z e && ctK kn e.kn) = true
  · rw [if_pos h, getA_put, h]
    by_cases hd : d = e.day
    · rw [if_pos hd, if_pos (by rw [decide_eq_true hd.symm]; rfl)]
    · rw [if_neg hd, if_neg (by rw [decide_eq_false (Ne.symm hd)]; nofun), ih]
  · rw [if_neg h, bool_false h, if_neg (by nofun), ih]
theorem heldD_keys (mv : Bool) (z : Str) (kn : Option Int) : ∀ es : List Evt, ((heldD es mv z kn).map (·.1)).Nodup ∧ (heldD es mv z kn).length ≤ es.length := by
  refine snoc_ind ⟨List.nodup_nil, Nat.le_refl _⟩ fun es e ih => ?_
  rw [heldD_snoc]
  have hl : (es ++ [e]).length = es.length + 1 := by rw [List.length_append]; rfl
  rw [hl]
  split
  · refine ⟨nodup_put ih.1, ?_⟩
    have := putA_len (kvs := heldD es mv z kn) (k := e.day) (v := e.w)
    have := ih.2
    omega
  · exact ⟨ih.1, by have := ih.2; omega⟩
theorem same_put {H H' : Hp} {d : Addr} {o : HO} (n : H d = none) (s : Same H H') : Same H (L2.upd H' d o) := fun b x e => by
  rw [upd_ne (ne_of_none e n)]
  exact s b x e
end LT
set_option Elab.async false
set_option linter.all false
set_option maxRecDepth 100000
set_option maxHeartbeats 1600000
/-! Own layer: o.m(e, .., k = v, ..), defaults among the rest. -/
namespace LT
open PySem PySem.Spec PyProof.Rows L2
end LT
set_option Elab.async false
set_option linter.all false
set_option maxRecDepth 100000
set_option maxHeartbeats 1600000
/-! Own layer: a plan, its book and its list of events, side by side with others. -/
namespace LT
open PySem PySem.Spec PyProof.Rows L2 NdefX
structure Cl where
  P : Addr
  E : Addr
  b : Addr
  la : Addr
  D : PlanD
  kn : Int
  es : List Evt
  fp : List Addr
def Cl.m (c : Cl) : List Addr := c.P :: c.E :: c.fp
/-- what the plan holds as told last, if anything -/
def LastOK (H : Hp) (la : Addr) (rk : List (Str × Int)) : Prop := ∃ o, LastAt H la o ∧ ∀ e, o = some e → EvOK rk e
theorem LastOK.mono {H H' : Hp} {la : Addr} {rk : List (Str × Int)} (h : LastOK H la rk) (s : Same H H') : LastOK H' la rk := by
  obtain ⟨o, a, b⟩ := h
  exact ⟨o, a.mono s, b⟩
structure ClAt (CB CH : Addr) (H Hi : Hp) (c : Cl) : Prop where
  hP : H c.P = some (.dK (planK c.D c.kn c.la))
  hI : PlanI Hi c.D
  hG : PlanG c.D
  k0 : 0 ≤ c.kn
  la : LastOK Hi c.la c.D.rk
  ev : EvsAt H Hi c.E c.es
  bk : Bk CB CH H c.b c.D.rk c.es c.fp
  kl : ∀ e ∈ c.es, e.kn ≤ c.kn
  nPE : c.P ≠ c.E
  nPf : c.P ∉ c.fp
  nEf : c.E ∉ c.fp
theorem ClAt.frame {CB CH : Addr} {H H' Hi Hi' : Hp} {c : Cl} {S : List Addr} (h : ClAt CB CH H Hi c) (s : SameL S H H') (si : Same Hi Hi') (n : ∀ a ∈ c.m, a ∉ S) : ClAt CB CH H' Hi' c := by
  obtain ⟨ts, e1, e2⟩ := h.ev
  exact ⟨s _ _ (n _ List.mem_cons_self) h.hP, h.hI.mono si, h.hG, h.k0, h.la.mono si,
    ⟨ts, s _ _ (n _ (List.mem_cons_of_mem _ List.mem_cons_self)) e1, paired_imp (fun _ _ h => si _ _ h) e2⟩,
    h.bk.monoL s fun c hc => n c (List.mem_cons_of_mem _ (List.mem_cons_of_mem _ hc)), h.kl, h.nPE, h.nPf, h.nEf⟩
theorem ClAt.ex {CB CH : Addr} {H Hi : Hp} {c : Cl} (h : ClAt CB CH H Hi c) : ∀ a ∈ c.m, ∃ o, H a = some o := by
  intro a ha
  rcases List.mem_cons.mp ha with rfl | ha
  · exact ⟨_, h.hP⟩
  rcases List.mem_cons.mp ha with rfl | ha
  · obtain ⟨ts, e1, _⟩ := h.ev
    exact ⟨_, e1⟩
  · exact h.bk.ex a ha
theorem ClAt.evok {CB CH : Addr} {H Hi : Hp} {c : Cl} (h : ClAt CB CH H Hi c) : Rk c.D.rk ∧ Rising c.es ∧ ∀ e ∈ c.es, EvOK c.D.rk e := h.bk.ev
/-- two such, and a pot -/
structure Two (CB CH : Addr) (H : Hp) (p : Addr) (c d : Cl) : Prop where
  pot : Pot H p
  c1 : ClAt CB CH H (Ho (p :: (c.m ++ d.m)) H) c
  d1 : ClAt CB CH H (Ho (p :: (c.m ++ d.m)) H) d
  pc : p ∉ c.m
  pd : p ∉ d.m
  cd : ∀ a ∈ c.m, a ∉ d.m
theorem ho_perm {M M' : List Addr} {H : Hp} (h : ∀ a, a ∈ M' → a ∈ M) : Same (Ho M H) (Ho M' H) := fun a o e => by
  obtain ⟨h1, h2⟩ := ho_iff.mp e
  exact ho_in (fun z => h1 (h a z)) h2
theorem mem_two {p a : Addr} {x y : List Addr} : a ∈ p :: (x ++ y) ↔ a = p ∨ a ∈ x ∨ a ∈ y := by rw [List.mem_cons, List.mem_append]
theorem Two.ex {CB CH : Addr} {H : Hp} {p : Addr} {c d : Cl} (h : Two CB CH H p c d) : ∀ a ∈ p :: (c.m ++ d.m), ∃ o, H a = some o := by
  intro a ha
  rcases mem_two.mp ha with rfl | ha | ha
  · obtain ⟨x, y, e, _⟩ := h.pot
    exact ⟨_, e⟩
  · exact h.c1.ex a ha
  · exact h.d1.ex a ha
/-- what only looks, and draws -/
theorem Two.look {CB CH : Addr} {H H' : Hp} {p : Addr} {c d : Cl} (h : Two CB CH H p c d) (hp : Pot H' p) (s : SameB p H H') : Two CB CH H' p c d := by
  have sl : SameL [p] H H' := SameL.ofB List.mem_cons_self s
  have si : Same (Ho (p :: (c.m ++ d.m)) H) (Ho (p :: (c.m ++ d.m)) H') := ho_step sl (fun a ha => by rw [List.mem_singleton.mp ha]; exact List.mem_cons_self) fun a ha => .inl ha
  exact ⟨hp, h.c1.frame sl si fun a ha hm => h.pc (by rw [← List.mem_singleton.mp hm]; exact ha), h.d1.frame sl si fun a ha hm => h.pd (by rw [← List.mem_singleton.mp hm]; exact ha), h.pc, h.pd, h.cd⟩
theorem Two.mono {CB CH : Addr} {H H' : Hp} {p : Addr} {c d : Cl} (h : Two CB CH H p c d) (s : Same H H') : Two CB CH H' p c d := h.look (h.pot.mono s) (SameB.of s)
/-! ### what is asked of it -/
/-- the law's search, under way -/
def WhInv (t : List (Int × V)) (d : Int) (found : V) (since : Int) : Prop :=
  (∀ p ∈ t, p.2 ≠ .non → p.1 ≤ d → p.1 ≤ since) ∧ ((since = -1 ∧ found = .str (Str.ofString "")) ∨ ((since, found) ∈ t ∧ found ≠ .non ∧ since ≤ d))
theorem WhInv.nil {d : Int} : WhInv [] d (.str (Str.ofString "")) (-1) := ⟨nofun, .inl ⟨rfl, rfl⟩⟩
theorem WhInv.take {t : List (Int × V)} {d : Int} {found : V} {since : Int} {p : Int × V} (h : WhInv t d found since) (n : p.2 ≠ .non) (h1 : since < p.1) (h2 : p.1 ≤ d) : WhInv (t ++ [p]) d p.2 p.1 := by
  refine ⟨fun q hq a b => ?_, .inr ⟨List.mem_append_right _ List.mem_cons_self, n, h2⟩⟩
  rcases List.mem_append.mp hq with hq | hq
  · have := h.1 q hq a b
    omega
  · rw [List.mem_singleton.mp hq]
    exact Int.le_refl _
theorem WhInv.is {es : List Evt} {mv : Bool} {z : Str} {kn : Option Int} {d : Int} {found : V} {since : Int} (h : WhInv (heldD es mv z kn) d found since) (h0 : ∀ e ∈ es, 0 ≤ e.day) : IsWhere (heldE es mv z kn) d found := by
  have nd := (heldD_keys mv z kn es).1
  have key : ∀ o w, (o, w) ∈ heldD es mv z kn → heldE es mv z kn o = w := fun o w hm => by
    have := getA_of_mem nd hm
    rw [heldD_get] at this
    unfold heldE
    rw [this]
    rfl
  have back : ∀ o, heldE es mv z kn o ≠ .non → (o, heldE es mv z kn o) ∈ heldD es mv z kn := fun o ho => by
    unfold heldE at ho ⊢
    cases e : heldO es mv z kn o with
    | none => rw [e] at ho; exact absurd rfl ho
    | some w =>
      rw [← heldD_get] at e
      exact getA_mem e
  rcases h.2 with ⟨rfl, rfl⟩ | ⟨a, b, c⟩
  · refine .inr ⟨fun o ho => Classical.byContradiction fun hn => ?_, rfl⟩
    have h1 := h.1 _ (back o hn) hn ho
    have hm := getA_of_mem nd (back o hn)
    rw [heldD_get] at hm
    obtain ⟨e, he, hp, _⟩ := heldO_mem hm
    have := h0 e he
    have := (heldP_iff.mp hp).2.2
    simp only at h1
    omega
  · exact .inl ⟨since, c, key _ _ a, b, fun o ho hn => h.1 _ (back o hn) hn ho⟩
/-- one such, and a pot -/
structure One (CB CH : Addr) (H : Hp) (p : Addr) (c : Cl) : Prop where
  pot : Pot H p
  c1 : ClAt CB CH H (Ho (p :: c.m) H) c
  pc : p ∉ c.m
theorem Two.one {CB CH : Addr} {H : Hp} {p : Addr} {c d : Cl} (h : Two CB CH H p c d) : One CB CH H p c :=
  ⟨h.pot, h.c1.frame (S := []) (.of (Same.refl _)) (ho_perm fun a ha => mem_two.mpr ((List.mem_cons.mp ha).imp id .inl)) (fun _ _ => nofun), h.pc⟩
theorem One.look {CB CH : Addr} {H H' : Hp} {p : Addr} {c : Cl} (h : One CB CH H p c) (hp : Pot H' p) (s : SameB p H H') : One CB CH H' p c := by
  have sl : SameL [p] H H' := SameL.ofB List.mem_cons_self s
  have si : Same (Ho (p :: c.m) H) (Ho (p :: c.m) H') := ho_step sl (fun a ha => by rw [List.mem_singleton.mp ha]; exact List.mem_cons_self) fun a ha => .inl ha
  exact ⟨hp, h.c1.frame sl si fun a ha hm => h.pc (by rw [← List.mem_singleton.mp hm]; exact ha), h.pc⟩
theorem One.mono {CB CH : Addr} {H H' : Hp} {p : Addr} {c : Cl} (h : One CB CH H p c) (s : Same H H') : One CB CH H' p c := h.look (h.pot.mono s) (SameB.of s)
theorem One.ex {CB CH : Addr} {H : Hp} {p : Addr} {c : Cl} (h : One CB CH H p c) : ∀ a ∈ p :: c.m, ∃ o, H a = some o := by
  intro a ha
  rcases List.mem_cons.mp ha with rfl | ha
  · obtain ⟨x, y, e, _⟩ := h.pot
    exact ⟨_, e⟩
  · exact h.c1.ex a ha
section
variable {CB CH : Addr} {H : Hp} {p : Addr} {c : Cl}
theorem Bk.ix {b : Addr} {rk : List (Str × Int)} {es : List Evt} {fp : List Addr} (h : Bk CB CH H b rk es fp) : ∃ dx R M L v, H b = some (.ins CB dx [("rank_of", .ref R), ("moves", .ref M), ("landings", .ref L), ("latest_known", v)]) := by
  obtain ⟨B, rfl, rfl, rfl, rfl, bh, _⟩ := h
  exact ⟨_, _, _, _, _, bh.ix⟩
theorem One.hn (h : One CB CH H p c) : H c.D.n = some (.lst (c.D.zs.map V.str)) := ho_le _ _ h.c1.hI.hn
theorem One.hl (h : One CB CH H p c) : H c.D.l = some (.lst (c.D.ls.map V.str)) := ho_le _ _ h.c1.hI.hl
theorem One.hr (h : One CB CH H p c) : H c.D.r = some (.dK (sd c.D.rk)) := ho_le _ _ h.c1.hI.hr
theorem One.days (h : One CB CH H p c) : ∀ e ∈ c.es, 0 ≤ e.day := fun e he => (h.c1.evok.2.2 e he).d0
end
end LT
set_option Elab.async false
set_option linter.all false
set_option maxRecDepth 100000
set_option maxHeartbeats 1600000
/-! Own layer: runs of days, heads, what is left (pure). -/
namespace LT
open PySem PySem.Spec PyProof.Rows L2 NdefX
/-! ### values by day -/
def atL (s : V) (B : List (Int × V)) (d : Int) : V := B.foldl (fun r p => if p.1 ≤ d then p.2 else r) s
theorem atL_snoc (s : V) (B : List (Int × V)) (p : Int × V) (d : Int) : atL s (B ++ [p]) d = if p.1 ≤ d then p.2 else atL s B d := by
  unfold atL
  rw [List.foldl_append]
  rfl
theorem whereL_at (L : List (Int × V)) (d : Int) : whereL L d = atL (.str (Str.ofString "")) L d := rfl
/-- where one is on day n -/
def plN (f : Int → V) : Nat → V
  | 0 => if f 0 = .non then .str (Str.ofString "") else f 0
  | n + 1 => if f ((n : Int) + 1) = .non then plN f n else f ((n : Int) + 1)
theorem plN_is {f : Int → V} (h0 : ∀ d, d < 0 → f d = .non) : ∀ n : Nat, IsWhere f (n : Nat) (plN f n)
  | 0 => by
    unfold plN
    split
    · rename_i h
      refine .inr ⟨fun o ho => ?_, rfl⟩
      by_cases e : o = 0
      · rw [e]
        exact h
      · exact h0 o (by omega)
    · rename_i h
      refine .inl ⟨0, Int.le_refl _, rfl, h, fun o ho _ => ho⟩
  | n + 1 => by
    unfold plN
    split
    · rename_i h
      rcases plN_is h0 n with ⟨on, a, b, c, d⟩ | ⟨a, b⟩
      · refine .inl ⟨on, by omega, b, c, fun o ho hn => ?_⟩
        by_cases e : o = (n : Int) + 1
        · rw [e] at hn
          exact absurd h hn
        · exact d o (by omega) hn
      · refine .inr ⟨fun o ho => ?_, b⟩
        by_cases e : o = (n : Int) + 1
        · rw [e]
          exact h
        · exact a o (by omega)
    · rename_i h
      exact .inl ⟨(n : Int) + 1, by omega, rfl, h, fun o ho _ => by omega⟩
def plI (f : Int → V) (d : Int) : V := plN f d.toNat
theorem plI_is {f : Int → V} (h0 : ∀ d, d < 0 → f d = .non) {d : Int} (hd : 0 ≤ d) : IsWhere f d (plI f d) := by
  have := plN_is h0 d.toNat
  rw [Int.toNat_of_nonneg hd] at this
  exact this
theorem plI_of {f : Int → V} (h0 : ∀ d, d < 0 → f d = .non) {d : Int} (hd : 0 ≤ d) {r : V} (h : IsWhere f d r) : r = plI f d := h.uniq (plI_is h0 hd)
theorem held_neg {es : List Evt} {mv : Bool} {z : Str} {kn : Option Int} (h : ∀ e ∈ es, 0 ≤ e.day) : ∀ d, d < 0 → heldE es mv z kn d = .non := fun d hd => by
  unfold heldE
  cases e : heldO es mv z kn d with
  | none => rfl
  | some w =>
    obtain ⟨e', h1, h2, _⟩ := heldO_mem e
    have := h e' h1
    have := (heldP_iff.mp h2).2.2
    omega
/-- nothing holds between: the same -/
theorem plI_same {f : Int → V} (h0 : ∀ d, d < 0 → f d = .non) {a d : Int} (ha : 0 ≤ a) (hd : a ≤ d) (h : ∀ o, a < o → o ≤ d → f o = .non) : plI f d = plI f a := by
  refine (plI_of h0 (by omega) ?_).symm
  rcases plI_is h0 ha with ⟨on, q1, q2, q3, q4⟩ | ⟨q1, q2⟩
  · refine .inl ⟨on, by omega, q2, q3, fun o ho hn => ?_⟩
    by_cases hoa : o ≤ a
    · exact q4 o hoa hn
    · exact absurd (h o (by omega) ho) hn
  · refine .inr ⟨fun o ho => ?_, q2⟩
    by_cases hoa : o ≤ a
    · exact q1 o hoa
    · exact h o (by omega) ho
/-! ### covers of all days -/
section
variable {β : Type}
def Cov (fi : β → Int) (la : β → Option Int) (K : β → Int → Prop) : Int → List β → Prop
  | _, [] => False
  | f, [b] => fi b = f ∧ la b = none ∧ ∀ d, f ≤ d → K b d
  | f, b :: c :: r => fi b = f ∧ (∃ e, la b = some e ∧ f ≤ e ∧ (∀ d, f ≤ d → d ≤ e → K b d) ∧ Cov fi la K (e + 1) (c :: r))
def CovT (fi : β → Int) (la : β → Option Int) (K : β → Int → Prop) : Int → List β → Int → Prop
  | f, [], x => f = x
  | f, b :: r, x => fi b = f ∧ ∃ e, la b = some e ∧ f ≤ e ∧ (∀ d, f ≤ d → d ≤ e → K b d) ∧ CovT fi la K (e + 1) r x
variable {fi : β → Int} {la : β → Option Int} {K : β → Int → Prop}
def HasD2 (fi : β → Int) (la : β → Option Int) (b : β) (d : Int) : Prop := fi b ≤ d ∧ ∀ e, la b = some e → d ≤ e
theorem CovT.snoc {b : β} {e : Int} : ∀ {S : List β} {f x : Int}, CovT fi la K f S x → fi b = x → la b = some e → x ≤ e → (∀ d, x ≤ d → d ≤ e → K b d) → CovT fi la K f (S ++ [b]) (e + 1)
  | [], f, x, h, h1, h2, h3, h4 => by
    have h : f = x := h
    subst h
    exact ⟨h1, e, h2, h3, h4, rfl⟩
  | c :: r, f, x, ⟨a1, e', a2, a3, a4, a5⟩, h1, h2, h3, h4 => ⟨a1, e', a2, a3, a4, CovT.snoc a5 h1 h2 h3 h4⟩
theorem CovT.last {b : β} : ∀ {S : List β} {f x : Int}, CovT fi la K f S x → fi b = x → la b = none → (∀ d, x ≤ d → K b d) → Cov fi la K f (S ++ [b])
  | [], f, x, h, h1, h2, h4 => by
    have h : f = x := h
    subst h
    exact ⟨h1, h2, h4⟩
  | [c], f, x, ⟨a1, e', a2, a3, a4, a5⟩, h1, h2, h4 => ⟨a1, e', a2, a3, a4, CovT.last (S := []) a5 h1 h2 h4⟩
  | c :: c' :: r, f, x, ⟨a1, e', a2, a3, a4, a5⟩, h1, h2, h4 => ⟨a1, e', a2, a3, a4, CovT.last (S := c' :: r) a5 h1 h2 h4⟩
theorem Cov.imp {K' : β → Int → Prop} (hk : ∀ b d, K b d → K' b d) : ∀ {S : List β} {f : Int}, Cov fi la K f S → Cov fi la K' f S
  | [], _, h => h
  | [b], f, ⟨a1, a2, a3⟩ => ⟨a1, a2, fun d h => hk b d (a3 d h)⟩
  | b :: c :: r, f, ⟨a1, e, a2, a3, a4, a5⟩ => ⟨a1, e, a2, a3, fun d h1 h2 => hk b d (a4 d h1 h2), Cov.imp (S := c :: r) hk a5⟩
/-- the one that has a day -/
theorem Cov.one : ∀ {S : List β} {f : Int}, Cov fi la K f S → ∀ d, f ≤ d → ∃ (i : Nat) (b : β), S[i]? = some b ∧ HasD2 fi la b d ∧ K b d ∧ ∀ j c, S[j]? = some c → HasD2 fi la c d → j = i
  | [], _, h, _, _ => h.elim
  | [b], f, ⟨a1, a2, a3⟩, d, hd => ⟨0, b, rfl, ⟨by omega, fun e he => by rw [a2] at he; cases he⟩, a3 d hd, fun j c hj _ => by
    have := (List.getElem?_eq_some_iff.mp hj).1
    simp at this
    exact this⟩
  | b :: c :: r, f, ⟨a1, e, a2, a3, a4, a5⟩, d, hd => by
    have low : ∀ {S : List β} {f : Int}, Cov fi la K f S → ∀ x ∈ S, f ≤ fi x := by
      intro S
      induction S with
      | nil => exact fun h => h.elim
      | cons y ys ih =>
        intro f h x hx
        cases ys with
        | nil =>
          obtain ⟨h1, _⟩ := h
          rw [List.mem_singleton.mp hx]
          omega
        | cons z zs =>
          obtain ⟨h1, e, _, h3, _, h5⟩ := h
          rcases List.mem_cons.mp hx with rfl | hx
          · omega
          · have := ih h5 x hx
            omega
    by_cases hde : d ≤ e
    · refine ⟨0, b, rfl, ⟨by omega, fun e' he => by rw [a2] at he; cases he; exact hde⟩, a4 d hd hde, fun j x hj hx => ?_⟩
      cases j with
      | zero => rfl
      | succ j =>
        have := low a5 x (List.mem_of_getElem? hj)
        have := hx.1
        omega
    · obtain ⟨i, x, h1, h2, h3, h4⟩ := Cov.one (S := c :: r) a5 d (by omega)
      refine ⟨i + 1, x, h1, h2, h3, fun j y hj hy => ?_⟩
      cases j with
      | zero =>
        cases hj
        have := hy.2 e a2
        omega
      | succ j => exact congrArg Nat.succ (h4 j y hj hy)
end
/-! ### runs -/
abbrev Run := V × Int × Option Int
def rFi (r : Run) : Int := r.2.1
def rLa (r : Run) : Option Int := r.2.2
def lastW (B : List (Int × V)) : V := (B.getLast?.map (·.2)).getD .non
def begS (B : List (Int × V)) (p : Int × V) : List (Int × V) := if p.1 = 0 then [(0, p.2)] else if p.2 = lastW B then B else B ++ [p]
def begF (s : V) (ch : List (Int × V)) : List (Int × V) := ch.foldl begS [(0, s)]
theorem begF_snoc (s : V) (ch : List (Int × V)) (p : Int × V) : begF s (ch ++ [p]) = begS (begF s ch) p := by
  unfold begF
  rw [List.foldl_append]
  rfl
structure Begs (s : V) (ch B : List (Int × V)) : Prop where
  hd : ∃ w r, B = (0, w) :: r
  up : B.Pairwise fun a b => a.1 < b.1
  un : ∀ (i : Nat) a b, B[i]? = some a → B[i + 1]? = some b → a.2 ≠ b.2
  at_ : ∀ d, 0 ≤ d → atL s ch d = atL s B d
  le : ∀ x ∈ B, x.1 = 0 ∨ ∃ y ∈ ch, x.1 = y.1
  lw : ∀ d, (∀ x ∈ ch, x.1 ≤ d) → 0 ≤ d → atL s ch d = lastW B
theorem lastW_snoc (B : List (Int × V)) (p : Int × V) : lastW (B ++ [p]) = p.2 := by
  unfold lastW
  rw [List.getLast?_concat]
  rfl
theorem atL_high' (s : V) (d : Int) : ∀ B : List (Int × V), (∀ x ∈ B, ¬ x.1 ≤ d) → atL s B d = s := by
  refine snoc_ind (fun _ => rfl) fun B p ih h => ?_
  rw [atL_snoc, if_neg (h p (List.mem_append_right _ List.mem_cons_self)), ih fun x hx => h x (List.mem_append_left _ hx)]
theorem atL_high {s : V} {B : List (Int × V)} {d : Int} (h : ∀ x ∈ B, ¬ x.1 ≤ d) : atL s B d = s := atL_high' s d B h
theorem begs_of (s : V) : ∀ ch : List (Int × V), (ch.Pairwise fun a b => a.1 < b.1) → (∀ x ∈ ch, 0 ≤ x.1) → Begs s ch (begF s ch) := by
  refine snoc_ind (fun _ _ => ?_) fun ch p ih hu h0 => ?_
  · refine ⟨⟨s, [], rfl⟩, List.pairwise_singleton _ _, fun i a b h1 h2 => ?_, fun d hd => ?_, fun x hx => ?_, fun d _ _ => rfl⟩
    · have := (List.getElem?_eq_some_iff.mp h2).1
      have e : (begF s []).length = 1 := rfl
      omega
    · show s = (if (0 : Int) ≤ d then s else s)
      split <;> rfl
    · rw [List.mem_singleton.mp hx]
      exact .inl rfl
  · rw [List.pairwise_append] at hu
    have hp0 := h0 p (List.mem_append_right _ List.mem_cons_self)
    obtain ⟨⟨w, r, hB⟩, up, un, at_, le, lw⟩ := ih hu.1 fun x hx => h0 x (List.mem_append_left _ hx)
    have lt : ∀ x ∈ ch, x.1 < p.1 := fun x hx => hu.2.2 x hx p List.mem_cons_self
    rw [begF_snoc]
    unfold begS
    by_cases hz : p.1 = 0
    · rw [if_pos hz]
      have chn : ch = [] := by
        cases ch with
        | nil => rfl
        | cons x xs =>
          have := lt x List.mem_cons_self
          have := h0 x (List.mem_append_left _ List.mem_cons_self)
          omega
      subst chn
      refine ⟨⟨_, [], rfl⟩, List.pairwise_singleton _ _, fun i a b h1 h2 => ?_, fun d hd => ?_, fun x hx => ?_, fun d h hd => ?_⟩
      · have := (List.getElem?_eq_some_iff.mp h2).1
        simp at this
      · show (if p.1 ≤ d then p.2 else s) = (if (0 : Int) ≤ d then p.2 else s)
        rw [hz]
      · rw [List.mem_singleton.mp hx]
        exact .inl rfl
      · show (if p.1 ≤ d then p.2 else s) = p.2
        rw [if_pos (by omega)]
    · rw [if_neg hz]
      have ltB : ∀ x ∈ begF s ch, x.1 < p.1 := fun x hx => by
        rcases le x hx with h | ⟨y, hy, h⟩
        · omega
        · have := lt y hy
          omega
      by_cases hw : p.2 = lastW (begF s ch)
      · rw [if_pos hw]
        refine ⟨⟨w, r, hB⟩, up, un, fun d hd => ?_, fun x hx => (le x hx).imp id fun ⟨y, hy, h⟩ => ⟨y, List.mem_append_left _ hy, h⟩, fun d h hd => ?_⟩
        · rw [atL_snoc]
          by_cases hpd : p.1 ≤ d
          · rw [if_pos hpd, hw, ← lw d (fun x hx => by have := lt x hx; omega) hd]
            exact at_ d hd
          · rw [if_neg hpd]
            exact at_ d hd
        · rw [atL_snoc, if_pos (h p (List.mem_append_right _ List.mem_cons_self))]
          exact hw
      · rw [if_neg hw]
        refine ⟨⟨w, r ++ [p], by rw [hB]; rfl⟩, ?_, fun i a b h1 h2 => ?_, fun d hd => ?_, fun x hx => ?_, fun d h hd => ?_⟩
        · rw [List.pairwise_append]
          refine ⟨up, List.pairwise_singleton _ _, fun a ha b hb => ?_⟩
          rw [List.mem_singleton.mp hb]
          exact ltB a ha
        · by_cases hi : i + 1 < (begF s ch).length
          · rw [List.getElem?_append_left hi] at h2
            rw [List.getElem?_append_left (by omega)] at h1
            exact un i a b h1 h2
          · have hi2 := (List.getElem?_eq_some_iff.mp h2).1
            rw [List.length_append, List.length_singleton] at hi2
            have e : i + 1 = (begF s ch).length := by omega
            rw [e, List.getElem?_append_right (Nat.le_refl _), Nat.sub_self] at h2
            cases h2
            rw [List.getElem?_append_left (by omega)] at h1
            have e2 : lastW (begF s ch) = a.2 := by
              unfold lastW
              rw [List.getLast?_eq_getElem?, show (begF s ch).length - 1 = i by omega, h1]
              rfl
            rw [e2] at hw
            exact fun z => hw z.symm
        · rw [atL_snoc, atL_snoc, at_ d hd]
        · rcases List.mem_append.mp hx with hx | hx
          · exact (le x hx).imp id fun ⟨y, hy, h⟩ => ⟨y, List.mem_append_left _ hy, h⟩
          · rw [List.mem_singleton.mp hx]
            exact .inr ⟨p, List.mem_append_right _ List.mem_cons_self, rfl⟩
        · rw [atL_snoc, if_pos (h p (List.mem_append_right _ List.mem_cons_self)), lastW_snoc]
/-- the stretches between begins -/
def runF : List (Int × V) → List Run
  | [] => []
  | [p] => [(p.2, p.1, none)]
  | p :: q :: r => (p.2, p.1, some (q.1 - 1)) :: runF (q :: r)
theorem runF_len : ∀ B : List (Int × V), (runF B).length = B.length
  | [] => rfl
  | [_] => rfl
  | p :: q :: r => congrArg Nat.succ (runF_len (q :: r))
theorem runF_get : ∀ (B : List (Int × V)) (i : Nat) (p : Int × V), B[i]? = some p → (runF B)[i]? = some (p.2, p.1, (B[i + 1]?).map fun q => q.1 - 1)
  | [], _, _, h => by simp at h
  | [x], 0, p, h => by cases h; rfl
  | [x], i + 1, p, h => by simp at h
  | x :: y :: r, 0, p, h => by cases h; rfl
  | x :: y :: r, i + 1, p, h => runF_get (y :: r) i p h
theorem atL_from {s : V} : ∀ {r : List (Int × V)} {t : V} {p : Int × V} {d : Int}, p.1 ≤ d → atL s (p :: r) d = atL p.2 r d := by
  intro r t p d h
  show (r.foldl _ (if p.1 ≤ d then p.2 else s)) = _
  rw [if_pos h]
  rfl
/-- they cover all days, by their values -/
theorem runF_cov {g : Int → V} : ∀ {B : List (Int × V)} {f : Int} {w : V} {r : List (Int × V)}, B = (f, w) :: r → (B.Pairwise fun a b => a.1 < b.1) → (∀ d, f ≤ d → g d = atL w r d) → Cov rFi rLa (fun x d => g d = x.1) f (runF B)
  | [], _, _, _, e, _, _ => by cases e
  | [p], f, w, r, e, _, h => by
    cases e
    exact ⟨rfl, rfl, fun d hd => h d hd⟩
  | p :: q :: r', f, w, r, e, up, h => by
    cases e
    have u := List.pairwise_cons.mp up
    have hq := u.1 q List.mem_cons_self
    have key := runF_cov (g := g) (B := q :: r') (f := q.1) (w := q.2) (r := r') rfl u.2 (fun d hd => by
      rw [h d (by show f ≤ d; omega), atL_from (t := w) hd])
    have cov : Cov rFi rLa (fun x d => g d = x.1) (q.1 - 1 + 1) (runF (q :: r')) := by
      rw [show q.1 - 1 + 1 = q.1 by omega]
      exact key
    have hl : ∃ c cs, runF (q :: r') = c :: cs := by
      cases hr : runF (q :: r') with
      | nil =>
        have := runF_len (q :: r')
        rw [hr] at this
        cases this
      | cons c cs => exact ⟨c, cs, rfl⟩
    obtain ⟨c, cs, ec⟩ := hl
    show Cov rFi rLa _ f ((w, f, some (q.1 - 1)) :: runF (q :: r'))
    rw [ec] at cov ⊢
    refine ⟨rfl, q.1 - 1, rfl, by show f ≤ q.1 - 1; omega, fun d h1 h2 => ?_, cov⟩
    show g d = w
    rw [h d h1]
    refine atL_high fun x hx => ?_
    have : q.1 ≤ x.1 := by
      rcases List.mem_cons.mp hx with rfl | hx
      · exact Int.le_refl _
      · exact Int.le_of_lt ((List.pairwise_cons.mp u.2).1 x hx)
    omega
/-- runs of a value that changes on rising days -/
theorem runs_cov {s : V} {ch : List (Int × V)} (hu : ch.Pairwise fun a b => a.1 < b.1) (h0 : ∀ x ∈ ch, 0 ≤ x.1) : Cov rFi rLa (fun x d => atL s ch d = x.1) 0 (runF (begF s ch)) := by
  obtain ⟨⟨w, r, hB⟩, up, _, at_, _, _⟩ := begs_of s ch hu h0
  refine runF_cov hB up fun d hd => ?_
  rw [at_ d hd, hB, atL_from (t := s) hd]
/-! ### sums by day -/
def sumLe (t : List (Int × Int)) (d : Int) : Int := ((t.filter fun p => decide (p.1 ≤ d)).map (·.2)).sum
theorem sumLe_nil (d : Int) : sumLe [] d = 0 := rfl
theorem sumLe_cons (p : Int × Int) (t : List (Int × Int)) (d : Int) : sumLe (p :: t) d = (if p.1 ≤ d then p.2 else 0) + sumLe t d := by
  unfold sumLe
  rw [List.filter_cons]
  by_cases h : p.1 ≤ d
  · rw [if_pos (decide_eq_true h), List.map_cons, List.sum_cons, if_pos h]
  · rw [if_neg (by rw [decide_eq_false h]; nofun), if_neg h, Int.zero_add]
theorem sumLe_app (a b : List (Int × Int)) (d : Int) : sumLe (a ++ b) d = sumLe a d + sumLe b d := by
  unfold sumLe
  rw [List.filter_append, List.map_append, List.sum_append]
theorem sumLe_set {k x δ d : Int} : ∀ {t : List (Int × Int)}, (t.map (·.1)).Nodup → getA t k = some x → sumLe (t.map fun p => if p.1 = k then (p.1, x + δ) else p) d = sumLe t d + if k ≤ d then δ else 0
  | [], _, h => nomatch h
  | p :: r, nd, hg => by
    have nd' := List.nodup_cons.mp nd
    rw [List.map_cons, sumLe_cons, sumLe_cons]
    by_cases e : p.1 = k
    · rw [getA_pos e] at hg
      have hx : p.2 = x := Option.some.inj hg
      have em : r.map (fun p => if p.1 = k then (p.1, x + δ) else p) = r := by
        have : ∀ q ∈ r, (if q.1 = k then (q.1, x + δ) else q) = q := fun q hq => if_neg fun z => nd'.1 (List.mem_map.mpr ⟨q, hq, z.trans e.symm⟩)
        exact (List.map_congr_left this).trans (List.map_id _)
      rw [em, if_pos e, hx, e]
      show (if k ≤ d then x + δ else 0) + _ = _
      split <;> omega
    · rw [getA_neg e] at hg
      rw [if_neg e, sumLe_set nd'.2 hg]
      omega
/-- one entry more by so much -/
theorem sumLe_put {k δ d : Int} {t : List (Int × Int)} (nd : (t.map (·.1)).Nodup) : sumLe (putA t k ((getA t k).getD 0 + δ)) d = sumLe t d + if k ≤ d then δ else 0 := by
  cases hg : getA t k with
  | none =>
    rw [putA_new hg, sumLe_app, sumLe_cons, sumLe_nil]
    show sumLe t d + ((if k ≤ d then 0 + δ else 0) + 0) = _
    rw [Int.add_zero, Int.zero_add]
  | some x =>
    rw [putA_old hg]
    exact sumLe_set nd hg
/-- the sum over the first so many days -/
def sumN (g : Nat → Int) : Nat → Int
  | 0 => 0
  | n + 1 => sumN g n + g n
/-- so many days on which it is the same -/
theorem sumN_const {g : Nat → Int} {m : Int} {a : Nat} : ∀ {k : Nat}, (∀ i, a ≤ i → i < a + k → g i = m) → sumN g (a + k) = sumN g a + m * k
  | 0, _ => by
    show sumN g a = _
    rw [show ((0 : Nat) : Int) = 0 from rfl, Int.mul_zero, Int.add_zero]
  | k + 1, h => by
    show sumN g (a + k) + g (a + k) = _
    rw [sumN_const fun i h1 h2 => h i h1 (by omega), h (a + k) (by omega) (by omega), Int.add_assoc]
    congr 1
    rw [show ((k + 1 : Nat) : Int) = (k : Int) + 1 by omega, Int.mul_add, Int.mul_one]
/-! ### what is left -/
/-- at the end of day d, by what comes and goes on each day -/
def leftI (net : Nat → Int) (d : Int) : Int := sumN net (d + 1).toNat
theorem left_run {net : Nat → Int} {land eat : Nat → Int} (hn : ∀ i, net i = land i - eat i) {a d m : Int} (h0 : 0 ≤ a) (hd : a ≤ d) (hm : ∀ i : Nat, a ≤ i → (i : Int) ≤ d → eat i = m) (hl : ∀ i : Nat, a < i → (i : Int) ≤ d → land i = 0) :
    leftI net d = leftI net (a - 1) + land a.toNat - m * (d - a + 1) := by
  obtain ⟨n, rfl⟩ : ∃ n : Nat, a = (n : Int) := ⟨a.toNat, by omega⟩
  obtain ⟨k, rfl⟩ : ∃ k : Nat, d = (n : Int) + k := ⟨(d - n).toNat, by omega⟩
  unfold leftI
  have e1 : ((n : Int) + k + 1).toNat = n + 1 + k := by omega
  have e2 : ((n : Int) - 1 + 1).toNat = n := by omega
  have e3 : ((n : Int)).toNat = n := by omega
  rw [e1, e2, e3]
  rw [sumN_const (m := -m) fun i h1 h2 => by
    rw [hn i, hm i (by omega) (by omega), hl i (by omega) (by omega)]
    omega]
  show sumN net n + net n + -m * k = _
  rw [hn n, hm n (by omega) (by omega)]
  have : m * ((n : Int) + k - n + 1) = m * k + m := by
    rw [show (n : Int) + k - n + 1 = k + 1 by omega, Int.mul_add, Int.mul_one]
  rw [this, Int.neg_mul]
  omega
end LT
set_option Elab.async false
set_option linter.all false
set_option maxRecDepth 100000
set_option maxHeartbeats 1600000
/-! Own layer: turns, heads, parts, supplies, what is left (pure). -/
namespace LT
open PySem PySem.Spec PyProof.Rows L2 NdefX
/-! ### covers, to a last day or for ever -/
section
variable {β : Type} {fi : β → Int} {la : β → Option Int} {K : β → Int → Prop}
def CovX (fi : β → Int) (la : β → Option Int) (K : β → Int → Prop) (f : Int) (S : List β) : Option Int → Prop
  | none => Cov fi la K f S
  | some e => CovT fi la K f S (e + 1)
def NextB (fi : β → Int) (la : β → Option Int) (S : List β) (x : Option Int) (i : Nat) (b : β) : Prop :=
  (i + 1 = S.length ∧ la b = x ∧ ∀ e, x = some e → fi b ≤ e) ∨ ∃ e c, la b = some e ∧ fi b ≤ e ∧ S[i + 1]? = some c ∧ fi c = e + 1
theorem Cov.get : ∀ {S : List β} {f : Int}, Cov fi la K f S → ∀ i b, S[i]? = some b → f ≤ fi b ∧ (i = 0 → fi b = f) ∧ (∀ d, HasD2 fi la b d → K b d) ∧ NextB fi la S none i b
  | [], _, h, _, _, _ => h.elim
  | [x], f, ⟨a1, a2, a3⟩, i, b, hb => by
    cases i with
    | zero =>
      cases hb
      exact ⟨by omega, fun _ => a1, fun d hd => a3 d (by have := hd.1; omega), .inl ⟨rfl, a2, nofun⟩⟩
    | succ i => simp at hb
  | x :: y :: r, f, ⟨a1, e, a2, a3, a4, a5⟩, i, b, hb => by
    cases i with
    | zero =>
      cases hb
      obtain ⟨c1, c2, _⟩ := Cov.get (S := y :: r) a5 0 y rfl
      exact ⟨by omega, fun _ => a1, fun d hd => a4 d (by have := hd.1; omega) (hd.2 e a2), .inr ⟨e, y, a2, by omega, rfl, c2 rfl⟩⟩
    | succ i =>
      obtain ⟨c1, _, c3, c4⟩ := Cov.get (S := y :: r) a5 i b hb
      refine ⟨by omega, nofun, c3, ?_⟩
      rcases c4 with ⟨q1, q2⟩ | ⟨e', c, q1, q2, q3, q4⟩
      · exact .inl ⟨by rw [List.length_cons, ← q1], q2⟩
      · exact .inr ⟨e', c, q1, q2, q3, q4⟩
theorem CovT.get : ∀ {S : List β} {f z : Int}, CovT fi la K f S (z + 1) → ∀ i b, S[i]? = some b → f ≤ fi b ∧ (i = 0 → fi b = f) ∧ (∀ d, HasD2 fi la b d → K b d) ∧ NextB fi la S (some z) i b
  | [], _, _, h, _, _, hb => by simp at hb
  | [x], f, z, ⟨a1, e, a2, a3, a4, a5⟩, i, b, hb => by
    cases i with
    | zero =>
      cases hb
      have a5 : e + 1 = z + 1 := a5
      have ez : e = z := by omega
      subst ez
      exact ⟨by omega, fun _ => a1, fun d hd => a4 d (by have := hd.1; omega) (hd.2 e a2), .inl ⟨rfl, a2, fun e' h => by cases h; omega⟩⟩
    | succ i => simp at hb
  | x :: y :: r, f, z, ⟨a1, e, a2, a3, a4, a5⟩, i, b, hb => by
    cases i with
    | zero =>
      cases hb
      obtain ⟨c1, c2, _⟩ := CovT.get (S := y :: r) a5 0 y rfl
      exact ⟨by omega, fun _ => a1, fun d hd => a4 d (by have := hd.1; omega) (hd.2 e a2), .inr ⟨e, y, a2, by omega, rfl, c2 rfl⟩⟩
    | succ i =>
      obtain ⟨c1, _, c3, c4⟩ := CovT.get (S := y :: r) a5 i b hb
      refine ⟨by omega, nofun, c3, ?_⟩
      rcases c4 with ⟨q1, q2⟩ | ⟨e', c, q1, q2, q3, q4⟩
      · exact .inl ⟨by rw [List.length_cons, ← q1], q2⟩
      · exact .inr ⟨e', c, q1, q2, q3, q4⟩
theorem CovX.get {S : List β} {f : Int} {x : Option Int} (h : CovX fi la K f S x) (i : Nat) (b : β) (hb : S[i]? = some b) : f ≤ fi b ∧ (i = 0 → fi b = f) ∧ (∀ d, HasD2 fi la b d → K b d) ∧ NextB fi la S x i b := by
  cases x with
  | none => exact Cov.get h i b hb
  | some z => exact CovT.get h i b hb
theorem Cov.hd {S : List β} {f : Int} (h : Cov fi la K f S) : ∃ b, S[0]? = some b ∧ fi b = f := by
  match S, h with
  | [b], h => exact ⟨b, rfl, h.1⟩
  | b :: c :: r, h => exact ⟨b, rfl, h.1⟩
theorem CovX.hd {S : List β} {f : Int} {x : Option Int} (h : CovX fi la K f S x) (hx : ∀ e, x = some e → f ≤ e) : ∃ b, S[0]? = some b ∧ fi b = f := by
  cases x with
  | none => exact Cov.hd h
  | some z =>
    match S, h with
    | [], h =>
      have h : f = z + 1 := h
      have := hx z rfl
      omega
    | b :: r, h => exact ⟨b, rfl, h.1⟩
theorem Cov.le {S : List β} {f : Int} (h : Cov fi la K f S) : ∀ b ∈ S, f ≤ fi b ∧ ∀ e, la b = some e → fi b ≤ e := fun b hb => by
  obtain ⟨i, hi⟩ := List.getElem?_of_mem hb
  obtain ⟨h1, _, _, h2⟩ := h.get i b hi
  refine ⟨h1, fun e he => ?_⟩
  rcases h2 with ⟨_, q, _⟩ | ⟨e', c, q1, q2, _⟩
  · rw [he] at q
    cases q
  · rw [he] at q1
    cases q1
    exact q2
/-- the same with a last day -/
def FrX {γ : Type} (fi : β → Int) (fi' : γ → Int) (la' : γ → Option Int) (K' : γ → Int → Prop) (S : List β) (x : Option Int) (i : Nat) (T : List γ) (left : Int → Prop) : Prop :=
  (∃ b, S[i]? = some b ∧ CovT fi' la' K' 0 T (fi b) ∧ left (fi b)) ∨ (i = S.length ∧ match x with
    | none => Cov fi' la' K' 0 T
    | some e => CovT fi' la' K' 0 T (e + 1) ∧ left (e + 1))
/-- one more -/
theorem FrX.step {γ : Type} {fi' : γ → Int} {la' : γ → Option Int} {K' : γ → Int → Prop} {S : List β} {x : Option Int} {i : Nat} {T : List γ} {left left' : Int → Prop} {b : β} {c : γ} {f : Int} (h : CovX fi la K f S x) (hb : S[i]? = some b)
    (fr : FrX fi fi' la' K' S x i T left) (e1 : fi' c = fi b) (e2 : la' c = la b) (hk : ∀ d, HasD2 fi la b d → K' c d) (hl : ∀ e, la b = some e → left' (e + 1)) : FrX fi fi' la' K' S x (i + 1) (T ++ [c]) left' := by
  rcases fr with ⟨b', h1, h2, h3⟩ | ⟨h1, _⟩
  · rw [hb] at h1
    cases h1
    obtain ⟨q1, q2, q3, q4⟩ := h.get i b hb
    rcases q4 with ⟨n1, n2, n3⟩ | ⟨e, y, n1, n2, n3, n4⟩
    · refine .inr ⟨n1, ?_⟩
      cases x with
      | none => exact CovT.last h2 e1 (by rw [e2, n2]) fun d hd => hk d ⟨hd, fun e he => by rw [n2] at he; cases he⟩
      | some e => exact ⟨CovT.snoc h2 e1 (by rw [e2, n2]) (n3 e rfl) fun d h1 h2 => hk d ⟨h1, fun e' he => by rw [n2] at he; cases he; exact h2⟩, hl e n2⟩
    · refine .inl ⟨y, n3, ?_, ?_⟩
      · rw [n4]
        exact CovT.snoc h2 e1 (by rw [e2, n1]) n2 fun d h1 h2 => hk d ⟨h1, fun e' he => by rw [n1] at he; cases he; exact h2⟩
      · rw [n4]
        exact hl e n1
  · rw [h1] at hb
    rw [List.getElem?_eq_none (Nat.le_refl _)] at hb
    cases hb
end
/-! ### parts that begin on days -/
abbrev Part := Int × Option Int
def hasB (f : Int) (x : Option Int) (d : Int) : Bool := decide (f ≤ d) && (match x with | none => true | some e => decide (d ≤ e))
theorem hasB_iff {f : Int} {x : Option Int} {d : Int} : hasB f x d = true ↔ f ≤ d ∧ ∀ e, x = some e → d ≤ e := by
  unfold hasB
  rw [Bool.and_eq_true, decide_eq_true_iff]
  cases x with
  | none => exact ⟨fun h => ⟨h.1, nofun⟩, fun h => ⟨h.1, rfl⟩⟩
  | some e => exact ⟨fun h => ⟨h.1, fun e' he => by cases he; exact of_decide_eq_true h.2⟩, fun h => ⟨h.1, decide_eq_true (h.2 e rfl)⟩⟩
theorem CovT.lt {β : Type} {fi : β → Int} {la : β → Option Int} {K : β → Int → Prop} : ∀ {S : List β} {f x : Int}, CovT fi la K f S x → f ≤ x
  | [], _, _, h => Int.le_of_eq h
  | _ :: _, _, _, ⟨_, e, _, h2, _, h4⟩ => by
    have := CovT.lt h4
    omega
/-! ### turns -/
def plE (es : List Evt) (z : Str) (kn : Option Int) (d : Int) : V := plI (heldE es true z kn) d
structure RunsOf (P : Int → Prop) (g : Int → V) (rs : List Run) : Prop where
  cov : Cov rFi rLa (fun x d => g d = x.1) 0 rs
  un : ∀ (i : Nat) a b, rs[i]? = some a → rs[i + 1]? = some b → a.1 ≠ b.1
  days : ∀ r ∈ rs, (rFi r = 0 ∨ P (rFi r)) ∧ ∀ e, rLa r = some e → P (e + 1)
theorem runs_ok {s : V} {ch : List (Int × V)} (hu : ch.Pairwise fun a b => a.1 < b.1) (h0 : ∀ x ∈ ch, 0 ≤ x.1) : RunsOf (fun d => d ∈ ch.map (·.1)) (atL s ch) (runF (begF s ch)) := by
  have B := begs_of s ch hu h0
  have le : ∀ x ∈ begF s ch, x.1 = 0 ∨ x.1 ∈ ch.map (·.1) := fun x hx => (B.le x hx).imp id fun ⟨y, hy, e⟩ => List.mem_map.mpr ⟨y, hy, e.symm⟩
  have get : ∀ i a, (runF (begF s ch))[i]? = some a → ∃ p, (begF s ch)[i]? = some p ∧ a = (p.2, p.1, ((begF s ch)[i + 1]?).map fun q => q.1 - 1) := fun i a h => by
    have il := (List.getElem?_eq_some_iff.mp h).1
    rw [runF_len] at il
    have e := List.getElem?_eq_getElem il
    refine ⟨_, e, ?_⟩
    rw [runF_get _ i _ e] at h
    exact (Option.some.inj h).symm
  refine ⟨runs_cov hu h0, fun i a b h1 h2 => ?_, fun r hr => ?_⟩
  · obtain ⟨p, e1, rfl⟩ := get i a h1
    obtain ⟨q, e2, rfl⟩ := get (i + 1) b h2
    exact B.un i p q e1 e2
  · obtain ⟨i, hi⟩ := List.getElem?_of_mem hr
    obtain ⟨p, e1, rfl⟩ := get i r hi
    refine ⟨le p (List.mem_of_getElem? e1), fun e he => ?_⟩
    have he : ((begF s ch)[i + 1]?).map (fun q => q.1 - 1) = some e := he
    cases hq : (begF s ch)[i + 1]? with
    | none => rw [hq] at he; cases he
    | some q =>
      rw [hq] at he
      have he : q.1 - 1 = e := Option.some.inj he
      have hm := le q (List.mem_of_getElem? hq)
      have lt : p.1 < q.1 := by
        have := List.pairwise_iff_getElem.mp B.up i (i + 1) (List.getElem?_eq_some_iff.mp e1).1 (List.getElem?_eq_some_iff.mp hq).1 (by omega)
        rw [(List.getElem?_eq_some_iff.mp e1).2, (List.getElem?_eq_some_iff.mp hq).2] at this
        exact this
      have p0 : 0 ≤ p.1 := by
        rcases B.le p (List.mem_of_getElem? e1) with h | ⟨y, hy, h⟩
        · omega
        · have := h0 y hy
          omega
      rw [← he, show q.1 - 1 + 1 = q.1 by omega]
      rcases hm with h | h
      · omega
      · exact h
theorem RunsOf.imp {P P' : Int → Prop} {g : Int → V} {rs : List Run} (h : RunsOf P g rs) (k : ∀ d, P d → P' d) : RunsOf P' g rs := ⟨h.cov, h.un, fun r hr => ⟨(h.days r hr).1.imp id (k _), fun e he => k _ ((h.days r hr).2 e he)⟩⟩
theorem Cov.congr {β : Type} {fi : β → Int} {la : β → Option Int} {K K' : β → Int → Prop} (hk : ∀ b d, 0 ≤ d → K b d → K' b d) {S : List β} {f : Int} (h0 : 0 ≤ f) (h : Cov fi la K f S) : Cov fi la K' f S := by
  suffices go : ∀ (S : List β) (f : Int), 0 ≤ f → Cov fi la K f S → Cov fi la K' f S from go S f h0 h
  clear h h0
  intro S
  induction S with
  | nil => exact fun _ _ h => h.elim
  | cons b r ih =>
    intro f h0 h
    cases r with
    | nil => exact ⟨h.1, h.2.1, fun d hd => hk b d (by omega) (h.2.2 d hd)⟩
    | cons c r =>
      obtain ⟨a1, e, a2, a3, a4, a5⟩ := h
      exact ⟨a1, e, a2, a3, fun d h1 h2 => hk b d (by omega) (a4 d h1 h2), ih _ (by omega) a5⟩
theorem RunsOf.congr {P : Int → Prop} {g g' : Int → V} {rs : List Run} (h : RunsOf P g rs) (e : ∀ d, 0 ≤ d → g d = g' d) : RunsOf P g' rs := ⟨Cov.congr (fun b d hd (hk : g d = b.1) => (e d hd).symm.trans hk) (Int.le_refl 0) h.cov, h.un, h.days⟩
/-- an event's day -/
def EvD (es : List Evt) (mv : Bool) (z : Str) (d : Int) : Prop := ∃ e ∈ es, e.mv = mv ∧ e.who = z ∧ e.day = d
theorem hold_day {es : List Evt} {mv : Bool} {z : Str} {kn : Option Int} {L : List (Int × V)} (h : HoldF (heldE es mv z kn) L) : ∀ d, d ∈ L.map (·.1) → EvD es mv z d := fun d hd => by
  obtain ⟨⟨d, w⟩, hp, rfl⟩ := List.mem_map.mp hd
  obtain ⟨h1, h2⟩ := (h.mem d w).mp hp
  unfold heldE at h2
  cases e : heldO es mv z kn d with
  | none => rw [e] at h2; exact absurd h2.symm h1
  | some w' =>
    obtain ⟨e', q1, q2, _⟩ := heldO_mem e
    obtain ⟨⟨q3, q4⟩, _, q5⟩ := heldP_iff.mp q2
    exact ⟨e', q1, q3, q4, q5⟩
theorem turns_ok {es : List Evt} {z : Str} {kn : Option Int} {L : List (Int × V)} (h : HoldF (heldE es true z kn) L) (h0 : ∀ e ∈ es, 0 ≤ e.day) : RunsOf (EvD es true z) (plE es z kn) (runF (begF (.str (Str.ofString "")) L)) := by
  have d0 : ∀ x ∈ L, 0 ≤ x.1 := fun x hx => by
    obtain ⟨e, he, _, _, ed⟩ := hold_day h x.1 (List.mem_map.mpr ⟨x, hx, rfl⟩)
    have := h0 e he
    omega
  refine ((runs_ok h.up d0).imp fun d hd => hold_day h d hd).congr fun d hd => ?_
  rw [← whereL_at]
  exact plI_of (held_neg h0) hd (whereL_is h)
theorem turns_len {L : List (Int × V)} {s : V} : (runF (begF s L)).length ≤ L.length + 1 := by
  rw [runF_len]
  refine snoc_ind (p := fun L => (begF s L).length ≤ L.length + 1) (Nat.le_refl _) (fun L p ih => ?_) L
  rw [begF_snoc, List.length_append]
  unfold begS
  split
  · show 1 ≤ _
    omega
  · split
    · omega
    · rw [List.length_append]
      show (begF s L).length + 1 ≤ L.length + 1 + 1
      omega
theorem begF_vals {s : V} : ∀ L : List (Int × V), ∀ p ∈ begF s L, p.2 = s ∨ ∃ x ∈ L, x.2 = p.2 := by
  refine snoc_ind (fun p hp => .inl (by rw [List.mem_singleton.mp hp])) fun L q ih p hp => ?_
  rw [begF_snoc] at hp
  unfold begS at hp
  split at hp
  · rw [List.mem_singleton.mp hp]
    exact .inr ⟨q, List.mem_append_right _ List.mem_cons_self, rfl⟩
  · split at hp
    · exact (ih p hp).imp id fun ⟨x, hx, e⟩ => ⟨x, List.mem_append_left _ hx, e⟩
    · rcases List.mem_append.mp hp with hp | hp
      · exact (ih p hp).imp id fun ⟨x, hx, e⟩ => ⟨x, List.mem_append_left _ hx, e⟩
      · rw [List.mem_singleton.mp hp]
        exact .inr ⟨q, List.mem_append_right _ List.mem_cons_self, rfl⟩
theorem turns_vals {L : List (Int × V)} {s : V} : ∀ r ∈ runF (begF s L), r.1 = s ∨ ∃ x ∈ L, x.2 = r.1 := by
  intro r hr
  obtain ⟨i, hi⟩ := List.getElem?_of_mem hr
  have il := (List.getElem?_eq_some_iff.mp hi).1
  rw [runF_len] at il
  have e := List.getElem?_eq_getElem il
  rw [runF_get _ i _ e] at hi
  cases hi
  exact begF_vals L _ (List.getElem_mem il)
theorem begF_ne (s : V) : ∀ L : List (Int × V), begF s L ≠ [] := by
  refine snoc_ind (by nofun) fun L p ih => ?_
  rw [begF_snoc]
  unfold begS
  split
  · nofun
  · split
    · exact ih
    · simp
/-! ### heads -/
def manyI (es : List Evt) (zs : List Str) (z : Str) (kn : Option Int) (d : Int) : Int := ((zs.filter fun k => decide (plE es k kn d = .str z)).length : Nat)
def getI (t : List (Int × Int)) (k : Int) : Int := (getA t k).getD 0
def putStep (t : List (Int × Int)) (f : Int) : Option Int → List (Int × Int)
  | none => putA t f (getI t f + 1)
  | some e => putA (putA t f (getI t f + 1)) (e + 1) (getI (putA t f (getI t f + 1)) (e + 1) - 1)
theorem keys_putI {t : List (Int × Int)} {k v d : Int} (h : d ∈ (putA t k v).map (·.1)) : d = k ∨ d ∈ t.map (·.1) := by
  obtain ⟨p, hp, rfl⟩ := List.mem_map.mp h
  rcases mem_put hp with rfl | hp
  · exact .inl rfl
  · exact .inr (List.mem_map.mpr ⟨p, hp, rfl⟩)
structure Steps (P : Int → Prop) (t : List (Int × Int)) (g : Int → Int) : Prop where
  nd : (t.map (·.1)).Nodup
  ks : ∀ d ∈ t.map (·.1), d = 0 ∨ P d
  sum : ∀ d, sumLe t d = g d
theorem Steps.nil (P : Int → Prop) : Steps P [] (fun _ => 0) := ⟨List.nodup_nil, nofun, fun _ => rfl⟩
theorem Steps.put {P : Int → Prop} {t : List (Int × Int)} {g : Int → Int} {f : Int} {x : Option Int} (h : Steps P t g) (h1 : f = 0 ∨ P f) (h2 : ∀ e, x = some e → f ≤ e ∧ P (e + 1)) :
    Steps P (putStep t f x) (fun d => g d + if hasB f x d = true then 1 else 0) := by
  cases x with
  | none =>
    refine ⟨nodup_put h.nd, fun d hd => ?_, fun d => ?_⟩
    · rcases keys_putI hd with rfl | hd
      · exact h1
      · exact h.ks d hd
    · show sumLe (putA t f ((getA t f).getD 0 + 1)) d = _
      rw [sumLe_put h.nd, h.sum]
      by_cases hf : f ≤ d
      · rw [if_pos hf, if_pos (hasB_iff.mpr ⟨hf, fun e h => by cases h⟩)]
      · rw [if_neg hf, if_neg (fun z => hf (hasB_iff.mp z).1)]
  | some e =>
    obtain ⟨fe, pe⟩ := h2 e rfl
    refine ⟨nodup_put (nodup_put h.nd), fun d hd => ?_, fun d => ?_⟩
    · rcases keys_putI hd with rfl | hd
      · exact .inr pe
      · rcases keys_putI hd with rfl | hd
        · exact h1
        · exact h.ks d hd
    · have e1 : putStep t f (some e) = putA (putA t f ((getA t f).getD 0 + 1)) (e + 1) ((getA (putA t f ((getA t f).getD 0 + 1)) (e + 1)).getD 0 + -1) := rfl
      rw [e1, sumLe_put (nodup_put h.nd), sumLe_put h.nd, h.sum]
      by_cases hf : f ≤ d
      · rw [if_pos hf]
        by_cases he : e + 1 ≤ d
        · rw [if_pos he, if_neg (fun z => by have := (hasB_iff.mp z).2 e rfl; omega)]
          omega
        · rw [if_neg he, if_pos (hasB_iff.mpr ⟨hf, fun e' h => by cases h; omega⟩)]
          omega
      · rw [if_neg hf, if_neg (by omega), if_neg (fun z => hf (hasB_iff.mp z).1), Int.add_zero]
theorem Steps.congr {P : Int → Prop} {t : List (Int × Int)} {g g' : Int → Int} (h : Steps P t g) (e : ∀ d, g d = g' d) : Steps P t g' := ⟨h.nd, h.ks, fun d => (h.sum d).trans (e d)⟩
theorem Steps.len {es : List Evt} {mv : Bool} {t : List (Int × Int)} {g : Int → Int} (h : Steps (fun d => ∃ z, EvD es mv z d) t g) : t.length ≤ es.length + 1 := by
  have := List.Nodup.length_le_of_subset h.nd (l₂ := 0 :: es.map (·.day)) fun d hd => by
    rcases h.ks d hd with rfl | ⟨z, e, he, _, _, rfl⟩
    · exact List.mem_cons_self
    · exact List.mem_cons_of_mem _ (List.mem_map.mpr ⟨e, he, rfl⟩)
  rw [List.length_map, List.length_cons, List.length_map] at this
  exact this
instance (b : Run) (d : Int) : Decidable (HasD2 rFi rLa b d) := decidable_of_iff (hasB (rFi b) (rLa b) d = true) hasB_iff
/-! ### steps, day by day -/
def sumV (t : List (Int × Int)) (ks : List Int) : Int := (ks.map (getI t)).sum
structure Acc (t : List (Int × Int)) (ks : List Int) (rs : List (Int × V)) : Prop where
  ek : rs.map (·.1) = ks
  at_ : ∀ d, atL (.int 0) rs d = .int (sumV t (ks.filter fun k => decide (k ≤ d)))
  vs : ∀ p ∈ rs, ∃ m : Int, p.2 = .int m
theorem Acc.nil (t : List (Int × Int)) : Acc t [] [] := ⟨rfl, fun _ => rfl, nofun⟩
theorem Acc.snoc {t : List (Int × Int)} {ks : List Int} {rs : List (Int × V)} {k : Int} (h : Acc t ks rs) (up : (ks ++ [k]).Pairwise (· < ·)) : Acc t (ks ++ [k]) (rs ++ [(k, .int (sumV t (ks ++ [k])))]) := by
  refine ⟨by rw [List.map_append, h.ek]; rfl, fun d => ?_, fun p hp => ?_⟩
  · rw [atL_snoc]
    by_cases hk : k ≤ d
    · rw [if_pos hk]
      congr 2
      have : (ks ++ [k]).filter (fun k => decide (k ≤ d)) = ks ++ [k] := List.filter_eq_self.mpr fun x hx => by
        rcases List.mem_append.mp hx with hx | hx
        · have := (List.pairwise_append.mp up).2.2 x hx k List.mem_cons_self
          exact decide_eq_true (by omega)
        · rw [List.mem_singleton.mp hx]
          exact decide_eq_true hk
      rw [this]
    · rw [if_neg hk, h.at_, List.filter_append, List.filter_cons, decide_eq_false hk, if_neg (by nofun), List.filter_nil, List.append_nil]
  · rcases List.mem_append.mp hp with hp | hp
    · exact h.vs p hp
    · rw [List.mem_singleton.mp hp]
      exact ⟨_, rfl⟩
/-! ### what is left -/
def numI : V → Int
  | .int n => n
  | _ => 0
structure Shop where
  es : List Evt
  zs : List Str
  z : Str
  kn : Option Int
  R : Int
namespace Shop
def many (s : Shop) (d : Int) : Int := manyI s.es s.zs s.z s.kn d
def landW (s : Shop) (d : Int) : V := (heldO s.es false s.z s.kn d).getD (.int 0)
def land (s : Shop) (d : Int) : Int := numI (s.landW d)
def net (s : Shop) (i : Nat) : Int := s.land i - s.many i * s.R
def left (s : Shop) (d : Int) : Int := leftI s.net d
structure OK (s : Shop) (rk : List (Str × Int)) : Prop where
  ev : ∀ e ∈ s.es, EvOK rk e
  zl : s.zs.length ≤ 30
  r0 : 0 ≤ s.R
  r1 : s.R < 10 ^ 56
variable {s : Shop} {rk : List (Str × Int)}
theorem OK.d0 (h : s.OK rk) : ∀ e ∈ s.es, 0 ≤ e.day := fun e he => (h.ev e he).d0
/-- over a stretch of days on which as many eat and on none but the first anything is landed -/
theorem run {a d m : Int} (h0 : 0 ≤ a) (hd : a ≤ d) (hm : ∀ i, a ≤ i → i ≤ d → s.many i = m) (hl : ∀ i, a < i → i ≤ d → s.land i = 0) : s.left d = s.left (a - 1) + s.land a - m * s.R * (d - a + 1) := by
  have := left_run (net := s.net) (land := fun i => s.land i) (eat := fun i => s.many i * s.R) (fun _ => rfl) (m := m * s.R) h0 hd (fun i h1 h2 => by rw [hm i h1 h2]) (fun i h1 h2 => hl i h1 h2)
  have e : ((a.toNat : Nat) : Int) = a := Int.toNat_of_nonneg h0
  simp only [e] at this
  exact this
end Shop
structure Sup where
  fi : Int
  la : Option Int
  stock : Int
  eaten : Int
def supK (s : Shop) (b : Sup) (d : Int) : Prop := s.left d = b.stock - b.eaten * (d - b.fi + 1)
structure SupB (s : Shop) (b : Sup) : Prop where
  f0 : 0 ≤ b.fi
  f1 : b.fi < 10 ^ 55
  l1 : ∀ e, b.la = some e → b.fi ≤ e ∧ e < 10 ^ 55
  st : b.stock = s.left (b.fi - 1) + s.land b.fi
  e0 : 0 ≤ b.eaten
  e1 : b.eaten < 10 ^ 58
structure SupOf (s : Shop) (ss : List Sup) : Prop where
  cov : Cov Sup.fi Sup.la (supK s) 0 ss
  ok : ∀ b ∈ ss, SupB s b
/-- what is left on the one that has the day -/
theorem SupOf.at_ {s : Shop} {ss : List Sup} (h : SupOf s ss) {d : Int} (hd : 0 ≤ d) : ∃ (i : Nat) (b : Sup), ss[i]? = some b ∧ HasD2 Sup.fi Sup.la b d ∧ supK s b d ∧ ∀ j c, ss[j]? = some c → HasD2 Sup.fi Sup.la c d → j = i := h.cov.one d hd
/-! ### unfed -/
/-! ### wanted -/
structure Want (s : Shop) (till : Int) (lim : Int → Prop) (least : Int) (day : Option Int) : Prop where
  low : ∀ d, 0 ≤ d → d ≤ till → lim d → least ≤ s.left d
  is : (least = 0 ∧ day = none) ∨ ∃ x, day = some x ∧ least < 0 ∧ 0 ≤ x ∧ x ≤ till ∧ s.left x = least ∧ ∀ d, 0 ≤ d → d < x → least < s.left d
theorem Want.nil {s : Shop} {till : Int} {lim : Int → Prop} (h : ∀ d, 0 ≤ d → ¬ lim d) : Want s till lim 0 none := ⟨fun d h0 _ hl => absurd hl (h d h0), .inl ⟨rfl, rfl⟩⟩
/-! ### by the law: from mark to mark -/
structure Marks (s : Shop) (ms : List Int) : Prop where
  up : ms.Pairwise (· < ·)
  hd : ms[0]? = some 0
  mv : ∀ k ∈ s.zs, ∀ d, heldE s.es true k s.kn d ≠ .non → d ∈ ms
  ld : ∀ d, heldO s.es false s.z s.kn d ≠ none → d ∈ ms
  top : ∀ d ∈ ms, 0 ≤ d ∧ d < 10 ^ 55
namespace Shop
variable {s : Shop} {rk : List (Str × Int)} {ms : List Int}
theorem many_same (ok : s.OK rk) {a d : Int} (h0 : 0 ≤ a) (hd : a ≤ d) (h : ∀ k ∈ s.zs, ∀ o, a < o → o ≤ d → heldE s.es true k s.kn o = .non) : s.many d = s.many a := by
  unfold many manyI
  congr 2
  refine List.filter_congr fun k hk => ?_
  have : plE s.es k s.kn d = plE s.es k s.kn a := plI_same (held_neg ok.d0) h0 hd (h k hk)
  rw [this]
end Shop
/-- from one mark to the day before the next -/
theorem Marks.same {s : Shop} {rk : List (Str × Int)} {ms : List Int} (M : Marks s ms) (ok : s.OK rk) {i : Nat} {a d : Int} (ha : ms[i]? = some a) (hd : a ≤ d) (hn : ∀ b, ms[i + 1]? = some b → d < b) : s.many d = s.many a := by
  have a0 := (M.top a (List.mem_of_getElem? ha)).1
  refine Shop.many_same ok a0 hd fun k hk o h1 h2 => Classical.byContradiction fun hne => ?_
  obtain ⟨j, hj⟩ := List.getElem?_of_mem (M.mv k hk o hne)
  have il := List.getElem?_eq_some_iff.mp ha
  have jl := List.getElem?_eq_some_iff.mp hj
  by_cases hij : j ≤ i
  · by_cases e : j = i
    · subst e
      rw [ha] at hj
      cases hj
      omega
    · have := List.pairwise_iff_getElem.mp M.up j i jl.1 il.1 (by omega)
      rw [il.2, jl.2] at this
      omega
  · have hl : i + 1 < ms.length := by have := jl.1; omega
    have hb := hn _ (List.getElem?_eq_getElem hl)
    by_cases e : j = i + 1
    · subst e
      rw [List.getElem?_eq_getElem hl] at hj
      cases hj
      omega
    · have := List.pairwise_iff_getElem.mp M.up (i + 1) j hl jl.1 (by omega)
      rw [jl.2] at this
      omega
/-- the mark to which all is counted behind so many pieces -/
def cutM (ms : List Int) (d : Int) (i : Nat) : Int := match ms[i]? with
  | some a => if a ≤ d then a else d + 1
  | none => d + 1
def eatS (s : Shop) (x : Int) : Int := sumN (fun i => s.many i) x.toNat
theorem Marks.step {s : Shop} {rk : List (Str × Int)} {ms : List Int} (M : Marks s ms) (ok : s.OK rk) {d : Int} {i : Nat} {a : Int} (ha : ms[i]? = some a) :
    (a ≤ d → ∀ l, (match ms[i + 1]? with | some b => l = (if b - 1 < d then b - 1 else d) | none => l = d) → eatS s (cutM ms d (i + 1)) = eatS s (cutM ms d i) + s.many a * (l - a + 1)) ∧ (¬ a ≤ d → cutM ms d (i + 1) = cutM ms d i) := by
  have a0 := (M.top a (List.mem_of_getElem? ha)).1
  refine ⟨fun had l hl => ?_, fun had => ?_⟩
  · have e1 : cutM ms d i = a := by
      unfold cutM
      rw [ha]
      exact if_pos had
    have key : cutM ms d (i + 1) = l + 1 ∧ a ≤ l ∧ ∀ b, ms[i + 1]? = some b → l < b := by
      unfold cutM
      cases hb : ms[i + 1]? with
      | none =>
        rw [hb] at hl
        have hl : l = d := hl
        exact ⟨by rw [hl], by omega, nofun⟩
      | some b =>
        rw [hb] at hl
        have hl : l = if b - 1 < d then b - 1 else d := hl
        have il := List.getElem?_eq_some_iff.mp ha
        have jl := List.getElem?_eq_some_iff.mp hb
        have lt := List.pairwise_iff_getElem.mp M.up i (i + 1) il.1 jl.1 (by omega)
        rw [il.2, jl.2] at lt
        show (if b ≤ d then b else d + 1) = l + 1 ∧ a ≤ l ∧ ∀ b', some b = some b' → l < b'
        refine ⟨?_, ?_, fun b' h => ?_⟩
        · rw [hl]
          split <;> split <;> omega
        · rw [hl]
          split <;> omega
        · cases h
          rw [hl]
          split <;> omega
    obtain ⟨k1, k2, k3⟩ := key
    rw [e1, k1]
    unfold eatS
    have e2 : (l + 1).toNat = a.toNat + (l - a + 1).toNat := by omega
    rw [e2, sumN_const (m := s.many a) fun i' h1 h2 => M.same ok ha (by omega) fun b hb => by have := k3 b hb; omega]
    rw [Int.toNat_of_nonneg (by omega)]
  · unfold cutM
    rw [ha]
    cases hb : ms[i + 1]? with
    | none => exact (if_neg had).symm
    | some b =>
      have il := List.getElem?_eq_some_iff.mp ha
      have jl := List.getElem?_eq_some_iff.mp hb
      have lt := List.pairwise_iff_getElem.mp M.up i (i + 1) il.1 jl.1 (by omega)
      rw [il.2, jl.2] at lt
      show (if b ≤ d then b else d + 1) = if a ≤ d then a else d + 1
      rw [if_neg had, if_neg (by omega)]
end LT
set_option Elab.async false
set_option linter.all false
set_option maxRecDepth 100000
set_option maxHeartbeats 1600000
/-! Own layer: list(zip(a, b)) of two lists. -/
namespace LT
open PySem PySem.Spec PyProof.Rows L2
def ZSt (z TI TO i1 i2 a b S : Addr) (i : Nat) (h : Heap) : Prop := IsPair h TI (.ref i1) (.ref i2) ∧ h.IsListIter i1 a i ∧ h.IsListIter i2 b i ∧ (∃ o, h.get? TO = some o) ∧
  ((IsZip h z TI TO .none ∧ ∃ x y, IsPair h TO x y) ∨ ∃ T f oT, IsZipHeld h z TI TO T f ∧ h.get? T = some oT ∧ T ≠ z ∧ T ≠ i1 ∧ T ≠ i2 ∧ T ≠ S)
theorem ZSt.keep {z TI TO i1 i2 a b S : Addr} {i : Nat} {h h' : Heap} (st : ZSt z TI TO i1 i2 a b S i h) (hS : S ∉ [z, TI, TO, i1, i2]) (k : ∀ c o, c ≠ S → h.get? c = some o → h'.get? c = some o) : ZSt z TI TO i1 i2 a b S i h' := by
  obtain ⟨hTI, h1, h2, ⟨oo, hoo⟩, hz⟩ := st
  simp only [List.mem_cons, List.not_mem_nil, or_false, not_or] at hS
  obtain ⟨n1, n2, n3, n4, n5⟩ := hS
  refine ⟨k _ _ (Ne.symm n2) hTI, h1.at fun o e => k _ o (Ne.symm n4) e, h2.at fun o e => k _ o (Ne.symm n5) e, ⟨oo, k _ _ (Ne.symm n3) hoo⟩, ?_⟩
  rcases hz with ⟨hz, x, y, hTO⟩ | ⟨T, f, oT, hz, hT, r1, r2, r3, r4⟩
  · exact .inl ⟨k _ _ (Ne.symm n1) hz, x, y, k _ _ (Ne.symm n3) hTO⟩
  · exact .inr ⟨T, f, oT, k _ _ (Ne.symm n1) hz, k _ _ r4 hT, r1, r2, r3, r4⟩
/-! ### a walk over a dict that has just been made -/
end LT
set_option Elab.async false
set_option linter.all false
set_option maxRecDepth 100000
set_option maxHeartbeats 1600000
/-! Own layer: stretches, runs, supplies on the heap; promises. -/
namespace LT
open PySem PySem.Spec PyProof.Rows L2 NdefX
/-- a comprehension over zip of two lists -/
theorem lc_zip {K : PySem.W.Frag} {a b : Addr} {xs ys : List V} {g : TG} {tt : TT} {te : TE} {vs : List Nat} {σ : L2.St} {H1 : Hp} {D : Addr} {Qd : Hp → Prop} (hlen : xs.length = ys.length) (Pv : Nat → Hp → Prop) (h0 : Pv 0 (L2.upd H1 D (.lst []))) (hl : ∀ i H, i ≤ xs.length → Pv i H → SqL K H a xs ∧ SqL K H b ys)
    (hs : ∀ i x y H T, xs[i]? = some x → ys[i]? = some y → Pv i H → H T = none → g (.ref T) (wipe σ vs) (L2.upd H T (.tup [x, y])) fun σ2 H2 => wipe σ2 vs = wipe σ vs ∧ tt σ2 H2 fun b H3 =>
      if b = true then te σ2 H3 fun y H4 => ∃ acc, H4 D = some (.lst acc) ∧ acc.length < sizeLine ∧ Pv (i + 1) (L2.upd H4 D (.lst (acc ++ [y]))) else Pv (i + 1) H3) (hd : ∀ H, Pv xs.length H → Qd H) :
    ∃ W : Nat → Nat → Hp → Prop, (∃ m, W 0 m (L2.upd H1 D (.lst []))) ∧ ∀ i m H, W i m H →
      ((Itz K a b).stop i H ∧ Qd H) ∨ ((Itz K a b).go i H ∧ ∃ Nx : Hp → Prop, (∀ H', Nx H' → ∃ m', m' < m ∧ W (i + 1) m' H') ∧ ∀ x H', (Itz K a b).yld i H x H' → g x (wipe σ vs) H' fun σ2 H2 => wipe σ2 vs = wipe σ vs ∧ tt σ2 H2 fun b H3 =>
        if b = true then te σ2 H3 fun y H4 => ∃ acc, H4 D = some (.lst acc) ∧ acc.length < sizeLine ∧ Nx (L2.upd H4 D (.lst (acc ++ [y]))) else Nx H3) := by
  refine ⟨fun i m H => m = xs.length - i ∧ i ≤ xs.length ∧ Pv i H, ⟨xs.length, by simp, Nat.zero_le _, h0⟩, ?_⟩
  rintro i m H ⟨rfl, hi, p⟩
  obtain ⟨qx, qy⟩ := hl i H hi p
  by_cases hlt : i < xs.length
  · have hx : xs[i]? = some xs[i] := List.getElem?_eq_getElem hlt
    have hlt2 : i < ys.length := by omega
    have hy : ys[i]? = some ys[i] := List.getElem?_eq_getElem hlt2
    refine .inr ⟨⟨xs, ys, _, _, qx, qy, hx, hy⟩, Pv (i + 1), fun H' p' => ⟨xs.length - (i + 1), by omega, rfl, hlt, p'⟩, fun v H' y => ?_⟩
    obtain ⟨T, x', y', rfl, hT, rfl, f1, f2⟩ := y
    exact hs i x' y' H T (f1 xs qx) (f2 ys qy) p hT
  · have e : i = xs.length := by omega
    subst e
    exact .inl ⟨⟨xs, ys, qx, qy, Or.inl (Nat.le_refl _)⟩, hd H p⟩
/-! ### stretches -/
def StrAt (CS : Addr) (H : Hp) (x : Addr) (f : Int) (la : Option Int) : Prop := ∃ dx, H x = some (.ins CS dx [("first_day", .int f), ("last_day", knV la)])
theorem StrAt.mono {CS : Addr} {H H' : Hp} {x : Addr} {f : Int} {la : Option Int} (h : StrAt CS H x f la) (s : Same H H') : StrAt CS H' x f la := h.imp fun _ e => s _ _ e
theorem StrAt.upd {CS : Addr} {H : Hp} {x F : Addr} {f : Int} {la : Option Int} {xs : List V} {o : HO} (h : StrAt CS H x f la) (e : H F = some (.lst xs)) : StrAt CS (L2.upd H F o) x f la := by
  obtain ⟨dx, h⟩ := h
  exact ⟨dx, by rw [upd_ne (ne_of h e (by intro z; cases z))]; exact h⟩
def spSInit (CS : Addr) : Sp := fun vs H Q _ => ∃ (x dx : Addr) (f : Int) (la : Option Int), vs = [.ref x, .int f, knV la] ∧ H x = some (.ins CS dx []) ∧ 0 ≤ f ∧ (∀ e, la = some e → f ≤ e) ∧
  ∀ H', StrAt CS H' x f la → SameB x H H' → Q .non H'
def spSFirst (CS : Addr) : Sp := fun vs H Q _ => ∃ (x : Addr) (f : Int) (la : Option Int), vs = [.ref x] ∧ StrAt CS H x f la ∧ Q (.int f) H
def spSLast (CS : Addr) : Sp := fun vs H Q _ => ∃ (x : Addr) (f : Int) (la : Option Int), vs = [.ref x] ∧ StrAt CS H x f la ∧ Q (knV la) H
/-! ### runs -/
def RunT (CS : Addr) (H : Hp) (t : Addr) (r : Run) : Prop := ∃ x, H t = some (.tup [r.1, .ref x]) ∧ StrAt CS H x r.2.1 r.2.2
theorem RunT.mono {CS : Addr} {H H' : Hp} {t : Addr} {r : Run} (h : RunT CS H t r) (s : Same H H') : RunT CS H' t r := by
  obtain ⟨x, a, b⟩ := h
  exact ⟨x, s _ _ a, b.mono s⟩
theorem RunT.upd {CS : Addr} {H : Hp} {t F : Addr} {r : Run} {xs : List V} {o : HO} (h : RunT CS H t r) (e : H F = some (.lst xs)) : RunT CS (L2.upd H F o) t r := by
  obtain ⟨x, a, b⟩ := h
  exact ⟨x, by rw [upd_ne (ne_of a e (by intro z; cases z))]; exact a, b.upd e⟩
def RunsAt (CS : Addr) (H : Hp) (l : Addr) (rs : List Run) : Prop := ∃ ts : List Addr, H l = some (.lst (ts.map V.ref)) ∧ Paired (RunT CS H) ts rs
theorem RunsAt.mono {CS : Addr} {H H' : Hp} {l : Addr} {rs : List Run} (h : RunsAt CS H l rs) (s : Same H H') : RunsAt CS H' l rs := by
  obtain ⟨ts, a, b⟩ := h
  exact ⟨ts, s _ _ a, paired_imp (fun _ _ h => h.mono s) b⟩
theorem pick_at {β : Type} {R : Addr → β → Prop} {ts : List Addr} {rs : List β} {i : Nat} {v : V} (h : Paired R ts rs) (e : (ts.map V.ref)[i]? = some v) : ∃ t r, v = .ref t ∧ rs[i]? = some r ∧ R t r := by
  rw [List.getElem?_map, Option.map_eq_some_iff] at e
  obtain ⟨t, e, rfl⟩ := e
  obtain ⟨p, h1, h2⟩ := paired_get h e
  exact ⟨t, p, rfl, h1, h2⟩
theorem rows_last {H : Hp} {bs : List Addr} {B : List (Int × V)} (h : RowsP H bs B) (ne : B ≠ []) : ∃ t p, atI (bs.map V.ref) (-1) = some (.ref t) ∧ H t = some (.tup [.int p.1, p.2]) ∧ p ∈ B ∧ lastW B = p.2 := by
  have hl : 0 < B.length := List.length_pos_iff.mpr ne
  have e := List.dropLast_concat_getLast ne
  have e1 : B[B.length - 1]? = some (B.getLast ne) := by rw [← List.getLast?_eq_getElem?, List.getLast?_eq_some_getLast ne]
  have len := Paired.length h
  have bne : bs ≠ [] := List.length_pos_iff.mp (by omega)
  have eb := List.dropLast_concat_getLast bne
  have e2 : bs[B.length - 1]? = some (bs.getLast bne) := by rw [← len, ← List.getLast?_eq_getElem?, List.getLast?_eq_some_getLast bne]
  obtain ⟨p, h1, h2⟩ := paired_get h e2
  rw [e1] at h1
  cases h1
  refine ⟨bs.getLast bne, B.getLast ne, ?_, h2, List.getLast_mem ne, ?_⟩
  · have h3 := atI_last (bs.dropLast.map V.ref) (.ref (bs.getLast bne))
    have h4 : bs.dropLast.map V.ref ++ [V.ref (bs.getLast bne)] = bs.map V.ref := by
      rw [← congrArg (List.map V.ref) eb, List.map_append]
      rfl
    rw [h4] at h3
    exact h3
  · unfold lastW
    rw [List.getLast?_eq_some_getLast ne]
    rfl
def ScalL (s : V) (ch : List (Int × V)) : Prop := ∀ a ∈ s :: ch.map (·.2), ∀ b ∈ s :: ch.map (·.2), scal a b = true
theorem scal_str {s : V} {ch : List (Int × V)} (hs : ∃ m : Str, s = .str m) (h : ∀ p ∈ ch, ∃ m : Str, p.2 = .str m) : ScalL s ch := by
  have key : ∀ a ∈ s :: ch.map (·.2), ∃ m : Str, a = .str m := fun a ha => by
    rcases List.mem_cons.mp ha with rfl | ha
    · exact hs
    · obtain ⟨p, hp, rfl⟩ := List.mem_map.mp ha
      exact h p hp
  intro a ha b hb
  obtain ⟨m, rfl⟩ := key a ha
  obtain ⟨n, rfl⟩ := key b hb
  rfl
theorem scal_bl {s : V} {ch : List (Int × V)} (hs : ∃ m : Bool, s = .bl m) (h : ∀ p ∈ ch, ∃ m : Bool, p.2 = .bl m) : ScalL s ch := by
  have key : ∀ a ∈ s :: ch.map (·.2), ∃ m : Bool, a = .bl m := fun a ha => by
    rcases List.mem_cons.mp ha with rfl | ha
    · exact hs
    · obtain ⟨p, hp, rfl⟩ := List.mem_map.mp ha
      exact h p hp
  intro a ha b hb
  obtain ⟨m, rfl⟩ := key a ha
  obtain ⟨n, rfl⟩ := key b hb
  rfl
def spTurns (CB CH CS : Addr) : Sp := fun vs H Q _ => ∃ (b : Addr) (rk : List (Str × Int)) (es : List Evt) (fp : List Addr) (z : Str) (kn : Option Int), vs = [.ref b, .str z, knV kn] ∧ Bk CB CH H b rk es fp ∧ z ∈ rk.map (·.1) ∧ es.length ≤ 60 ∧ knOK kn ∧
  ∀ (l : Addr) (L : List (Int × V)) (H' : Hp), H l = none → HoldF (heldE es true z kn) L → L.length ≤ es.length → RunsAt CS H' l (runF (begF (.str (Str.ofString "")) L)) → Same H H' → Q (.ref l) H'
/-! ### heads -/
/-! ### supplies -/
def PartsAt (CS : Addr) (H : Hp) (l : Addr) (ps : List Part) : Prop := ∃ xs : List Addr, H l = some (.lst (xs.map V.ref)) ∧ Paired (fun x (p : Part) => StrAt CS H x p.1 p.2) xs ps
theorem PartsAt.mono {CS : Addr} {H H' : Hp} {l : Addr} {ps : List Part} (h : PartsAt CS H l ps) (s : Same H H') : PartsAt CS H' l ps := by
  obtain ⟨ts, a, b⟩ := h
  exact ⟨ts, s _ _ a, paired_imp (fun _ _ h => h.mono s) b⟩
def SupT (CS : Addr) (H : Hp) (t : Addr) (b : Sup) : Prop := ∃ x, H t = some (.tup [.ref x, .int b.stock, .int b.eaten]) ∧ StrAt CS H x b.fi b.la
theorem SupT.mono {CS : Addr} {H H' : Hp} {t : Addr} {b : Sup} (h : SupT CS H t b) (s : Same H H') : SupT CS H' t b := by
  obtain ⟨x, a, b⟩ := h
  exact ⟨x, s _ _ a, b.mono s⟩
theorem SupT.upd {CS : Addr} {H : Hp} {t F : Addr} {b : Sup} {xs : List V} {o : HO} (h : SupT CS H t b) (e : H F = some (.lst xs)) : SupT CS (L2.upd H F o) t b := by
  obtain ⟨x, a, b⟩ := h
  exact ⟨x, by rw [upd_ne (ne_of a e (by intro z; cases z))]; exact a, b.upd e⟩
def SupsAt (CS : Addr) (H : Hp) (l : Addr) (ss : List Sup) : Prop := ∃ ts : List Addr, H l = some (.lst (ts.map V.ref)) ∧ Paired (SupT CS H) ts ss
theorem SupsAt.mono {CS : Addr} {H H' : Hp} {l : Addr} {ss : List Sup} (h : SupsAt CS H l ss) (s : Same H H') : SupsAt CS H' l ss := by
  obtain ⟨ts, a, b⟩ := h
  exact ⟨ts, s _ _ a, paired_imp (fun _ _ h => h.mono s) b⟩
def minE : Option Int → Option Int → Option Int
  | none, y => y
  | x, none => x
  | some x, some y => some (if y < x then y else x)
def spEarlier : Sp := fun vs H Q _ => ∃ (x y : Option Int), vs = [knV x, knV y] ∧ Q (knV (minE x y)) H
/-- the last days, as a list is made of them -/
def lastsV (B : List (Int × V)) (x : V) : List V := (B.drop 1).map (fun p => V.int (p.1 - 1)) ++ [x]
theorem lasts_len {B : List (Int × V)} {x : V} (h : B ≠ []) : (lastsV B x).length = B.length := by
  have := List.length_pos_iff.mpr h
  unfold lastsV
  rw [List.length_append, List.length_map, List.length_drop, List.length_singleton]
  omega
theorem lasts_get {B : List (Int × V)} {i : Nat} (h : i < B.length) : (lastsV B .non)[i]? = some (knV ((B[i + 1]?).map fun q => q.1 - 1)) := by
  unfold lastsV
  by_cases hi : i + 1 < B.length
  · rw [List.getElem?_append_left (by rw [List.length_map, List.length_drop]; omega), List.getElem?_map, List.getElem?_drop, Nat.add_comm 1 i, List.getElem?_eq_getElem hi]
    rfl
  · rw [List.getElem?_append_right (by rw [List.length_map, List.length_drop]; omega), List.length_map, List.length_drop, List.getElem?_eq_none (l := B) (by omega), show i - (B.length - 1) = 0 by omega]
    rfl
theorem hold_str {rk : List (Str × Int)} {es : List Evt} {z : Str} {kn : Option Int} {L : List (Int × V)} (ok : ∀ e ∈ es, EvOK rk e) (h : HoldF (heldE es true z kn) L) : ∀ p ∈ L, ∃ y : Str, p.2 = .str y ∧ Pl y := fun p hp => by
  obtain ⟨h1, h2⟩ := (h.mem p.1 p.2).mp hp
  unfold heldE at h2
  cases e : heldO es true z kn p.1 with
  | none => rw [e] at h2; exact absurd h2.symm h1
  | some w =>
    rw [e] at h2
    have h2 : w = p.2 := h2
    rcases held_move ok e with rfl | ⟨y, rfl, hy⟩
    · exact absurd h2.symm h1
    · exact ⟨y, h2.symm, hy⟩
theorem hold_d0 {rk : List (Str × Int)} {es : List Evt} {mv : Bool} {z : Str} {kn : Option Int} {L : List (Int × V)} (ok : ∀ e ∈ es, EvOK rk e) (h : HoldF (heldE es mv z kn) L) : ∀ p ∈ L, 0 ≤ p.1 ∧ p.1 < 10 ^ 55 := fun p hp => by
  obtain ⟨e, he, _, _, ed⟩ := hold_day h p.1 (List.mem_map.mpr ⟨p, hp, rfl⟩)
  have := ok e he
  have := this.d0
  have := (ok e he).d1
  omega
end LT
set_option Elab.async false
set_option linter.all false
set_option maxRecDepth 100000
set_option maxHeartbeats 1600000
namespace LT
open PySem PySem.Spec PyProof.Rows L2
end LT
set_option Elab.async false
set_option linter.all false
set_option maxRecDepth 100000
set_option maxHeartbeats 1600000
/-! Own layer: the law's own counting of stores; one book beside a pot. -/
namespace LT
open PySem PySem.Spec PyProof.Rows L2 NdefX
/-! ### the model -/
def mdlK (A B C : Addr) (z : Str) : List (Key × V) := [(.inr "moves", .ref A), (.inr "landed", .ref B), (.inr "marks", .ref C), (.inr "light", .str z)]
def MovesAt (H : Hp) (s : Shop) (ds : List Addr) (zs : List Str) : Prop := Paired (fun d k => H d = some (.dK (toldK (heldD s.es true k s.kn)))) ds zs
theorem MovesAt.mono {H H' : Hp} {s : Shop} {ds : List Addr} {zs : List Str} (h : MovesAt H s ds zs) (sm : Same H H') : MovesAt H' s ds zs := paired_imp (fun _ _ h => sm _ _ h) h
theorem MovesAt.upd {H : Hp} {s : Shop} {ds : List Addr} {zs : List Str} {F : Addr} {xs : List V} {o : HO} (h : MovesAt H s ds zs) (e : H F = some (.lst xs)) : MovesAt (L2.upd H F o) s ds zs := paired_imp (fun t p h => by rw [upd_ne (ne_of h e (by intro z; cases z))]; exact h) h
def MdlAt (H : Hp) (M : Addr) (s : Shop) (ms : List Int) : Prop := ∃ (A B C : Addr) (ds : List Addr), H M = some (.dK (mdlK A B C s.z)) ∧ H A = some (.lst (ds.map V.ref)) ∧ MovesAt H s ds s.zs ∧ H B = some (.dK (toldK (heldD s.es false s.z s.kn))) ∧ H C = some (.lst (ms.map V.int))
theorem MdlAt.mono {H H' : Hp} {M : Addr} {s : Shop} {ms : List Int} (h : MdlAt H M s ms) (sm : Same H H') : MdlAt H' M s ms := by
  obtain ⟨A, B, C, ds, h1, h2, h3, h4, h5⟩ := h
  exact ⟨A, B, C, ds, sm _ _ h1, sm _ _ h2, h3.mono sm, sm _ _ h4, sm _ _ h5⟩
/-! ### pieces -/
def PcT (ms : List Int) (H : Hp) (t : Addr) (i : Nat) : Prop := ∃ a, ms[i]? = some a ∧ H t = some (.tup [.int a, knV (ms[i + 1]?)])
def PcsAt (H : Hp) (l : Addr) (ms : List Int) : Prop := ∃ ts : List Addr, H l = some (.lst (ts.map V.ref)) ∧ ts.length = ms.length ∧ ∀ i t, ts[i]? = some t → PcT ms H t i
theorem PcsAt.mono {H H' : Hp} {l : Addr} {ms : List Int} (h : PcsAt H l ms) (s : Same H H') : PcsAt H' l ms := by
  obtain ⟨ts, a, b, c⟩ := h
  exact ⟨ts, s _ _ a, b, fun i t ht => (c i t ht).imp fun _ h => ⟨h.1, s _ _ h.2⟩⟩
theorem Want.uniq {s : Shop} {till l1 l2 : Int} {d1 d2 : Option Int} (a : Want s till (fun _ => True) l1 d1) (b : Want s till (fun _ => True) l2 d2) : l1 = l2 ∧ d1 = d2 := by
  rcases a.is with ⟨a1, a2⟩ | ⟨x, a1, a2, a3, a4, a5, a6⟩
  · rcases b.is with ⟨b1, b2⟩ | ⟨y, b1, b2, b3, b4, b5, b6⟩
    · exact ⟨a1.trans b1.symm, a2.trans b2.symm⟩
    · have := a.low y b3 b4 trivial
      omega
  · rcases b.is with ⟨b1, b2⟩ | ⟨y, b1, b2, b3, b4, b5, b6⟩
    · have := b.low x a3 a4 trivial
      omega
    · have h1 := a.low y b3 b4 trivial
      have h2 := b.low x a3 a4 trivial
      have e : l1 = l2 := by omega
      have : x = y := by
        by_cases h : x < y
        · have := b6 x a3 h
          omega
        · by_cases h' : y < x
          · have := a6 y b3 h'
            omega
          · omega
      exact ⟨e, by rw [a1, b1, this]⟩
end LT
set_option Elab.async false
set_option linter.all false
set_option maxRecDepth 100000
namespace LT
open PySem PySem.Spec PyProof.Rows L2
/-! ### rows of days as data, and how they are shown -/
end LT
set_option Elab.async false
set_option linter.all false
set_option maxRecDepth 100000
set_option maxHeartbeats 1600000
namespace LT
open PySem PySem.Spec PyProof.Rows L2 LamX
/-! ### defs whose code object is known -/
structure FunC (K : PySem.W.Frag) (x qual : Str) (st : Stmt) (f c : Addr) (fd : FuncData) : Prop where
  ex : ∃ (oc : Value) (od : Option Addr) (kV doc pm : Value) (an : Option Addr) (ct : Value) (osl : Array (Option Value)),
    fd = PySem.W.fnOf x qual (defArgs st) (defBody st) (defScope st) .none kV doc pm an (.ref c) ct ∧ K.lookup f = some ⟨oc, od, .func fd, osl⟩ ∧ PySem.W.codeIn K (.ref c) qual = true
  kp : PySem.W.keepIn K (.ref f) = true
theorem FunC.fn {K : PySem.W.Frag} {x qual : Str} {st : Stmt} {f c : Addr} {fd : FuncData} (F : FunC K x qual st f c fd) : Fun K x qual st f fd := by
  obtain ⟨oc, od, kV, doc, pm, an, ct, osl, e, l, h⟩ := F.ex
  exact ⟨⟨oc, od, kV, doc, pm, an, .ref c, ct, osl, e, l, h⟩, F.kp⟩
section
variable {P : Program} {w : World} {K : PySem.W.Frag} {mg : Str → Option Value} {base : Heap}
theorem FunC.ok {x qual : Str} {st : Stmt} {f c : Addr} {fd : FuncData} {N ps : List Str} {k : Nat} {sp : Sp} (F : FunC K x qual st f c fd) (S : FnScope N ps (defScope st)) (len : ∀ vs H Q E, sp vs H Q E → vs.length = ps.length)
    (body : ∀ (A : Around) (outer : List Env) (s : Shared) (H : Hp) (vs : List V) (Q : VK) (E : XK), Room k (A.deeper (envOfC qual (defScope st) s.heap.objs.size f (.ref c))) → sp vs H Q E →
      ∃ t, PSs (cxOf CX0 P w K mg base N qual (defScope st) f (.ref c) A outer s H E).nox (defBody st) t ∧ t { nx := fun _ H' => Q .non H', rt := Q } (start N vs) H) : FnOk P w K mg base CX0 (k + 1) f fd ps sp := by
  obtain ⟨oc, od, kV, doc, pm, an, ct, osl, rfl, lk, hcd⟩ := F.ex
  refine fn_of lk hcd S len fun A outer s H vs Q E hr hsp => ?_
  obtain ⟨t, h, q⟩ := body A outer s H vs Q E hr hsp
  exact ⟨t, h.nox, q⟩
end
/-! ### the end of a law whose defs make lambdas and show things -/
theorem end_tab {P : Program} {w : World} {K : PySem.W.Frag} {mg mb : Str → Option Value} {CX : CXT} {k : Nat} {fa a : Addr} {cs : List (Addr × Addr)}
    {fd : FuncData} {x : Str} {sp : Sp} {s₁ : Shared} {vs : List Value} {ns : List Int}
    (KX : K.In s₁.heap) (hns : s₁.heap.Ns mainGlobals mg) (hb : s₁.heap.Ns builtinsNs mb)
    (hbb : ∀ x : Str, x ≠ "__name__" → mb x = bootBuiltins x) (hlim : s₁.heap.NoLimit) (hg : s₁.gens = #[])
    (tab : ∀ p ∈ cs, s₁.heap.get? p.2 = some { cls := .none, data := .fields #[] }) (out : ∀ p ∈ cs, K.lookup p.2 = none) (code : ∀ p ∈ cs, PySem.W.CodeHd s₁.heap p.1 p.2)
    (bmain : ∃ (bm : Addr) (ob : Obj), mg "__builtins__" = some (.ref bm) ∧ bm ≠ builtinsNs ∧ s₁.heap.get? bm = some ob ∧ ob.cls = .type "module" ∧ ob.dict = some builtinsNs ∧ ob.data = .plain)
    (ha : s₁.heap.get? a = some { cls := .type "list", data := .seq vs.toArray }) (hi : IntsAre vs ns)
    (hl : ns.length ≤ sizeLine) (hr : Room k callerA)
    (F : ∀ base : Heap, K.In base → base.Ns mainGlobals mg → (∀ p ∈ cs, TabB base mg p.1 p.2) → FnG P w K mg base CX k fa fd [x] sp)
    (hbind : ∀ (s : Shared) (u : Value), BindsTo s fd ⟨[u], []⟩ [(x, u)])
    (hsp : ∀ H : Hp, (∀ p ∈ cs, H p.2 = some (.tbl #[])) → SqL K H a (ns.map V.int) → sp [.ref a] H (fun v _ => v = .bl true) fun _ _ _ => False)
    (hCX : ∀ H e s', CX [] H s₁ (fun _ _ _ => False) e s' → False) :
    codeAny (model P w) callerA (.call (.ref fa) ⟨[.ref a], []⟩)
      (fun r s' => r = .ok (.ret (.bool true)) ∧ OldK s₁.heap s'.heap ∧ s'.os = s₁.os ∧ AllBare s'.gens) s₁ := by
  have lenV := hi.length
  let ts : List Addr := cs.map (·.2)
  have tabT : ∀ b ∈ ts, s₁.heap.get? b = some { cls := .none, data := .fields #[] } := fun b hb => by
    obtain ⟨p, hp, rfl⟩ := List.mem_map.mp hb
    exact tab p hp
  have inT : ∀ p ∈ cs, p.2 ∈ ts := fun p hp => List.mem_map.mpr ⟨p, hp, rfl⟩
  have outA : a ∉ ts := fun z => by
    have y := tabT a z
    rw [ha] at y
    cases y
  have start : ∀ H : Hp, (∀ b, b ∈ ts → H b = some (.tbl #[])) → (∀ b, b ∉ ts → b ≠ a → H b = none) → (H a = none ∨ ∃ ob xs, H a = some (.frz ob (.lst xs)) ∧ K.lookup a = none) →
      SqL K H a (ns.map V.int) → HOk P w H s₁.heap → codeAny (model P w) callerA (.call (.ref fa) ⟨[.ref a], []⟩)
        (fun r s' => r = .ok (.ret (.bool true)) ∧ OldK s₁.heap s'.heap ∧ s'.os = s₁.os ∧ AllBare s'.gens) s₁ := by
    intro H isT isN isA hS hok
    have free : ∀ {b : Addr} {o : Obj}, s₁.heap.get? b = some o → (∀ ys n, o.data ≠ .seq ys n) → o.data ≠ .fields #[] → H b = none := fun {b o} e n1 n2 => by
      refine isN b (fun z => ?_) fun z => ?_
      · rw [tabT b z] at e
        cases e
        exact n2 rfl
      · rw [z, ha] at e
        cases e
        exact n1 _ _ rfl
    have nsK : ∀ {b : Addr} {m : Str → Option Value}, s₁.heap.Ns b m → (hidT s₁.heap H).Ns b m := by
      rintro b m ⟨o, es, ep, e, d, r⟩
      exact ⟨o, es, ep, hidT_get e (free e (by rw [d]; nofun) (by rw [d]; nofun)), d, r⟩
    have inK : K.In (hidT s₁.heap H) := fun b o e => hidT_get (KX b o e) (by
      by_cases q : b = a
      · rcases isA with z | ⟨_, _, _, z⟩
        · rw [q]
          exact z
        · rw [q, z] at e
          cases e
      · refine isN b (fun z => ?_) q
        obtain ⟨p, hp, rfl⟩ := List.mem_map.mp z
        rw [out p hp] at e
        cases e)
    have hM : Mod K mg (hidT s₁.heap H) := ⟨inK, nsK hns, ⟨mb, nsK hb, hbb⟩, hlim.imp fun _ z => ⟨nsK z.1, z.2⟩⟩
    have TB : ∀ p ∈ cs, TabB (hidT s₁.heap H) mg p.1 p.2 := fun p hp => by
      have at_ := tab p hp
      refine ⟨?_, ?_, fun z => ?_⟩
      · obtain ⟨o, us, fl, tf, fg, tg, inF, tx, tt, c1, c2, c3, c4, c5⟩ := code p hp
        exact ⟨o, us, fl, tf, fg, tg, inF, tx, tt, hidT_get c1 (free c1 (by rw [c3]; nofun) (by
          rw [c3]
          intro z
          cases z
          cases c4)), c2, c3, c4, c5⟩
      · obtain ⟨bm, ob, b1, b2, b3, b4, b5, b6⟩ := bmain
        refine ⟨bm, ob, b1, b2, fun z => ?_, fun z => ?_, hidT_get b3 (free b3 (by rw [b6]; nofun) (by rw [b6]; nofun)), b4, b5, b6⟩
        · obtain ⟨o, es, ep, e, d, _⟩ := hns
          rw [z, e] at b3
          cases b3
          rw [d] at b6
          cases b6
        · rw [z, at_] at b3
          cases b3
          cases b6
      · obtain ⟨o, es, ep, e, d, _⟩ := hns
        rw [z, at_] at e
        cases e
        cases d
    have e0 : Env0 P w K mg (hidT s₁.heap H) callerA [] s₁ H :=
      ⟨rfl, hM, fun b o e => of_hidT e, Nat.le_of_eq (hidT_size _ _), trivial,
        fun b z => absurd (show b ∈ ([] : List Addr) from z) List.not_mem_nil, hok, .of_eq hg⟩
    refine codeAny_mono ((F _ inK (nsK hns) TB).go (us := [.ref a]) (vs := [.ref a]) rfl hr e0 (hbind s₁ (.ref a)) (.cons rfl .nil) (hsp H (fun p hp => isT _ (inT p hp)) hS)) fun r s' h => ?_
    match r, h with
    | .error e, h => exact (hCX H e s' h).elim
    | .ok .next, h => exact h.elim
    | .ok .brk, h => exact h.elim
    | .ok .cont, h => exact h.elim
    | .ok (.ret u), h =>
      obtain ⟨v, H', os, bare, un, hok', r', rfl⟩ := h
      obtain rfl : u = Value.bool true := r'
      have old : ∀ b o, b ∉ ts → s₁.heap.get? b = some o → s'.heap.get? b = some o := fun b o nt e => by
        have plain : H b = none → s'.heap.get? b = some o := fun z => un.keep b o e z (fun y => absurd (show b ∈ ([] : List Addr) from y) List.not_mem_nil) List.not_mem_nil
        by_cases q : b = a
        · rcases isA with z | ⟨ob, xs, z, _⟩
          · exact plain (by rw [q]; exact z)
          · rw [← q] at z
            have z1 := (hok b _ z).1
            rw [e] at z1
            cases z1
            exact (hok' b _ (un.frzs b _ _ z)).1
        · exact plain (isN b nt q)
      have grew : ∀ p ∈ cs, ∃ more : Array Value, s'.heap.get? p.2 = some { cls := .none, data := .fields more } := fun p hp => by
        obtain ⟨more, z⟩ := un.tbls p.2 #[] (isT _ (inT p hp))
        exact ⟨_, hok' p.2 _ z⟩
      refine ⟨rfl, ⟨fun b o e => ?_, fun b o e => ?_⟩, os, bare⟩
      · by_cases q : b ∈ ts
        · obtain ⟨p, hp, rfl⟩ := List.mem_map.mp q
          obtain ⟨more, hm⟩ := grew p hp
          rw [tab p hp] at e
          cases e
          exact .inr (.inl ⟨((code p hp).tab (tab p hp)).isCodeTable, rfl, #[], more, rfl, by rw [Array.empty_append]; exact hm⟩)
        · exact .inl (old b o q e)
      · by_cases q : b ∈ ts
        · obtain ⟨p, hp, rfl⟩ := List.mem_map.mp q
          obtain ⟨more, hm⟩ := grew p hp
          exact ⟨_, hm⟩
        · exact ⟨o, old b o q e⟩
  let T0 : Hp := fun b => if b ∈ ts then some (.tbl #[]) else none
  have T0t : ∀ b, b ∈ ts → T0 b = some (.tbl #[]) := fun b z => if_pos z
  have T0n : ∀ b, b ∉ ts → T0 b = none := fun b z => if_neg z
  have T0ok : HOk P w T0 s₁.heap := fun b u z => by
    by_cases q : b ∈ ts
    · rw [T0t b q] at z
      cases z
      exact tabT b q
    · rw [T0n b q] at z
      cases z
  cases hk : K.lookup a with
  | some o =>
    have e := KX a o hk
    rw [ha] at e
    cases e
    refine start T0 T0t (fun b z _ => T0n b z) (.inl (T0n a outA)) (.inr ⟨_, vs.toArray, _, hk, rfl, rfl, rfl, ?_, by simpa using vals_ints hi⟩) T0ok
    rw [List.size_toArray, lenV]
    exact hl
  | none =>
    refine start (upd T0 a (.frz { cls := .type "list", data := .seq vs.toArray } (.lst (ns.map V.int)))) (fun b z => ?_) (fun b z q => ?_) (.inr ⟨_, _, upd_same, hk⟩) (.inl (.inr ⟨_, upd_same⟩)) (fun b u z => ?_)
    · rw [upd_ne (fun q : b = a => outA (by rw [← q]; exact z))]
      exact T0t b z
    · rw [upd_ne q]
      exact T0n b z
    · by_cases q : b = a
      · subst q
        rw [upd_same] at z
        cases z
        exact ⟨ha, by rw [List.length_map]; exact hl, vs, _, vals_ints hi, ha⟩
      · rw [upd_ne q] at z
        by_cases q2 : b ∈ ts
        · rw [T0t b q2] at z
          cases z
          exact tabT b q2
        · rw [T0n b q2] at z
          cases z
/-- what is known of the law's def where the top has ended -/
def LawG (l : PySem.W.OpenLaw) (w : World) (K : PySem.W.Frag) (CX : CXT) (k n : Nat) (x : Str) (mg : Str → Option Value) (fa : Addr) (h : Heap) : Prop :=
  ∃ (fd : FuncData) (cs : List (Addr × Addr)) (sp : Sp), (∀ p ∈ cs, h.get? p.2 = some { cls := .none, data := .fields #[] }) ∧ (∀ p ∈ cs, K.lookup p.2 = none) ∧
    (∀ p ∈ cs, PySem.W.CodeHd h p.1 p.2) ∧ (∀ (s : Shared) (u : Value), BindsTo s fd ⟨[u], []⟩ [(x, u)]) ∧
    (∀ (H : Hp) (a : Addr) (ns : List Int), ns.length ≤ n → (∀ p ∈ cs, H p.2 = some (.tbl #[])) → SqL K H a (ns.map V.int) → sp [.ref a] H (fun v _ => v = .bl true) fun _ _ _ => False) ∧
    ∀ base : Heap, K.In base → base.Ns mainGlobals mg → (∀ p ∈ cs, TabB base mg p.1 p.2) → FnG l.prog w K mg base CX k fa fd [x] sp
theorem end_ofG {l : PySem.W.OpenLaw} {n k : Nat} {q : Program} {loose : List Str} {XP : (Str → Option Value) → Heap → Prop}
    {YP : World → Heap → Prop} {d : DefRec} {K : Params → PySem.W.Frag} {CX : World → CXT} {x : Str}
    (hn : l.most = some n) (hn2 : n ≤ sizeLine) (hdf : d.params.defaults = []) (hr : Room k callerA)
    (hY : ∀ (w : World) (h : Heap), YP w h → (K w.params).In h)
    (F : ∀ (w : World) (mg : Str → Option Value) (fa : Addr) (h : Heap), YP w h → (K w.params).In h → h.Ns mainGlobals mg →
      mg d.name = some (.ref fa) → LawG l w (K w.params) (CX w) k n x mg fa h)
    (hCX : ∀ (w : World) (H : Hp) (s : Shared) (e : Value) (s' : Shared), CX w [] H s (fun _ _ _ => False) e s' → False) :
    PySem.W.WalkO q loose XP YP l.row.toRowW d [] (fun f vs => PySem.call f vs) :=
  Att.attach_callB hn hdf fun w _ s₁ mg mb fa o pm cd doc a vs ns G Y ho hd hcd hmg hobj hints hlen hbits hg => by
    obtain ⟨fd, cs, sp, tab, out, code, hb, hsp, hF⟩ := F w mg fa _ Y (hY w _ Y) G.T.g hmg
    exact end_tab (hY w _ Y) G.T.g G.T.b G.T.builtins G.T.nolimit hg tab out code G.T.bmain hobj hints (Nat.le_trans hlen hn2) hr hF hb
      (fun H hH hS => hsp H a ns hlen hH hS) fun H e s' => hCX w H s₁ e s'
end LT
set_option Elab.async false
set_option linter.all false
namespace LD
/-! ### days of both, days of none, by rows that rise -/
def Gap (r s : Row) : Prop := ∃ j, r.2 = some j ∧ j + 1 < s.1
structure Asc (L : List Row) : Prop where
  ok : ∀ r ∈ L, Ok r
  pw : L.Pairwise Gap
theorem can_iff : ∀ {L : List Row}, Can L ↔ (∀ r ∈ L, Ok r) ∧ L.Pairwise (fun r s => Gap s r)
  | [] => ⟨fun _ => ⟨nofun, .nil⟩, fun _ => trivial⟩
  | r :: t => by
    constructor
    · intro h
      exact ⟨h.ok, List.pairwise_cons.mpr ⟨fun s hs => h.under s hs, (can_iff.mp h.tail).2⟩⟩
    · rintro ⟨h1, h2⟩
      obtain ⟨g1, g2⟩ := List.pairwise_cons.mp h2
      have ht : Can t := can_iff.mpr ⟨fun s hs => h1 s (.tail _ hs), g2⟩
      cases t with
      | nil => exact h1 r (.head _)
      | cons s t => exact ⟨h1 r (.head _), g1 s (.head _), ht⟩
theorem can_of {L : List Row} (h : Asc L) : Can L.reverse := can_iff.mpr ⟨fun r hr => h.ok r (List.mem_reverse.mp hr), List.pairwise_reverse.mpr h.pw⟩
theorem ins_rev {L : List Row} {d : Int} : Ins L.reverse d ↔ Ins L d := ⟨fun ⟨r, hr, z⟩ => ⟨r, List.mem_reverse.mp hr, z⟩, fun ⟨r, hr, z⟩ => ⟨r, List.mem_reverse.mpr hr, z⟩⟩
theorem asc_uniq {L L' : List Row} (h : Asc L) (h' : Asc L') (e : ∀ d, Ins L d ↔ Ins L' d) : L = L' := by
  have := uniq (can_of h) (can_of h') fun d => by rw [ins_rev, ins_rev, e]
  rw [← List.reverse_reverse L, this, List.reverse_reverse]
theorem Asc.tail {r : Row} {t : List Row} (h : Asc (r :: t)) : Asc t := ⟨fun s hs => h.ok s (.tail _ hs), (List.pairwise_cons.mp h.pw).2⟩
/-! ### a walk over marks, whatever is wanted -/
end LD
set_option Elab.async false
set_option linter.all false
set_option maxRecDepth 100000
set_option maxHeartbeats 1600000
namespace LT
open PySem PySem.Spec PyProof.Rows L2
/-! ### two lists of own things, equal one by one: != is False -/
/-! ### repr of a list of own things -/
end LT
set_option Elab.async false
set_option linter.all false
set_option maxRecDepth 100000
set_option maxHeartbeats 1600000
set_option pp.maxSteps 700
/-! Own layer: repr and == of lists and tuples, one within the other, that hold own things. -/
namespace LT
open PySem PySem.Spec PyProof.Rows L2
/-! ### repr -/
def RepI (X : Cx) (H : Hp) (n : Nat) (as : List Addr) (v : V) (t : Str) : Prop :=
  ∀ (σ : L2.St) (u : Value), RelV v u → ∀ (b : Nat), b + t.length ≤ sizeLine → ∀ (A : Around) (g : List Code) (pins : List (Addr × Obj)) (s : Shared), A.guards = some g → (∀ x ∈ as, Clear g x) → L2.Sub X n A → Inv X pins σ H s →
    wpAny (model X.prog X.w) A (pyReprUnder b u) (fun t' s2 => t' = t ∧ Inv X pins σ H s2) X.xe s
section
variable {X : Cx} {C f : Addr} {fd : FuncData} {ps : List Str} {sp : List Code → Sp} {k n : Nat} {H : Hp} {as : List Addr} {t : Str}
theorem sub_le {m : Nat} {A : Around} (sb : L2.Sub X n A) (h : m ≤ n) : L2.Sub X m A := ⟨sb.room.mono h, sb.fr⟩
theorem RepI.own {a dx : Addr} {fs : List (Str × V)} (hs : PySem.W.findIn X.K (.ref C) "__repr__" = some (some (.ref f))) (hf : PySem.W.isFn X.K (.ref f) = true) (F : FnGc X.prog X.w X.K X.mg X.base CX0 k f fd ps sp) (hb : L2.Binds X.K fd ps [])
    (ha : H a = some (.ins C dx fs)) (hsp : ∀ g, sp g [.ref a] H (fun z H' => ∃ u, z = .str u ∧ (z = .str t ∧ H' = H)) E0) (hk : k ≤ n) : RepI X H n as (.ref a) t := by
  intro σ u r b hbz A g pins s hg hc sb I
  cases r
  obtain ⟨mA, JI, _⟩ := ins_get I.hok ha
  obtain ⟨od, JI, _⟩ := JI.look
  refine under_ownC (by omega) sb.room.units0 I.kIn JI hs hf (wpAny_mono (run_strGc (Q := fun z H' => z = .str t ∧ H' = H) F hg (sub_le sb hk) hb I (hsp g)) (fun z s2 hz => ?_) fun e s2 he => he)
  cases z <;> first | exact hz.elim | skip
  obtain ⟨zv, H', I2, rz, rfl, rfl⟩ := hz
  obtain ⟨tk2, ez⟩ := rz
  cases ez
  exact ⟨t, _, rfl, rfl, I2⟩
variable {pins : List (Addr × Obj)} {σ : L2.St}
theorem show_loopI {A : Around} {g : List Code} (hG : A.guards = some g) (hcl : ∀ x ∈ as, Clear g x) (sb : L2.Sub X (n + 1) A) {R : Result → Shared → Prop}
    (hE : ∀ e s', X.xe e s' → R (.error e) s') {l P : Addr} {xs : List V} {ts : List Str} {b : Nat} (hna : l ∉ as) (hl : H l = some (.lst xs)) (hlen : ts.length = xs.length)
    (each : ∀ (i : Nat) (v : V) (t : Str), xs[i]? = some v → ts[i]? = some t → RepI X H n as v t)
    (hsz : b + (listText ts).length ≤ sizeLine) (fp : FpOk X pins H P) (fin : ∀ s' u, Inv X pins σ H s' → R (.ok (.ret (.str (listText ts) u))) s') :
    ∀ (k i : Nat) (s : Shared) (acc : Array Value) (c : Nat) (done : List (Str × Tok)), xs.length - i = k → i ≤ xs.length → Inv X pins σ H s →
      s.heap.get? P = some (seqObj "list" acc c) → acc.toList = strValues done → done.map (·.1) = ts.take i →
      codeAny (model X.prog X.w) A (.builtin "list.__repr__.loop" ⟨[.ref l, rawInt i, .ref P, rawInt ((b + piled (ts.take i) : Nat) : Int)], []⟩) R s := by
  have hX : (listText ts).length = (textFrom 0 "[" ts).length + 1 := by
    show (textFrom 0 "[" ts ++ "]").length = _
    rw [strLen_append]
    rfl
  have hL := textFrom_len ts 0 "["
  have hp3 := piled_le_listText ts
  intro k
  induction k with
  | zero =>
    intro i s acc c done hk hi I hP hacc hdone
    obtain ⟨its, rv, pl, hz⟩ := I.list (SqL.of hl)
    obtain ⟨o, m, e1, e2, _, e4⟩ := pl
    have il := rv.length
    refine codeAny_builtin PySem.F.entry_list_repr_loop ?_
    show wpAny _ _ (Builtin.«list.__repr__.loop» ⟨[.ref l, .int i 0, .ref P, .int ((b + piled (ts.take i) : Nat) : Int) 0], []⟩) _ _ s
    rw [repr_loop_tree]
    refine wpAny_bind (wpAny_listItems e1 e4 ?_)
    have hnone : its.toArray[(i : Int).toNat]? = none := by
      simp
      omega
    simp only [hnone]
    unfold reprEnd
    refine wpAny_bind (wpAny_listItems hP rfl ?_)
    rw [hacc, repr_fold]
    refine wpAny_bind (wpAny_pure ?_)
    have hall : done.map (·.1) = ts := by rw [hdone, List.take_of_length_le (by omega)]
    rw [hall]
    refine wpAny_bind (wpAny_mkStr (wpAny_pure ?_) (by show (listText ts).length ≤ _; omega))
    exact fin _ _ (I.tok _)
  | succ k ih =>
    intro i s acc c done hk hi I hP hacc hdone
    obtain ⟨its, rv, pl, hz⟩ := I.list (SqL.of hl)
    obtain ⟨o, m, e1, e2, _, e4⟩ := pl
    have il := rv.length
    have hlt : i < xs.length := by omega
    obtain ⟨v, ev⟩ : ∃ v, xs[i]? = some v := ⟨_, List.getElem?_eq_getElem hlt⟩
    obtain ⟨u, eu⟩ : ∃ u, its[i]? = some u := ⟨_, List.getElem?_eq_getElem (by omega)⟩
    obtain ⟨t, ht⟩ : ∃ t, ts[i]? = some t := ⟨_, List.getElem?_eq_getElem (by omega)⟩
    have hrep := each i v t ev ht
    have ru := vals_ix rv i ev eu
    have hp1 := piled_take_succ ht
    have hp2 := piled_take_le ts (i + 1)
    have htl := hL.2.1 t (List.mem_of_getElem? ht)
    refine codeAny_builtin PySem.F.entry_list_repr_loop ?_
    show wpAny _ _ (Builtin.«list.__repr__.loop» ⟨[.ref l, .int i 0, .ref P, .int ((b + piled (ts.take i) : Nat) : Int) 0], []⟩) _ _ s
    rw [repr_loop_tree]
    refine wpAny_bind (wpAny_listItems e1 e4 ?_)
    have hsome : its.toArray[(i : Int).toNat]? = some u := by simpa using eu
    simp only [hsome]
    rw [Int.toNat_natCast]
    have J : Inv X ((P, seqObj "list" acc c) :: pins) σ H s := I.pins_of fun p hp => by
      rcases List.mem_cons.mp hp with rfl | hp
      · exact ⟨hP, fp.1, fp.2.1, fp.2.2.1, fun v z => nomatch z⟩
      · exact I.pin p (List.mem_append_right _ hp)
    have sb2 := sub_guardC sb ⟨[.ref l, .int i 0, .ref P, .int ((b + piled (ts.take i) : Nat) : Int) 0], []⟩
    have hg2 : (A.under (.builtin "list.__repr__.loop" ⟨[.ref l, .int i 0, .ref P, .int ((b + piled (ts.take i) : Nat) : Int) 0], []⟩)).guards = some (.builtin "list.__repr__.loop" ⟨[.ref l, .int i 0, .ref P, .int ((b + piled (ts.take i) : Nat) : Int) 0], []⟩ :: g) := guards_under_guard (isGuard_list_loop _) hG
    refine wpAny_bind (wpAny_holding (wpAny_mono (hrep σ u ru (b + piled (ts.take i) + 1) (by omega) _ _ _ s hg2 (fun b' hb' => (hcl b' hb').cons (a := l) fun e => hna (e ▸ hb')) sb2 J) (fun t' s2 hz => ?_) fun e s2 he => hE e s2 he))
    have et := hz.1.symm
    have I2 := hz.2
    subst et
    have hP2 := (I2.pin (P, seqObj "list" acc c) (List.mem_append_right _ (.head _))).1
    have I3 : Inv X pins σ H s2 := I2.pins_of fun p hp => I2.pin p (List.mem_append_right _ (.tail _ hp))
    refine wpAny_bind (wpAny_mkStr ?_ (by omega))
    refine wpAny_bind ?_
    show wpAny _ _ (updateSeq P _) _ _ _
    have hasz : acc.size ≤ sizeLine := by
      have z1 : acc.toList.length = acc.size := by simp
      have z2 : (strValues done).length = done.length := by simp [strValues]
      have z3 : done.length = (ts.take i).length := by rw [← hdone, List.length_map]
      have z4 : (ts.take i).length ≤ i := by rw [List.length_take]; omega
      rw [hacc] at z1
      omega
    refine wpAny_updateSeq hP2 rfl (wpAny_pure ⟨PySem.F.quiet_list_repr_loop _, ?_⟩) hasz
    have e5 : ((i : Int) + 1) = ((i + 1 : Nat) : Int) := by omega
    have e6 : b + piled (ts.take i) + (t.length + 2) = b + piled (ts.take (i + 1)) := by omega
    rw [e5, e6]
    have sbt := Heap.SameBut.update s2.heap P (Obj.mapSeq (·.push (.str t s2.toks)))
    have I4 : Inv X pins σ H { s2 with heap := s2.heap.update P (Obj.mapSeq (·.push (.str t s2.toks))), toks := s2.toks + 1 } :=
      I3.turnedL (ch := [P]) (fun b o hb q => (sbt.2 b fun z => hb (by rw [z]; exact List.mem_singleton.mpr rfl)).trans q) (fun b hb => by rw [List.mem_singleton.mp hb]; exact fp)
    obtain ⟨c2, hc2⟩ : ∃ c2, (s2.heap.update P (Obj.mapSeq (·.push (.str t s2.toks)))).get? P = some (seqObj "list" (acc.push (.str t s2.toks)) c2) := ⟨_, get?_update_seq hP2 (·.push (.str t s2.toks))⟩
    exact ih (i + 1) _ (acc.push (.str t s2.toks)) c2 (done ++ [(t, s2.toks)]) (by omega) hlt I4 hc2 (by simp [hacc, strValues]) (by simp [List.take_add_one, ht, hdone])
/-- the list's own part, from its head on -/
theorem list_headI {A : Around} {g : List Code} (hG : A.guards = some g) {l : Addr} (hcl : ∀ x ∈ l :: as, Clear g x) (sb : L2.Sub X (n + 1) A) {R : Result → Shared → Prop} (hE : ∀ e s', X.xe e s' → R (.error e) s')
    {xs : List V} {ts : List Str} {b : Nat} {s : Shared} {o : Obj} {y : Value} {its : List Value} {m : Nat} (hna : l ∉ as) (hl : H l = some (.lst xs)) (hlen : ts.length = xs.length)
    (each : ∀ (i : Nat) (v : V) (t : Str), xs[i]? = some v → ts[i]? = some t → RepI X H n as v t) (hsz : b + (listText ts).length ≤ sizeLine) (I : Inv X pins σ H s) (e1 : s.heap.get? l = some o) (e4 : o.data = .seq (y :: its).toArray m)
    (fin : ∀ s' u, Inv X pins σ H s' → R (.ok (.ret (.str (listText ts) u))) s') :
    wpAny (model X.prog X.w) A.in1 (Builtin.listReprAt b ⟨[.ref l], []⟩) (fun fin s' => match fin with | .done f => R (.ok f) s' | .again c' => c'.quiet = true ∧ codeAny (model X.prog X.w) A c' R s') (fun e s' => R (.error e) s') s := by
  refine wpAny_list_repr_head (A := A.in1) hG (fun v rest kw hm => listSameRef_of_ne (hcl l List.mem_cons_self _ _ _ _ hm)) e1 e4 ?_
  refine wpAny_bind (m := newList []) (wpAny_newObj_type ?_)
  refine wpAny_pure ⟨PySem.F.quiet_list_repr_loop _, ?_⟩
  have I2 : Inv X pins σ H { s with heap := s.heap.push { cls := .type "list", data := .seq #[] } } := by
    have := I.kept (h' := s.heap.push { cls := .type "list", data := .seq #[] }) (t' := s.toks) fun b o e => Heap.get?_push_of_some _ e
    exact this
  have fp : FpOk X pins H s.heap.objs.size := I.fpOk (Nat.le_refl _) (I.hok.fresh (Nat.le_refl _))
  exact show_loopI hG (fun x hx => hcl x (List.mem_cons_of_mem _ hx)) sb hE hna hl hlen each hsz fp fin _ 0 _ #[] 0 [] rfl (Nat.zero_le _) I2 (Heap.get?_push_size _ rfl) rfl rfl
theorem RepI.lst {l : Addr} {xs : List V} {ts : List Str} (hl : H l = some (.lst xs)) (hlen : ts.length = xs.length) (hna : l ∉ as) (each : ∀ (i : Nat) (v : V) (t : Str), xs[i]? = some v → ts[i]? = some t → RepI X H n as v t) :
    RepI X H (n + 1) (l :: as) (.ref l) (listText ts) := by
  intro σ u r b hb A g pins s hg hc sb I
  cases r
  obtain ⟨its, rv, pl, hz⟩ := I.list (SqL.of hl)
  obtain ⟨o, m, e1, e2, e3, e4⟩ := pl
  have il := rv.length
  cases its with
  | nil =>
    have hx : xs = [] := List.eq_nil_of_length_eq_zero (by rw [il]; rfl)
    subst hx
    have ht : ts = [] := List.eq_nil_of_length_eq_zero hlen
    subst ht
    exact (ReprK.listEmpty (as := []) (d := 0) (h₀ := s.heap) e1 e2 e4) b hb A g X.xe s _ hg nofun sb.room.units0 (fun _ _ e => e) fun h' tk hk => ⟨rfl, I.kept hk⟩
  | cons y its =>
    refine wpAny_pyReprUnder_ref (by omega) (wpAny_pyReprObjUnder_twin (twin := "list.__repr__.under") ⟨o, e1, e2⟩ PySem.F.slot_list_repr.toG rfl sb.room.units0 ?_)
    refine call_twin_plain PySem.F.plain_list_repr_under PySem.F.entry_list_repr_under PySem.F.check_list_repr_under ⟨o, e1, e2⟩ PySem.F.slot_list_repr.toG (PySem.F.args_list_repr_1 _) ?_
    exact list_headI hg hc sb (fun e s' he => he) hna hl hlen each hb I e1 e4 fun s' u J => ⟨⟨_, _, rfl⟩, _, _, rfl, rfl, J⟩
theorem tupFoldI {A : Around} {g : List Code} (hG : A.guards = some g) (hcl : ∀ x ∈ as, Clear g x) (sb : L2.Sub X n A) : ∀ (vs : List V) (us : List Value) (ts : List Str) (acc : Array Str) (m : Nat) (s : Shared) (Q : (Array Str × Nat) → Shared → Prop), Vals vs us → ts.length = vs.length →
    (∀ (i : Nat) (v : V) (t : Str), vs[i]? = some v → ts[i]? = some t → RepI X H n as v t) → m + piled ts ≤ sizeLine → Inv X pins σ H s → (∀ s', Inv X pins σ H s' → Q ⟨acc ++ ts.toArray, m + piled ts⟩ s') →
    wpAny (model X.prog X.w) A (forIn us (⟨acc, m⟩ : (Array Str × Nat)) tupBody) Q X.xe s := by
  intro vs
  induction vs with
  | nil =>
    intro us ts acc m s Q r hl _ _ I h
    cases r
    have ht : ts = [] := List.eq_nil_of_length_eq_zero hl
    subst ht
    have h0 := h s I
    simp only [List.forIn_nil]
    exact wpAny_pure (by simpa [piled] using h0)
  | cons v vs ih =>
    intro us ts acc m s Q r hl each hn I h
    cases r with
    | cons ru rus =>
      cases ts with
      | nil => cases hl
      | cons t ts =>
        rw [piled_cons] at hn
        rw [List.forIn_cons]
        refine wpAny_bind (wpAny_bind (wpAny_mono (each 0 v t rfl rfl σ _ ru (m + 1) (by omega) _ _ _ s hG hcl sb I) (fun t' s2 hz => wpAny_pure ?_) fun _ _ x => x))
        obtain ⟨rfl, I2⟩ := hz
        refine ih _ ts (acc.push t') (m + (t'.length + 2)) _ Q rus (Nat.succ.inj hl) (fun i v t hv ht => each (i + 1) v t hv ht) (by omega) I2 fun s' J => ?_
        have h1 := h s' J
        have e : m + piled (t' :: ts) = m + (t'.length + 2) + piled ts := by rw [piled_cons]; omega
        rw [e] at h1
        simpa using h1
theorem sub_guardT {A : Around} (sb : L2.Sub X (n + 1) A) (id : String) (hid : id = "tuple.__repr__" ∨ id = "tuple.__repr__.under") (args : Args) : L2.Sub X n (A.under (.builtin id args)) := by
  have hw : (Code.builtin id args).weight ≤ 1 := by
    rcases hid with rfl | rfl
    · show (Code.builtin "tuple.__repr__" ⟨[], []⟩).weight ≤ 1
      decide +kernel
    · show (Code.builtin "tuple.__repr__.under" ⟨[], []⟩).weight ≤ 1
      decide +kernel
  have hc : (Code.builtin id args).cUnits ≤ 10 := by
    rcases hid with rfl | rfl
    · show (Code.builtin "tuple.__repr__" ⟨[], []⟩).cUnits ≤ 10
      decide +kernel
    · show (Code.builtin "tuple.__repr__.under" ⟨[], []⟩).cUnits ≤ 10
      decide +kernel
  have he : (Code.builtin id args).envs = [] := rfl
  obtain ⟨⟨h1, h2, h3⟩, h4⟩ := sb
  refine ⟨⟨h1, ?_, ?_⟩, ?_⟩
  · show A.depth + _ + 3 * n + 5 < _
    omega
  · show A.units + _ + 16 * n + 200 < _
    omega
  · unfold Around.under
    simp [he, pushEnvs, h4]
theorem RepI.tup {l : Addr} {xs : List V} {ts : List Str} (hl : H l = some (.tup xs)) (hlen : ts.length = xs.length) (hna : l ∉ as) (each : ∀ (i : Nat) (v : V) (t : Str), xs[i]? = some v → ts[i]? = some t → RepI X H n as v t) :
    RepI X H (n + 1) (l :: as) (.ref l) (tupleText ts) := by
  intro σ u r b hb A g pins s hg hc sb I
  cases r
  obtain ⟨its, rv, ⟨o, ho, hcl, m, hd⟩, _⟩ := I.tuple (SqT.of hl)
  have il := rv.length
  have hp := piled_le_tupleText ts
  refine wpAny_pyReprUnder_ref (by omega) (wpAny_pyReprObjUnder_twin (twin := "tuple.__repr__.under") ⟨o, ho, hcl⟩ PySem.F.slot_tuple_repr rfl sb.room.units0 ?_)
  refine call_twin_own (PySem.F.quiet_tuple_repr_under _) PySem.F.entry_tuple_repr_under PySem.F.check_tuple_repr_under ⟨o, ho, hcl⟩ PySem.F.slot_tuple_repr (PySem.F.args_tuple_repr_1 _) ?_
  rw [tuple_repr_tree, tupleReprUnderWay_eq]
  refine wpOwn_bind (wpOwn_stackTailAny hg (tupGuardF_off _) (tupGuardF_pos _) ?_)
  have hn : (g.any fun c => tupGuardF (.ref l) (c, default)) = false := by
    rw [List.any_eq_false]
    intro c hcm
    rw [tupGuardF_of_clear (hc l List.mem_cons_self) c hcm]
    exact Bool.false_ne_true
  rw [hn]
  refine wpOwn_of_wpAny ?_
  show wpAny _ _ (tupleReprRest b (.ref l)) _ _ s
  unfold tupleReprRest Builtin.Tuple.tupleItemsOf
  refine wpAny_bind (wpAny_bind (wpAny_seqItems ho hd (wpAny_pure ?_)))
  rw [← Array.forIn_toList]
  have sb2 : L2.Sub X n (A.under (.builtin "tuple.__repr__.under" ⟨[.ref l, rawInt b], []⟩)) := sub_guardT sb _ (.inr rfl) _
  have hg2 : (A.under (.builtin "tuple.__repr__.under" ⟨[.ref l, rawInt b], []⟩)).guards = some (.builtin "tuple.__repr__.under" ⟨[.ref l, rawInt b], []⟩ :: g) := guards_under_guard (isGuard_tuple_repr_under _) hg
  refine wpAny_bind (wpAny_mono (tupFoldI hg2 (fun b' hb' => (hc b' (List.mem_cons_of_mem _ hb')).cons (a := l) fun e => hna (e ▸ hb')) sb2 xs its ts #[] b s (fun r s' => r = ⟨#[] ++ ts.toArray, b + piled ts⟩ ∧ Inv X pins σ H s') rv hlen each (by omega) I fun s' J => ⟨rfl, J⟩) (fun r s' hz => ?_) fun _ _ x => x)
  obtain ⟨rfl, J⟩ := hz
  refine wpAny_bind (wpAny_mkStr (wpAny_pure ?_) ?_)
  · refine ⟨⟨_, _, rfl⟩, _, _, rfl, ?_, J.tok _⟩
    simp [tupleText, hlen, il]
  · have : (tupleText ts).length ≤ sizeLine := by omega
    simpa [tupleText, hlen, il] using this
end
/-! ### trees of such, told without the place that shows them -/
/-! ### != of two lists of such, equal one by one -/
/-! ### xs == [] -/
end LT
set_option Elab.async false
set_option linter.all false
set_option maxRecDepth 100000
set_option maxHeartbeats 1600000
/-! Own layer: runs of heads: one way only; how they show; == of them. -/
namespace LT
open PySem PySem.Spec PyProof.Rows L2 NdefX
/-! ### one way only -/
def Un (rs : List Run) : Prop := ∀ (i : Nat) a b, rs[i]? = some a → rs[i + 1]? = some b → a.1 ≠ b.1
theorem Un.tail {r : Run} {rs : List Run} (h : Un (r :: rs)) : Un rs := fun i a b h1 h2 => h (i + 1) a b h1 h2
theorem Cov.fst {β : Type} {fi : β → Int} {la : β → Option Int} {K : β → Int → Prop} {c : β} {r : List β} {f : Int} (h : Cov fi la K f (c :: r)) : fi c = f ∧ K c f := by
  cases r with
  | nil => exact ⟨h.1, h.2.2 f (Int.le_refl _)⟩
  | cons d r =>
    obtain ⟨h1, e, h2, h3, h4, _⟩ := h
    exact ⟨h1, h4 f (Int.le_refl _) h3⟩
/-! ### by marks -/
/-! ### how they show -/
def Sm62 (i : Int) : Prop := 0 ≤ i ∧ i < 10 ^ 60
/-- rows (value, day), as tuples -/
def RowsD (H : Hp) (us : List Addr) (B : List (Int × V)) : Prop := Paired (fun t (p : Int × V) => H t = some (.tup [p.2, .int p.1])) us B
theorem RowsD.mono {H H' : Hp} {us : List Addr} {B : List (Int × V)} (h : RowsD H us B) (s : Same H H') : RowsD H' us B := paired_imp (fun _ _ h => s _ _ h) h
theorem RowsD.upd {H : Hp} {us : List Addr} {B : List (Int × V)} {F : Addr} {xs : List V} {o : HO} (h : RowsD H us B) (e : H F = some (.lst xs)) : RowsD (L2.upd H F o) us B := paired_imp (fun t p h => by rw [upd_ne (ne_of h e (by intro z; cases z))]; exact h) h
/-! ### whole lists of runs -/
end LT
set_option Elab.async false
set_option linter.all false
set_option maxRecDepth 100000
/-! Own layer: runs of what was told, a day more than once with the same. -/
namespace LT
open PySem PySem.Spec PyProof.Rows L2 NdefX
def UpA (ch : List (Int × V)) : Prop := ch.Pairwise fun a b => a.1 < b.1 ∨ a = b
def dd : List (Int × V) → List (Int × V)
  | [] => []
  | [a] => [a]
  | a :: b :: r => if a = b then dd (b :: r) else a :: dd (b :: r)
theorem dd_mem : ∀ {ch : List (Int × V)} {x : Int × V}, x ∈ dd ch ↔ x ∈ ch
  | [], x => Iff.rfl
  | [a], x => Iff.rfl
  | a :: b :: r, x => by
    have ih := dd_mem (ch := b :: r) (x := x)
    unfold dd
    by_cases h : a = b
    · rw [if_pos h, ih, h]
      simp
    · rw [if_neg h, List.mem_cons, ih, List.mem_cons (a := x) (b := a)]
theorem dd_up : ∀ {ch : List (Int × V)}, UpA ch → (dd ch).Pairwise fun a b => a.1 < b.1
  | [], _ => List.Pairwise.nil
  | [a], _ => List.pairwise_singleton _ _
  | a :: b :: r, h => by
    have h' := List.pairwise_cons.mp h
    have ih := dd_up (ch := b :: r) h'.2
    unfold dd
    by_cases e : a = b
    · rw [if_pos e]
      exact ih
    · rw [if_neg e]
      refine List.pairwise_cons.mpr ⟨fun x hx => ?_, ih⟩
      have hx := dd_mem.mp hx
      have ab : a.1 < b.1 := (h'.1 b List.mem_cons_self).resolve_right e
      rcases List.mem_cons.mp hx with rfl | hx
      · exact ab
      · rcases (List.pairwise_cons.mp h'.2).1 x hx with h | h
        · omega
        · rw [← h]
          exact ab
theorem begS_idem (B : List (Int × V)) (p : Int × V) : begS (begS B p) p = begS B p := by
  by_cases h0 : p.1 = 0
  · unfold begS
    rw [if_pos h0, if_pos h0]
  · by_cases hl : p.2 = lastW B
    · have e : begS B p = B := by
        unfold begS
        rw [if_neg h0, if_pos hl]
      rw [e, e]
    · have e : begS B p = B ++ [p] := by
        unfold begS
        rw [if_neg h0, if_neg hl]
      rw [e]
      unfold begS
      rw [if_neg h0, if_pos]
      unfold lastW
      simp
theorem fold_dd : ∀ (ch B : List (Int × V)), ch.foldl begS B = (dd ch).foldl begS B
  | [], B => rfl
  | [a], B => rfl
  | a :: b :: r, B => by
    unfold dd
    by_cases e : a = b
    · rw [if_pos e, ← fold_dd (b :: r) B, e]
      show (b :: r).foldl begS (begS B b) = (b :: r).foldl begS B
      rw [List.foldl_cons, List.foldl_cons, begS_idem]
    · rw [if_neg e]
      exact fold_dd (b :: r) (begS B a)
theorem begF_dd (s : V) (ch : List (Int × V)) : begF s ch = begF s (dd ch) := fold_dd ch _
/-- runs_of, where a day may stand more than once with the same -/
def spRunsA (CS : Addr) : Sp := fun vs H Q _ => ∃ (s : V) (l : Addr) (ch : List (Int × V)), vs = [s, .ref l] ∧ RowsAt H l ch ∧ UpA ch ∧ (∀ x ∈ ch, 0 ≤ x.1) ∧ ScalL s ch ∧ ch.length ≤ 1000 ∧
  ∀ (l' : Addr) (H' : Hp), H l' = none → RunsAt CS H' l' (runF (begF s ch)) → Same H H' → Q (.ref l') H'
end LT
set_option Elab.async false
set_option linter.all false
set_option maxRecDepth 100000
/-! Own layer: runs by marks, any function of days. -/
namespace LT
open PySem PySem.Spec PyProof.Rows L2 NdefX
theorem atL_top {s : V} {d : Int} : ∀ {ch : List (Int × V)}, (ch.Pairwise fun a b => a.1 < b.1) → (∃ x ∈ ch, x.1 ≤ d) → ∃ x ∈ ch, x.1 ≤ d ∧ (∀ y ∈ ch, y.1 ≤ d → y.1 ≤ x.1) ∧ atL s ch d = x.2 := by
  have key : ∀ n, ∀ ch : List (Int × V), ch.length = n → (ch.Pairwise fun a b => a.1 < b.1) → (∃ x ∈ ch, x.1 ≤ d) → ∃ x ∈ ch, x.1 ≤ d ∧ (∀ y ∈ ch, y.1 ≤ d → y.1 ≤ x.1) ∧ atL s ch d = x.2 := by
    intro n
    induction n with
    | zero =>
      intro ch hl _ ⟨x, hx, _⟩
      rw [List.eq_nil_of_length_eq_zero hl] at hx
      cases hx
    | succ n ih =>
      intro ch hl up ⟨x, hx, hd⟩
      have hne : ch ≠ [] := fun e => by
        rw [e] at hx
        cases hx
      obtain ⟨B, p, rfl⟩ : ∃ B p, ch = B ++ [p] := ⟨ch.dropLast, ch.getLast hne, (List.dropLast_concat_getLast hne).symm⟩
      have up' := List.pairwise_append.mp up
      rw [atL_snoc]
      by_cases hp : p.1 ≤ d
      · rw [if_pos hp]
        refine ⟨p, List.mem_append_right _ List.mem_cons_self, hp, fun y hy _ => ?_, rfl⟩
        rcases List.mem_append.mp hy with hy | hy
        · have := up'.2.2 y hy p List.mem_cons_self
          omega
        · rw [List.mem_singleton.mp hy]
          exact Int.le_refl _
      · rw [if_neg hp]
        have hxB : x ∈ B := by
          rcases List.mem_append.mp hx with h | h
          · exact h
          · rw [List.mem_singleton.mp h] at hd
            exact absurd hd hp
        obtain ⟨z, hz, h1, h2, h3⟩ := ih B (by rw [List.length_append, List.length_singleton] at hl; omega) up'.1 ⟨x, hxB, hd⟩
        refine ⟨z, List.mem_append_left _ hz, h1, fun y hy hyd => ?_, h3⟩
        rcases List.mem_append.mp hy with hy | hy
        · exact h2 y hy hyd
        · rw [List.mem_singleton.mp hy] at hyd
          exact absurd hyd hp
  intro ch up h
  exact key _ ch rfl up h
def chG (g : Int → V) (fs : List Int) : List (Int × V) := fs.map fun d => (d, g d)
theorem chG_up {g : Int → V} {fs : List Int} (le : fs.Pairwise (· ≤ ·)) : UpA (chG g fs) := by
  unfold UpA chG
  rw [List.pairwise_map]
  refine le.imp fun {a b} h => ?_
  by_cases e : a = b
  · exact .inr (by rw [e])
  · exact .inl (show a < b by omega)
/-- the runs of g, by marks behind which it stays, each mark as often as one likes -/
theorem chG_runs {g : Int → V} {s : V} {fs : List Int} (le : fs.Pairwise (· ≤ ·)) (h0 : (0 : Int) ∈ fs) (nn : ∀ d ∈ fs, 0 ≤ d) (same : ∀ m d, m ∈ fs → m ≤ d → (∀ b ∈ fs, b ≤ d → b ≤ m) → g d = g m) :
    RunsOf (fun _ => True) g (runF (begF s (chG g fs))) := by
  rw [begF_dd]
  have up := dd_up (chG_up (g := g) le)
  have mem : ∀ x, x ∈ dd (chG g fs) ↔ x.1 ∈ fs ∧ x.2 = g x.1 := fun x => by
    rw [dd_mem]
    unfold chG
    rw [List.mem_map]
    constructor
    · rintro ⟨d, hd, rfl⟩
      exact ⟨hd, rfl⟩
    · rintro ⟨h1, h2⟩
      exact ⟨x.1, h1, by rw [← h2]⟩
  have n0 : ∀ x ∈ dd (chG g fs), 0 ≤ x.1 := fun x hx => nn _ ((mem x).mp hx).1
  generalize dd (chG g fs) = ch at *
  refine ((runs_ok (s := s) up n0).imp fun _ _ => trivial).congr fun d d0 => ?_
  obtain ⟨x, hx, h1, h2, h3⟩ := atL_top (s := s) (d := d) up ⟨(0, g 0), (mem _).mpr ⟨h0, rfl⟩, d0⟩
  rw [h3, ((mem x).mp hx).2]
  exact (same x.1 d ((mem x).mp hx).1 h1 fun b hb hbd => h2 (b, g b) ((mem _).mpr ⟨hb, rfl⟩) hbd).symm
/-- from a mark to the next, one stays where one is -/
theorem runs_same {P : Int → Prop} {g : Int → V} {rs : List Run} (h : RunsOf P g rs) {fs : List Int} (hf : ∀ r ∈ rs, rFi r ∈ fs) {m d : Int} (m0 : 0 ≤ m) (md : m ≤ d) (top : ∀ b ∈ fs, b ≤ d → b ≤ m) : g d = g m := by
  obtain ⟨i, r, hr, ⟨h1, h2⟩, h3, _⟩ := h.cov.one d (by omega)
  have hm := top _ (hf r (List.mem_of_getElem? hr)) h1
  have := (h.cov.get i r hr).2.2.1 m ⟨hm, fun e he => Int.le_trans md (h2 e he)⟩
  exact h3.trans this.symm
def elseV (g1 g2 : Int → V) (d : Int) : V := .bl (!decide (g1 d = g2 d))
end LT
set_option Elab.async false
set_option linter.all false
set_option maxRecDepth 100000
/-! Own layer: the runs that are true, as days told one way only. -/
namespace LT
open PySem PySem.Spec PyProof.Rows L2 NdefX
theorem ins_nil {d : Int} : ¬ LD.Ins [] d := fun ⟨_, h, _⟩ => nomatch h
end LT
set_option Elab.async false
set_option linter.all false
set_option maxRecDepth 100000
/-! Own layer: days told mark by mark, the last row grown where it ends the day before. -/
namespace LT
open PySem PySem.Spec PyProof.Rows L2 NdefX
def lastJ (F : List LD.Row) : Option Int := F.getLast?.bind (·.2)
def stepU (g : Int → V) (F : List LD.Row) (m : Int) (x : Option Int) : List LD.Row :=
  if g m = .bl true then (if lastJ F = some (m - 1) then F.dropLast ++ [((F.getLast?.map (·.1)).getD 0, x.map (· - 1))] else F ++ [(m, x.map (· - 1))]) else F
structure UI (g : Int → V) (F : List LD.Row) (m : Int) : Prop where
  asc : LD.Asc F
  top : ∀ r ∈ F, ∃ j, r.2 = some j ∧ j < m
  ins : ∀ d, LD.Ins F d ↔ 0 ≤ d ∧ d < m ∧ g d = .bl true
theorem ins_app {F G : List LD.Row} {d : Int} : LD.Ins (F ++ G) d ↔ LD.Ins F d ∨ LD.Ins G d := by
  constructor
  · rintro ⟨r, hr, h⟩
    exact (List.mem_append.mp hr).imp (fun q => ⟨r, q, h⟩) fun q => ⟨r, q, h⟩
  · rintro (⟨r, hr, h⟩ | ⟨r, hr, h⟩)
    · exact ⟨r, List.mem_append_left _ hr, h⟩
    · exact ⟨r, List.mem_append_right _ hr, h⟩
theorem ins_one {r : LD.Row} {d : Int} : LD.Ins [r] d ↔ r.1 ≤ d ∧ ∀ j, r.2 = some j → d ≤ j := by
  constructor
  · rintro ⟨s, hs, h⟩
    rw [List.mem_singleton.mp hs] at h
    exact h
  · exact fun h => ⟨r, List.mem_cons_self, h⟩
theorem map_pred {x : Option Int} {j : Int} (h : x.map (· - 1) = some j) : ∃ b, x = some b ∧ j = b - 1 := by
  cases x with
  | none => cases h
  | some b => exact ⟨b, rfl, (Option.some.inj h).symm⟩
theorem stepU_ok {g : Int → V} {F : List LD.Row} {m : Int} {x : Option Int} (h : UI g F m) (m0 : 0 ≤ m) (hx : ∀ b, x = some b → m < b) (same : ∀ d, m ≤ d → (∀ b, x = some b → d < b) → g d = g m) :
    LD.Asc (stepU g F m x) ∧ (∀ b, x = some b → ∀ r ∈ stepU g F m x, ∃ j, r.2 = some j ∧ j < b) ∧ ∀ d, LD.Ins (stepU g F m x) d ↔ 0 ≤ d ∧ (∀ b, x = some b → d < b) ∧ g d = .bl true := by
  have low : ∀ d, d < m → ∀ b, x = some b → d < b := fun d hd b hb => by
    have := hx b hb
    omega
  unfold stepU
  by_cases hg : g m = .bl true
  · rw [if_pos hg]
    have new : ∀ (d : Int), (m ≤ d ∧ ∀ j, x.map (· - 1) = some j → d ≤ j) ↔ (m ≤ d ∧ ∀ b, x = some b → d < b) := fun d => by
      refine and_congr_right fun _ => ⟨fun k b hb => ?_, fun k j hj => ?_⟩
      · have := k (b - 1) (by rw [hb]; rfl)
        omega
      · obtain ⟨b, hb, rfl⟩ := map_pred hj
        have := k b hb
        omega
    by_cases hl : lastJ F = some (m - 1)
    · rw [if_pos hl]
      have hne : F ≠ [] := fun e => by
        rw [e] at hl
        cases hl
      obtain ⟨B, p, rfl⟩ : ∃ B p, F = B ++ [p] := ⟨F.dropLast, F.getLast hne, (List.dropLast_concat_getLast hne).symm⟩
      obtain ⟨a, y⟩ := p
      have hy : y = some (m - 1) := by
        unfold lastJ at hl
        rw [List.getLast?_concat] at hl
        exact hl
      subst hy
      rw [List.dropLast_concat, List.getLast?_concat]
      show LD.Asc (B ++ [(a, x.map (· - 1))]) ∧ (∀ b, x = some b → ∀ r ∈ B ++ [(a, x.map (· - 1))], ∃ j, r.2 = some j ∧ j < b) ∧ ∀ d, LD.Ins (B ++ [(a, x.map (· - 1))]) d ↔ _
      have pw := List.pairwise_append.mp h.asc.pw
      have oka := h.asc.ok (a, some (m - 1)) (List.mem_append_right _ List.mem_cons_self)
      have am : a ≤ m - 1 := oka.2 _ rfl
      have a0 : 0 ≤ a := oka.1
      refine ⟨⟨fun r hr => ?_, List.pairwise_append.mpr ⟨pw.1, List.pairwise_singleton _ _, fun r hr s hs => ?_⟩⟩, fun b hb r hr => ?_, fun d => ?_⟩
      · rcases List.mem_append.mp hr with hr | hr
        · exact h.asc.ok r (List.mem_append_left _ hr)
        · rw [List.mem_singleton.mp hr]
          refine ⟨a0, fun j hj => ?_⟩
          obtain ⟨b, hb, rfl⟩ := map_pred hj
          have := hx b hb
          show a ≤ b - 1
          omega
      · rw [List.mem_singleton.mp hs]
        exact pw.2.2 r hr (a, some (m - 1)) List.mem_cons_self
      · rcases List.mem_append.mp hr with hr | hr
        · obtain ⟨j, h1, h2⟩ := h.top r (List.mem_append_left _ hr)
          exact ⟨j, h1, low j h2 b hb⟩
        · rw [List.mem_singleton.mp hr]
          exact ⟨b - 1, by rw [hb]; rfl, by omega⟩
      · have hi := h.ins d
        rw [ins_app, ins_one] at hi ⊢
        by_cases hd : d < m
        · rw [show (0 ≤ d ∧ (∀ b, x = some b → d < b) ∧ g d = .bl true) ↔ (0 ≤ d ∧ d < m ∧ g d = .bl true) from ⟨fun k => ⟨k.1, hd, k.2.2⟩, fun k => ⟨k.1, low d hd, k.2.2⟩⟩, ← hi]
          refine or_congr_right (and_congr_right fun _ => ⟨fun _ j hj => ?_, fun _ j hj => ?_⟩)
          · have : m - 1 = j := Option.some.inj hj
            omega
          · obtain ⟨b, hb, rfl⟩ := map_pred hj
            have := hx b hb
            omega
        · have nB : ¬ LD.Ins B d := fun ⟨r, hr, q⟩ => by
            obtain ⟨j, h1, h2⟩ := h.top r (List.mem_append_left _ hr)
            have := q.2 j h1
            omega
          have nw := new d
          constructor
          · rintro (q | q)
            · exact absurd q nB
            · have k := nw.mp ⟨by omega, q.2⟩
              exact ⟨by omega, k.2, (same d (by omega) k.2).trans hg⟩
          · rintro ⟨k0, k1, _⟩
            exact .inr ⟨by show a ≤ d; omega, (nw.mpr ⟨by omega, k1⟩).2⟩
    · rw [if_neg hl]
      have far : ∀ r ∈ F, ∃ j, r.2 = some j ∧ j + 1 < m := fun r hr => by
        have hne : F ≠ [] := fun e => by
          rw [e] at hr
          cases hr
        obtain ⟨B, p, rfl⟩ : ∃ B p, F = B ++ [p] := ⟨F.dropLast, F.getLast hne, (List.dropLast_concat_getLast hne).symm⟩
        obtain ⟨jp, e1, e2⟩ := h.top p (List.mem_append_right _ List.mem_cons_self)
        have nl : jp ≠ m - 1 := fun e => hl (by
          unfold lastJ
          rw [List.getLast?_concat, ← e]
          exact e1)
        rcases List.mem_append.mp hr with hr | hr
        · obtain ⟨j, k1, k2⟩ := (List.pairwise_append.mp h.asc.pw).2.2 r hr p List.mem_cons_self
          have := (h.asc.ok p (List.mem_append_right _ List.mem_cons_self)).2 jp e1
          exact ⟨j, k1, by omega⟩
        · rw [List.mem_singleton.mp hr]
          exact ⟨jp, e1, by omega⟩
      refine ⟨⟨fun r hr => ?_, List.pairwise_append.mpr ⟨h.asc.pw, List.pairwise_singleton _ _, fun r hr s hs => ?_⟩⟩, fun b hb r hr => ?_, fun d => ?_⟩
      · rcases List.mem_append.mp hr with hr | hr
        · exact h.asc.ok r hr
        · rw [List.mem_singleton.mp hr]
          refine ⟨m0, fun j hj => ?_⟩
          obtain ⟨b, hb, rfl⟩ := map_pred hj
          have := hx b hb
          show m ≤ b - 1
          omega
      · rw [List.mem_singleton.mp hs]
        exact far r hr
      · rcases List.mem_append.mp hr with hr | hr
        · obtain ⟨j, h1, h2⟩ := h.top r hr
          exact ⟨j, h1, low j h2 b hb⟩
        · rw [List.mem_singleton.mp hr]
          exact ⟨b - 1, by rw [hb]; rfl, by omega⟩
      · rw [ins_app, ins_one, h.ins d]
        have nw := new d
        constructor
        · rintro (q | q)
          · exact ⟨q.1, low d q.2.1, q.2.2⟩
          · have k := nw.mp q
            exact ⟨by omega, k.2, (same d k.1 k.2).trans hg⟩
        · rintro ⟨k0, k1, k2⟩
          by_cases hd : d < m
          · exact .inl ⟨k0, hd, k2⟩
          · exact .inr (nw.mpr ⟨by omega, k1⟩)
  · rw [if_neg hg]
    refine ⟨h.asc, fun b hb r hr => ?_, fun d => ?_⟩
    · obtain ⟨j, h1, h2⟩ := h.top r hr
      exact ⟨j, h1, low j h2 b hb⟩
    · rw [h.ins d]
      constructor
      · exact fun q => ⟨q.1, low d q.2.1, q.2.2⟩
      · rintro ⟨k0, k1, k2⟩
        by_cases hd : d < m
        · exact ⟨k0, hd, k2⟩
        · exact absurd ((same d (by omega) k1).symm.trans k2) hg
end LT
set_option Elab.async false
set_option linter.all false
set_option maxRecDepth 100000
/-! Own layer: texts sorted, one way only. -/
namespace LT
open PySem PySem.Spec PyProof.Rows
end LT
set_option Elab.async false
set_option linter.all false
set_option maxRecDepth 100000
set_option maxHeartbeats 1600000
/-! Own layer: what is changed between two known days. -/
namespace LT
open PySem PySem.Spec PyProof.Rows L2 NdefX
def tTru (K : PySem.W.Frag) (ta : TE) : TT := fun σ H Q => ta σ H fun x H' => ∃ k, TruV K x H' k ∧ Q k H'
theorem elseV_true {g1 g2 : Int → V} {d : Int} : elseV g1 g2 d = .bl true ↔ g1 d ≠ g2 d := by
  unfold elseV
  by_cases h : g1 d = g2 d
  · rw [decide_eq_true h]
    exact ⟨(fun k => by cases k), fun k => absurd h k⟩
  · rw [decide_eq_false h]
    exact ⟨fun _ => h, fun _ => rfl⟩
/-- the days on which two are unlike, told one way only -/
structure IsElse (g1 g2 : Int → V) (rows : List LD.Row) : Prop where
  asc : LD.Asc rows
  ins : ∀ d, LD.Ins rows d ↔ 0 ≤ d ∧ g1 d ≠ g2 d
theorem IsElse.uniq {g1 g2 : Int → V} {r s : List LD.Row} (a : IsElse g1 g2 r) (b : IsElse g1 g2 s) : r = s := LD.asc_uniq a.asc b.asc fun d => (a.ins d).trans (b.ins d).symm
open Classical in
noncomputable def elseR (g1 g2 : Int → V) : List LD.Row := if h : ∃ r, IsElse g1 g2 r then Classical.choose h else []
theorem IsElse.eq {g1 g2 : Int → V} {r : List LD.Row} (h : IsElse g1 g2 r) : r = elseR g1 g2 := by
  have e : ∃ r, IsElse g1 g2 r := ⟨r, h⟩
  unfold elseR
  rw [dif_pos e]
  exact h.uniq (Classical.choose_spec e)
theorem asc_nn {L : List LD.Row} (h : LD.Asc L) {d : Int} (k : LD.Ins L d) : 0 ≤ d := by
  obtain ⟨r, hr, h1, _⟩ := k
  have := (h.ok r hr).1
  omega
/-! ### the law's own way: mark by mark -/
structure UInv (g : Int → V) (ms : List Int) (i : Nat) (F : List LD.Row) : Prop where
  asc : LD.Asc F
  top : ∀ b, ms[i]? = some b → ∀ r ∈ F, ∃ j, r.2 = some j ∧ j < b
  ins : ∀ d, LD.Ins F d ↔ 0 ≤ d ∧ (∀ b, ms[i]? = some b → d < b) ∧ g d = .bl true
theorem UInv.nil {g : Int → V} {ms : List Int} (h : ms[0]? = some 0) : UInv g ms 0 [] := ⟨⟨(fun r hr => by cases hr), List.Pairwise.nil⟩, (fun b hb r hr => by cases hr), fun d => ⟨fun k => absurd k ins_nil, fun ⟨d0, k, _⟩ => by
  have := k 0 h
  omega⟩⟩
theorem mark_gap {ms : List Int} (up : ms.Pairwise (· < ·)) {i : Nat} {m : Int} (hm : ms[i]? = some m) {d : Int} (nx : ∀ b, ms[i + 1]? = some b → d < b) {o : Int} (mo : m < o) (od : o ≤ d) : o ∉ ms := fun ho => by
  obtain ⟨j, hj⟩ := List.getElem?_of_mem ho
  obtain ⟨il, ei⟩ := List.getElem?_eq_some_iff.mp hm
  obtain ⟨jl, ej⟩ := List.getElem?_eq_some_iff.mp hj
  rcases Nat.lt_trichotomy j i with h | h | h
  · have := List.pairwise_iff_getElem.mp up j i jl il h
    omega
  · subst h
    omega
  · by_cases e : j = i + 1
    · subst e
      have := nx o hj
      omega
    · have l1 : i + 1 < ms.length := by omega
      have := List.pairwise_iff_getElem.mp up (i + 1) j l1 jl (by omega)
      have := nx _ (List.getElem?_eq_getElem l1)
      omega
theorem UInv.step {g : Int → V} {ms : List Int} {i : Nat} {F : List LD.Row} {m : Int} (h : UInv g ms i F) (up : ms.Pairwise (· < ·)) (nn : ∀ d ∈ ms, 0 ≤ d) (hm : ms[i]? = some m) (same : ∀ d, m ≤ d → (∀ o, m < o → o ≤ d → o ∉ ms) → g d = g m) :
    UInv g ms (i + 1) (stepU g F m (ms[i + 1]?)) := by
  have U : UI g F m := ⟨h.asc, h.top m hm, fun d => (h.ins d).trans ⟨fun k => ⟨k.1, k.2.1 m hm, k.2.2⟩, fun k => ⟨k.1, fun b hb => by rw [hm] at hb; cases hb; exact k.2.1, k.2.2⟩⟩⟩
  obtain ⟨a, b, c⟩ := stepU_ok (x := ms[i + 1]?) U (nn m (List.mem_of_getElem? hm)) (fun b hb => by
    obtain ⟨il, ei⟩ := List.getElem?_eq_some_iff.mp hm
    obtain ⟨jl, ej⟩ := List.getElem?_eq_some_iff.mp hb
    have := List.pairwise_iff_getElem.mp up i (i + 1) il jl (by omega)
    omega) fun d hd nx => same d hd fun o mo od => mark_gap up hm nx mo od
  exact ⟨a, b, c⟩
theorem UInv.done {g1 g2 : Int → V} {ms : List Int} {F : List LD.Row} (h : UInv (elseV g1 g2) ms ms.length F) : IsElse g1 g2 F :=
  ⟨h.asc, fun d => (h.ins d).trans ⟨fun k => ⟨k.1, elseV_true.mp k.2.2⟩, fun k => ⟨k.1, (fun b hb => by rw [List.getElem?_eq_none (Nat.le_refl _)] at hb; cases hb), elseV_true.mpr k.2⟩⟩⟩
/-! ### rows and changes on the heap -/
def RowsR (H : Hp) (us : List Addr) (F : List LD.Row) : Prop := Paired (fun t (r : LD.Row) => H t = some (.tup [.int r.1, knV r.2])) us F
theorem RowsR.mono {H H' : Hp} {us : List Addr} {F : List LD.Row} (h : RowsR H us F) (s : Same H H') : RowsR H' us F := paired_imp (fun _ _ h => s _ _ h) h
theorem RowsR.upd {H : Hp} {us : List Addr} {B : List LD.Row} {F : Addr} {xs : List V} {o : HO} (h : RowsR H us B) (e : H F = some (.lst xs)) : RowsR (L2.upd H F o) us B := paired_imp (fun t p h => by rw [upd_ne (ne_of h e (by intro z; cases z))]; exact h) h
abbrev Chg := Str × List LD.Row
def ChT (CS : Addr) (H : Hp) (c : Addr × Addr) (e : Chg) : Prop := H c.1 = some (.tup [.str e.1, .ref c.2]) ∧ PartsAt CS H c.2 e.2
theorem ChT.mono {CS : Addr} {H H' : Hp} {c : Addr × Addr} {e : Chg} (h : ChT CS H c e) (s : Same H H') : ChT CS H' c e := ⟨s _ _ h.1, h.2.mono s⟩
theorem PartsAt.upd {CS : Addr} {H : Hp} {l F : Addr} {ps : List Part} {xs : List V} {o : HO} (h : PartsAt CS H l ps) (e : H F = some (.lst xs)) (n : l ≠ F) : PartsAt CS (L2.upd H F o) l ps := by
  obtain ⟨ts, a, b⟩ := h
  exact ⟨ts, by rw [upd_ne n]; exact a, paired_imp (fun _ _ h => h.upd e) b⟩
theorem ChT.upd {CS : Addr} {H : Hp} {F : Addr} {c : Addr × Addr} {e : Chg} {xs : List V} {o : HO} (h : ChT CS H c e) (eF : H F = some (.lst xs)) (n : c.2 ≠ F) : ChT CS (L2.upd H F o) c e :=
  ⟨by rw [upd_ne (ne_of h.1 eF (by intro z; cases z))]; exact h.1, h.2.upd eF n⟩
structure ChsAt (CS : Addr) (H : Hp) (T : Addr) (cs : List (Addr × Addr)) (chs : List Chg) : Prop where
  hT : H T = some (.lst ((cs.map (·.1)).map V.ref))
  hc : Paired (ChT CS H) cs chs
theorem ChsAt.mono {CS : Addr} {H H' : Hp} {T : Addr} {cs : List (Addr × Addr)} {chs : List Chg} (h : ChsAt CS H T cs chs) (s : Same H H') : ChsAt CS H' T cs chs := ⟨s _ _ h.hT, paired_imp (fun _ _ h => h.mono s) h.hc⟩
theorem paired_mem2 {α β : Type} {R S : α → β → Prop} : ∀ {xs : List α} {ys : List β}, Paired R xs ys → (∀ x y, x ∈ xs → y ∈ ys → R x y → S x y) → Paired S xs ys
  | _, _, .nil, _ => .nil
  | _, _, .cons a t, f => .cons (f _ _ List.mem_cons_self List.mem_cons_self a) (paired_mem2 t fun x y hx hy h => f x y (List.mem_cons_of_mem _ hx) (List.mem_cons_of_mem _ hy) h)
theorem paired_app {α β : Type} {R : α → β → Prop} : ∀ {xs xs' : List α} {ys ys' : List β}, Paired R xs ys → Paired R xs' ys' → Paired R (xs ++ xs') (ys ++ ys')
  | _, _, _, _, .nil, h => h
  | _, _, _, _, .cons a t, h => .cons a (paired_app t h)
theorem paired_in {α β : Type} {R : α → β → Prop} {xs : List α} {ys : List β} (h : Paired R xs ys) {x : α} (hx : x ∈ xs) : ∃ y ∈ ys, R x y := by
  obtain ⟨i, hi⟩ := List.getElem?_of_mem hx
  obtain ⟨y, h1, h2⟩ := paired_get h hi
  exact ⟨y, List.mem_of_getElem? h1, h2⟩
/-! ### rows by marks -/
/-! ### how changes show and compare -/
def Parts3 (CS : Addr) (H : Hp) (l : Addr) (ps : List Part) : Prop := ∃ xs : List Addr, H l = some (.lst (xs.map V.ref ++ [V.int 3])) ∧ Paired (fun x (p : Part) => StrAt CS H x p.1 p.2) xs ps
theorem Parts3.mono {CS : Addr} {H H' : Hp} {l : Addr} {ps : List Part} (h : Parts3 CS H l ps) (s : Same H H') : Parts3 CS H' l ps := by
  obtain ⟨ts, a, b⟩ := h
  exact ⟨ts, s _ _ a, paired_imp (fun _ _ h => h.mono s) b⟩
theorem nm_repr {z : Str} (h : Nm z) : (reprText z).length ≤ 82 := by
  have h1 := StrLaws.reprText_len z fun c hc => by
    have := h.al c hc
    unfold small at this
    simp at this
    omega
  have := h.l8
  omega
end LT
set_option Elab.async false
set_option linter.all false
set_option maxRecDepth 100000
set_option maxHeartbeats 1600000
/-! Own layer: a move told late. -/
namespace LT
open PySem PySem.Spec PyProof.Rows L2 NdefX
/-! ### what differs is always told one way -/
/-! ### places by what is held -/
def putF (f : Int → V) (d : Int) (w : V) (o : Int) : V := if o = d then w else f o
/-! ### as known on the day ahead, and on the day of it -/
end LT
set_option Elab.async false
set_option linter.all false
set_option maxRecDepth 100000
set_option maxHeartbeats 1600000
/-! Own layer: turns by what is held, how they show; a book told ahead of the plan. -/
namespace LT
open PySem PySem.Spec PyProof.Rows L2 NdefX
theorem pl_repr {y : Str} (h : Pl y) : (reprText y).length ≤ 82 := by
  rcases h with rfl | h
  · decide +kernel
  · exact nm_repr h
/-! ### the book is told ahead of the plan -/
structure Mid (CB CH : Addr) (H : Hp) (p : Addr) (c : Cl) (es : List Evt) (fp : List Addr) : Prop where
  pot : Pot H p
  hP : H c.P = some (.dK (planK c.D c.kn c.la))
  hI : PlanI (Ho (p :: c.P :: c.E :: fp) H) c.D
  la : LastOK (Ho (p :: c.P :: c.E :: fp) H) c.la c.D.rk
  ev : EvsAt H (Ho (p :: c.P :: c.E :: fp) H) c.E c.es
  bk : Bk CB CH H c.b c.D.rk es fp
  np : p ∉ c.P :: c.E :: fp
  nPE : c.P ≠ c.E
  nPf : c.P ∉ fp
  nEf : c.E ∉ fp
section
variable {CB CH : Addr} {H H' : Hp} {p : Addr} {c : Cl} {es : List Evt} {fp : List Addr}
theorem Mid.mono (W : Mid CB CH H p c es fp) (s : Same H H') : Mid CB CH H' p c es fp := by
  have si := ho_same (M := p :: c.P :: c.E :: fp) s
  exact ⟨W.pot.mono s, s _ _ W.hP, W.hI.mono si, W.la.mono si, W.ev.mono s si, W.bk.mono s, W.np, W.nPE, W.nPf, W.nEf⟩
theorem Mid.of (W : One CB CH H p c) (s : SameL c.fp H H') (bk : Bk CB CH H' c.b c.D.rk es fp) (fr : ∀ a ∈ fp, a ∈ c.fp ∨ H a = none) : Mid CB CH H' p c es fp := by
  have A := W.c1
  have mfp : ∀ a ∈ c.fp, a ∈ p :: c.m := fun a h => List.mem_cons_of_mem _ (List.mem_cons_of_mem _ (List.mem_cons_of_mem _ h))
  have si : Same (Ho (p :: c.m) H) (Ho (p :: c.P :: c.E :: fp) H') := ho_step s mfp fun a ha => by
    rcases List.mem_cons.mp ha with h | h
    · exact .inl (by rw [h]; exact List.mem_cons_self)
    rcases List.mem_cons.mp h with h | h
    · exact .inl (by rw [h]; exact List.mem_cons_of_mem _ List.mem_cons_self)
    rcases List.mem_cons.mp h with h | h
    · exact .inl (by rw [h]; exact List.mem_cons_of_mem _ (List.mem_cons_of_mem _ List.mem_cons_self))
    · exact (fr a h).imp (mfp a) id
  obtain ⟨ts, eE, hts⟩ := A.ev
  have ex : ∀ {a : Addr}, a ∈ fp → a ∉ c.fp → ∀ o, H a ≠ some o := fun h n o e => by
    rcases fr _ h with h | h
    · exact n h
    · rw [e] at h; cases h
  have npf : p ∉ c.fp := fun h => W.pc (List.mem_cons_of_mem _ (List.mem_cons_of_mem _ h))
  obtain ⟨x, y, hp, b⟩ := W.pot
  have nP : p ≠ c.P := fun h => W.pc (by rw [h]; exact List.mem_cons_self)
  have nE : p ≠ c.E := fun h => W.pc (by rw [h]; exact List.mem_cons_of_mem _ List.mem_cons_self)
  refine ⟨⟨x, y, s _ _ npf hp, b⟩, s _ _ A.nPf A.hP, A.hI.mono si, A.la.mono si, ⟨ts, s _ _ A.nEf eE, paired_imp (fun _ _ h => si _ _ h) hts⟩, bk, fun h => ?_, A.nPE, fun h => ex h A.nPf _ A.hP, fun h => ex h A.nEf _ eE⟩
  rcases List.mem_cons.mp h with h | h
  · exact nP h
  rcases List.mem_cons.mp h with h | h
  · exact nE h
  · exact ex h npf _ hp
/-- the plan and the list of events come after -/
theorem Mid.fin {T : Addr} {e : Evt} {ts : List Addr} (W : Mid CB CH H p c (c.es ++ [e]) fp) (hG : PlanG c.D) (k0 : 0 ≤ c.kn) (kl : ∀ x ∈ c.es, x.kn ≤ c.kn) (ke : c.kn ≤ e.kn) (hT : EvT (Ho (p :: c.P :: c.E :: fp) H) T e)
    (eE : H c.E = some (.lst (ts.map V.ref))) (hts : Paired (EvT (Ho (p :: c.P :: c.E :: fp) H)) ts c.es) :
    One CB CH (upd (upd H c.P (.dK (planK c.D e.kn c.la))) c.E (.lst ((ts ++ [T]).map V.ref))) p { c with kn := e.kn, es := c.es ++ [e], fp := fp } := by
  have s : SameL (p :: c.P :: c.E :: fp) H (upd (upd H c.P (.dK (planK c.D e.kn c.la))) c.E (.lst ((ts ++ [T]).map V.ref))) :=
    SameL.upd (List.mem_cons_of_mem _ (List.mem_cons_of_mem _ List.mem_cons_self)) (SameL.upd (List.mem_cons_of_mem _ List.mem_cons_self) (SameL.of (Same.refl _)))
  have si : Same (Ho (p :: c.P :: c.E :: fp) H) (Ho (p :: c.P :: c.E :: fp) (upd (upd H c.P (.dK (planK c.D e.kn c.la))) c.E (.lst ((ts ++ [T]).map V.ref)))) := ho_step s (fun a h => h) fun a h => .inl h
  have nP : p ≠ c.P := fun h => W.np (by rw [h]; exact List.mem_cons_self)
  have nE : p ≠ c.E := fun h => W.np (by rw [h]; exact List.mem_cons_of_mem _ List.mem_cons_self)
  refine ⟨(W.pot.upd nP.symm).upd nE.symm, ⟨?_, W.hI.mono si, hG, Int.le_trans k0 ke, W.la.mono si, ⟨ts ++ [T], upd_same, paired_snoc' (paired_imp (fun _ _ h => si _ _ h) hts) (si _ _ hT)⟩, ?_, ?_, W.nPE, W.nPf, W.nEf⟩, W.np⟩
  · rw [upd_ne W.nPE]
    exact upd_same
  · exact W.bk.by fun x hx o ho => by
      rw [upd_ne (fun z => W.nEf (by rw [← z]; exact hx)), upd_ne (fun z => W.nPf (by rw [← z]; exact hx))]
      exact ho
  · intro x hx
    rcases List.mem_append.mp hx with hx | hx
    · exact Int.le_trans (kl x hx) ke
    · rw [List.mem_singleton.mp hx]
      exact Int.le_refl _
end
end LT
set_option Elab.async false
set_option linter.all false
set_option maxRecDepth 100000
set_option maxHeartbeats 1600000
/-! Own layer: cases drawn by the laws on days owed. -/
namespace LT
open PySem PySem.Spec PyProof.Rows L2 NdefX
def abc : Str := Str.ofString "abcdefghijklmnopqrstuvwxyz"
def cand4 (c : Nat) : Str := (⟨#[c]⟩ : Str) ++ Str.ofString "xyx"
theorem cand4_codes (c : Nat) : (cand4 c).cps.toList = [c, 120, 121, 120] := by
  unfold cand4
  rw [str_app_codes, show (Str.ofString "xyx").cps.toList = [120, 121, 120] by decide +kernel]
  rfl
theorem cand4_len (c : Nat) : (cand4 c).length = 4 := by
  show (cand4 c).cps.size = 4
  rw [← Array.length_toList, cand4_codes]
  rfl
theorem cand4_nm {c : Nat} (h : small c = true) : Nm (cand4 c) := by
  refine ⟨by rw [cand4_len]; decide, by rw [cand4_len]; decide, fun x hx => ?_⟩
  rw [cand4_codes] at hx
  simp only [List.mem_cons, List.not_mem_nil, or_false] at hx
  rcases hx with rfl | rfl | rfl | rfl
  · exact h
  all_goals decide +kernel
theorem abc_len : abc.cps.toList.length = 26 := by decide +kernel
theorem abc_small : ∀ c ∈ abc.cps.toList, small c = true := by
  have : abc.cps.toList.all small = true := by decide +kernel
  exact fun c hc => List.all_eq_true.mp this c hc
/-- of few names, one sign is left -/
theorem cand4_left {zs : List Str} (h : zs.length ≤ 25) : (abc.cps.toList.filter fun c => !decide (cand4 c ∈ zs)) ≠ [] := fun e => by
  have all : ∀ x ∈ abc.cps.toList.map cand4, x ∈ zs := fun x hx => by
    obtain ⟨c, hc, rfl⟩ := List.mem_map.mp hx
    rw [List.filter_eq_nil_iff] at e
    have := e c hc
    simpa using this
  have nd : (abc.cps.toList.map cand4).Nodup := by decide +kernel
  have := List.Nodup.length_le_of_subset nd all
  rw [List.length_map, abc_len] at this
  omega
theorem cut7_nm {z : Str} {c : Nat} (h : Nm z) (hc : small c = true) : Nm (cutS z none (some 7) ++ (⟨#[c]⟩ : Str)) := by
  have e : (cutS z none (some 7) ++ (⟨#[c]⟩ : Str)).cps.toList = z.cps.toList.take 7 ++ [c] := by
    rw [str_app_codes, cutS_take (by decide)]
    rfl
  have l : (cutS z none (some 7) ++ (⟨#[c]⟩ : Str)).length = min 7 z.length + 1 := by
    show (cutS z none (some 7) ++ (⟨#[c]⟩ : Str)).cps.size = _
    rw [← Array.length_toList, e, List.length_append, List.length_take, Array.length_toList]
    rfl
  refine ⟨by omega, by omega, fun x hx => ?_⟩
  rw [e] at hx
  rcases List.mem_append.mp hx with hx | hx
  · exact h.al x (List.mem_of_mem_take hx)
  · rw [List.mem_singleton.mp hx]
    exact hc
def spCellK (K : PySem.W.Frag) : Sp := fun vs H Q _ => ∃ (a : Addr) (ns : List Int) (k : Nat), vs = [.ref a, .int (k : Nat)] ∧ SqL K H a (ns.map V.int) ∧ ∀ z : Int, Q (.int z) H
def spNamesE : Sp := fun vs H Q _ => ∃ (p : Addr) (m : Int), vs = [.ref p, .int m] ∧ Pot H p ∧ 0 ≤ m ∧ m ≤ 20 ∧
  ∀ (L : Addr) (zs : List Str) (H' : Hp), H L = none → H' L = some (.lst (zs.map V.str)) → Names zs → zs.length = m.toNat → Pot H' p → SameB p H H' → Q (.ref L) H'
/-! ### rows drawn -/
def RowT (H : Hp) (t : Addr) (e : Evt) : Prop := H t = some (.tup [.int e.kn, .str e.who, .int e.day, e.w])
theorem RowT.pot {H H' : Hp} {p t : Addr} {e : Evt} (h : RowT H t e) (hp : Pot H p) (s : SameB p H H') : RowT H' t e := s _ _ (ne_of_pot hp h) h
theorem RowT.upd {H : Hp} {t F : Addr} {e : Evt} {xs : List V} {o : HO} (h : RowT H t e) (eF : H F = some (.lst xs)) : RowT (L2.upd H F o) t e := by
  show L2.upd H F o t = _
  rw [upd_ne (ne_of h eF (by intro z; cases z))]
  exact h
structure RowOK (zs : List Str) (e : Evt) : Prop where
  mv : e.mv = true
  k0 : 0 ≤ e.kn
  k1 : e.kn ≤ 200
  who : e.who ∈ zs
  d0 : 0 ≤ e.day
  d1 : e.day ≤ 30
  w : e.w = .non ∨ ∃ z, e.w = .str z ∧ Pl z
def RowsC (H : Hp) (R : Addr) (es : List Evt) : Prop := ∃ ts : List Addr, H R = some (.lst (ts.map V.ref)) ∧ Paired (RowT H) ts es
theorem RowsC.mono {H H' : Hp} {R : Addr} {es : List Evt} (h : RowsC H R es) (s : Same H H') : RowsC H' R es := by
  obtain ⟨ts, a, b⟩ := h
  exact ⟨ts, s _ _ a, paired_imp (fun _ _ h => s _ _ h) b⟩
structure CaseD where
  n : Addr
  R : Addr
  zs : List Str
  es : List Evt
  far : Int
structure CaseG (C : CaseD) : Prop where
  zs : Names C.zs
  z0 : 0 < C.zs.length
  z1 : C.zs.length ≤ 20
  ok : ∀ e ∈ C.es, RowOK C.zs e
  up : Rising C.es
  e0 : 0 < C.es.length
  e1 : C.es.length ≤ 14
  f0 : 0 ≤ C.far
  f1 : C.far < 10 ^ 54
  k1 : ∀ e ∈ C.es, e.kn ≤ 190
structure CaseAt (H : Hp) (T : Addr) (C : CaseD) : Prop where
  hT : H T = some (.tup [.ref C.n, .ref C.R, .int C.far])
  hn : H C.n = some (.lst (C.zs.map V.str))
  hR : RowsC H C.R C.es
theorem CaseAt.mono {H H' : Hp} {T : Addr} {C : CaseD} (h : CaseAt H T C) (s : Same H H') : CaseAt H' T C := ⟨s _ _ h.hT, s _ _ h.hn, h.hR.mono s⟩
theorem refs_no_pot {ts : List Addr} (a b : Int) : (HO.lst (ts.map V.ref)) ≠ .lst [.int a, .int b] := by
  intro h
  have h := HO.lst.inj h
  match ts, h with
  | [], h => cases h
  | t :: r, h => cases (List.cons.inj h).1
theorem RowsC.pot {H H' : Hp} {R p : Addr} {es : List Evt} (h : RowsC H R es) (hp : Pot H p) (s : SameB p H H') : RowsC H' R es := by
  obtain ⟨ts, a, b⟩ := h
  exact ⟨ts, s _ _ (ne_of_pot hp a refs_no_pot) a, paired_imp (fun _ _ h => h.pot hp s) b⟩
theorem CaseAt.pot {H H' : Hp} {T p : Addr} {C : CaseD} (h : CaseAt H T C) (hp : Pot H p) (s : SameB p H H') : CaseAt H' T C := ⟨s _ _ (ne_of_pot hp h.hT) h.hT, s _ _ (ne_of_pot hp h.hn strs_no_pot) h.hn, h.hR.pot hp s⟩
def spCase : Sp := fun vs H Q _ => ∃ (p : Addr), vs = [.ref p] ∧ Pot H p ∧ ∀ (T : Addr) (C : CaseD) (H' : Hp), H T = none → CaseAt H' T C → CaseG C → Pot H' p → SameB p H H' → Q (.ref T) H'
/-! ### the book of a case -/
def shiftE (far : Int) (es : List Evt) : List Evt := es.map fun e => { e with day := e.day + far }
theorem shiftE_snoc {far : Int} {es : List Evt} {i : Nat} {e : Evt} (h : es[i]? = some e) : shiftE far (es.take (i + 1)) = shiftE far (es.take i) ++ [{ e with day := e.day + far }] := by
  unfold shiftE
  rw [take_snoc h, List.map_append]
  rfl
theorem shiftE_len (far : Int) (es : List Evt) : (shiftE far es).length = es.length := List.length_map _
theorem ab_nm : Nm (Str.ofString "ab") := ⟨by decide +kernel, by decide +kernel, fun c hc => List.all_eq_true.mp (show (Str.ofString "ab").cps.toList.all small = true by decide +kernel) c hc⟩
structure BookC (far : Int) (zs : List Str) (es : List Evt) (rk : List (Str × Int)) (es' : List Evt) : Prop where
  rk : rk.map (·.1) = zs
  ls : ∃ ls, es' = shiftE far es ++ ls ∧ (∀ e ∈ ls, e.mv = false) ∧ ls.length ≤ 1
  lk : ∀ m, 0 ≤ m → (∀ x ∈ es, x.kn ≤ m) → ∀ e ∈ es', e.kn ≤ m
theorem shiftE_kn {far m : Int} {es : List Evt} (h : ∀ x ∈ es, x.kn ≤ m) : ∀ e ∈ shiftE far es, e.kn ≤ m := fun e he => by
  unfold shiftE at he
  obtain ⟨x, hx, rfl⟩ := List.mem_map.mp he
  exact h x hx
def spBookC (CB CH : Addr) : Sp := fun vs H Q _ => ∃ (n R : Addr) (far : Int) (zs : List Str) (es : List Evt), vs = [.ref n, .ref R, .int far] ∧ H n = some (.lst (zs.map V.str)) ∧ RowsC H R es ∧ Names zs ∧ zs.length ≤ 20 ∧ (∀ e ∈ es, RowOK zs e) ∧ Rising es ∧ es.length ≤ 20 ∧ 0 ≤ far ∧ far < 10 ^ 54 ∧
  ∀ (b : Addr) (rk : List (Str × Int)) (es' : List Evt) (fp : List Addr) (H' : Hp), Bk CB CH H' b rk es' fp → BookC far zs es rk es' → (∀ c ∈ fp, H c = none) → Same H H' → Q (.ref b) H'
def spMoves : Sp := fun vs H Q _ => ∃ (p n l : Addr) (zs ls : List Str), vs = [.ref p, .ref n, .ref l] ∧ Pot H p ∧ H n = some (.lst (zs.map V.str)) ∧ H l = some (.lst (ls.map V.str)) ∧ Names zs ∧ Names ls ∧ 0 < zs.length ∧ zs.length ≤ 20 ∧ 0 < ls.length ∧ ls.length ≤ 20 ∧
  ∀ (R : Addr) (es : List Evt) (H' : Hp), H R = none → RowsC H' R es → (∀ e ∈ es, RowOK zs e) → Rising es → 0 < es.length → es.length ≤ 14 → (∀ e ∈ es, e.kn ≤ 190) → Pot H' p → SameB p H H' → Q (.ref R) H'
end LT
set_option Elab.async false
set_option linter.all false
set_option maxRecDepth 100000
set_option maxHeartbeats 1600000
/-! Own layer: days over. -/
namespace LT
open PySem PySem.Spec PyProof.Rows L2 NdefX
theorem cov_up {β : Type} {fi : β → Int} {la : β → Option Int} {K : β → Int → Prop} : ∀ {S : List β} {f : Int}, Cov fi la K f S → (S.map fi).Pairwise (· < ·) ∧ ∀ b ∈ S, f ≤ fi b
  | [], _, h => h.elim
  | [b], f, ⟨a1, _, _⟩ => ⟨List.pairwise_singleton _ _, fun c hc => by rw [List.mem_singleton.mp hc, a1]; exact Int.le_refl _⟩
  | b :: c :: r, f, ⟨a1, e, a2, a3, a4, a5⟩ => by
    obtain ⟨i1, i2⟩ := cov_up a5
    refine ⟨?_, fun x hx => ?_⟩
    · rw [List.map_cons]
      refine List.pairwise_cons.mpr ⟨fun x hx => ?_, i1⟩
      obtain ⟨y, hy, rfl⟩ := List.mem_map.mp hx
      have := i2 y hy
      omega
    · rcases List.mem_cons.mp hx with h | h
      · rw [h, a1]
        exact Int.le_refl _
      · have := i2 x h
        omega
/-! ### out or ashore -/
def outB (es : List Evt) (z : Str) (kn : Option Int) (d : Int) : Bool := !decide (plE es z kn d = .str (Str.ofString ""))
def outV (es : List Evt) (z : Str) (kn : Option Int) (d : Int) : V := .bl (outB es z kn d)
theorem out_changes {P : Int → Prop} {es : List Evt} {z : Str} {kn : Option Int} {rs : List LT.Run} (R : RunsOf P (plE es z kn) rs) : (rs.map fun r => (rFi r, V.bl (!decide (r.1 = .str (Str.ofString ""))))) = chG (outV es z kn) (rs.map rFi) := by
  unfold chG
  rw [List.map_map]
  refine List.map_congr_left fun r hr => ?_
  obtain ⟨i, hi⟩ := List.getElem?_of_mem hr
  have := (R.cov.get i r hi).2.2.1 (rFi r) ⟨Int.le_refl _, fun e he => (R.cov.le r hr).2 e he⟩
  show _ = (rFi r, outV es z kn (rFi r))
  unfold outV outB
  rw [this]
theorem out_runs {P : Int → Prop} {es : List Evt} {z : Str} {kn : Option Int} {rs : List LT.Run} (R : RunsOf P (plE es z kn) rs) : RunsOf (fun _ => True) (outV es z kn) (runF (begF (.bl false) (chG (outV es z kn) (rs.map rFi)))) := by
  obtain ⟨up, lo⟩ := cov_up R.cov
  obtain ⟨b0, hb, eb⟩ := R.cov.hd
  have nn : ∀ d ∈ rs.map rFi, 0 ≤ d := fun d hd => by
    obtain ⟨r, hr, rfl⟩ := List.mem_map.mp hd
    exact lo r hr
  refine chG_runs (up.imp fun h => Int.le_of_lt h) (List.mem_map.mpr ⟨b0, List.mem_of_getElem? hb, eb⟩) nn fun m d hm md top => ?_
  unfold outV outB
  rw [runs_same R (fun r hr => List.mem_map.mpr ⟨r, hr, rfl⟩) (nn m hm) md top]
/-! ### spells up to a day -/
def cutL : Option Int → Int → Int
  | none, day => day
  | some e, day => if day < e then day else e
theorem cutL_min (x : Option Int) (day : Int) : minE x (some day) = some (cutL x day) := by cases x <;> rfl
def spF (day : Int) (rs : List LT.Run) : List LT.Run := (rs.filter fun r => decide (rFi r ≤ day)).map fun r => (r.1, r.2.1, some (cutL r.2.2 day))
def behindF (f l m : Int) : List LD.Row := if f + m ≤ l then [(f + m, some l)] else []
/-- the days over of one spell -/
def overS (term : Int) (r : LT.Run) : List LD.Row := if r.1 = .bl true then behindF r.2.1 (r.2.2.getD 0) term else []
def overR (day term : Int) (rs : List LT.Run) : List LD.Row := (spF day rs).flatMap (overS term)
theorem overR_cons (day term : Int) (r : LT.Run) (rs : List LT.Run) : overR day term (r :: rs) = (if rFi r ≤ day ∧ r.1 = .bl true then behindF (rFi r) (cutL (rLa r) day) term else []) ++ overR day term rs := by
  unfold overR spF
  rw [List.filter_cons]
  by_cases h : rFi r ≤ day
  · rw [decide_eq_true h, if_pos rfl, List.map_cons, List.flatMap_cons]
    congr 1
    unfold overS
    by_cases hb : r.1 = .bl true
    · rw [if_pos hb, if_pos ⟨h, hb⟩]
      rfl
    · rw [if_neg hb, if_neg fun q => hb q.2]
  · rw [decide_eq_false h, if_neg (by nofun), if_neg fun q => h q.1]
    rfl
/-- out on this day and on so many ahead of it -/
def Over (g : Int → Bool) (term d : Int) : Prop := 0 ≤ d - term ∧ ∀ x, d - term ≤ x → x ≤ d → g x = true
theorem ins_behind {f l m d : Int} : LD.Ins (behindF f l m) d ↔ f + m ≤ d ∧ d ≤ l := by
  unfold behindF
  by_cases h : f + m ≤ l
  · rw [if_pos h, ins_one]
    exact ⟨fun q => ⟨q.1, q.2 l rfl⟩, fun q => ⟨q.1, fun j hj => by cases hj; exact q.2⟩⟩
  · rw [if_neg h]
    exact ⟨fun q => absurd q ins_nil, fun q => absurd (Int.le_trans q.1 q.2) h⟩
theorem over_asc {g : Int → Bool} {day term : Int} (t0 : 0 ≤ term) : ∀ {rs : List LT.Run} {f : Int}, Cov rFi rLa (fun x d => V.bl (g d) = x.1) f rs → Un rs → 0 ≤ f → (f = 0 ∨ ∀ c, rs[0]? = some c → V.bl (g (f - 1)) ≠ c.1) →
    LD.Asc (overR day term rs) ∧ (∀ r ∈ overR day term rs, f ≤ r.1) ∧ (∀ c, rs[0]? = some c → ¬ c.1 = .bl true → ∀ r ∈ overR day term rs, f < r.1) ∧ ∀ d, f ≤ d → (LD.Ins (overR day term rs) d ↔ d ≤ day ∧ Over g term d)
  | [], _, h, _, _, _ => h.elim
  | [b], f, ⟨a1, a2, a3⟩, un, f0, hd => by
    obtain ⟨v, fi, la⟩ := b
    have a1 : fi = f := a1
    have a2 : la = none := a2
    subst a1 a2
    have ev : ∀ d, fi ≤ d → V.bl (g d) = v := fun d h => a3 d h
    have er : overR day term [(v, fi, none)] = if fi ≤ day ∧ v = .bl true then behindF fi day term else [] := by
      rw [overR_cons]
      show _ ++ [] = _
      rw [List.append_nil]
      rfl
    rw [er]
    by_cases hv : v = .bl true
    · have left : ∀ d, fi ≤ d → (Over g term d ↔ fi + term ≤ d) := fun d h => by
        constructor
        · rintro ⟨h1, h2⟩
          refine Classical.byContradiction fun hn => ?_
          rcases hd with e | e
          · omega
          · have h3 := h2 (fi - 1) (by omega) (by omega)
            have h4 := e _ rfl
            rw [h3] at h4
            exact h4 hv.symm
        · intro h1
          refine ⟨by omega, fun x h2 h3 => ?_⟩
          have := ev x (by omega)
          rw [hv] at this
          exact V.bl.inj this
      by_cases hday : fi ≤ day
      · rw [if_pos ⟨hday, hv⟩]
        refine ⟨?_, fun r hr => ?_, fun c hc hn => ?_, fun d h => ?_⟩
        · unfold behindF
          split
          · rename_i hl
            exact ⟨fun r hr => by rw [List.mem_singleton.mp hr]; exact ⟨by show 0 ≤ fi + term; omega, fun j hj => by cases hj; exact hl⟩, List.pairwise_singleton _ _⟩
          · exact ⟨(fun r hr => by cases hr), List.Pairwise.nil⟩
        · unfold behindF at hr
          split at hr
          · rw [List.mem_singleton.mp hr]
            show fi ≤ fi + term
            omega
          · cases hr
        · cases hc
          exact absurd hv hn
        · rw [ins_behind, left d h]
          exact ⟨fun q => ⟨q.2, q.1⟩, fun q => ⟨q.2, q.1⟩⟩
      · rw [if_neg fun q => hday q.1]
        exact ⟨⟨(fun r hr => by cases hr), List.Pairwise.nil⟩, (fun r hr => by cases hr), (fun _ _ _ r hr => by cases hr), fun d h => ⟨fun q => absurd q ins_nil, fun q => by omega⟩⟩
    · rw [if_neg fun q => hv q.2]
      refine ⟨⟨(fun r hr => by cases hr), List.Pairwise.nil⟩, (fun r hr => by cases hr), (fun _ _ _ r hr => by cases hr), fun d h => ⟨fun q => absurd q ins_nil, fun q => ?_⟩⟩
      have := ev d h
      rw [q.2.2 d (by omega) (Int.le_refl _)] at this
      exact absurd this.symm hv
  | b :: c :: rs, f, ⟨a1, e, a2, a3, a4, a5⟩, un, f0, hd => by
    have bc := un 0 b c rfl rfl
    obtain ⟨v, fi, la⟩ := b
    have a1 : fi = f := a1
    have a2 : la = some e := a2
    subst a1 a2
    have ev : ∀ d, fi ≤ d → d ≤ e → V.bl (g d) = v := fun d h1 h2 => a4 d h1 h2
    obtain ⟨A, lo, fst, ins⟩ := over_asc (day := day) t0 (rs := c :: rs) a5 un.tail (by omega) (.inr fun c' hc' => by
      cases hc'
      rw [show e + 1 - 1 = e by omega, ev e a3 (Int.le_refl _)]
      exact bc)
    rw [overR_cons]
    by_cases hv : v = .bl true
    · have hcn : ¬ c.1 = .bl true := fun h => bc (hv.trans h.symm)
      have gt := fst c rfl hcn
      have left : ∀ d, fi ≤ d → d ≤ e → (Over g term d ↔ fi + term ≤ d) := fun d h h' => by
        constructor
        · rintro ⟨h1, h2⟩
          refine Classical.byContradiction fun hn => ?_
          rcases hd with q | q
          · omega
          · have h3 := h2 (fi - 1) (by omega) (by omega)
            have h4 := q _ rfl
            rw [h3] at h4
            exact h4 hv.symm
        · intro h1
          refine ⟨by omega, fun x h2 h3 => ?_⟩
          have := ev x (by omega) (by omega)
          rw [hv] at this
          exact V.bl.inj this
      by_cases hday : fi ≤ day
      · rw [if_pos (show rFi (v, fi, some e) ≤ day ∧ v = .bl true from ⟨hday, hv⟩)]
        have hcut : cutL (some e) day ≤ e ∧ cutL (some e) day ≤ day ∧ (∀ d, d ≤ cutL (some e) day ↔ d ≤ e ∧ d ≤ day) := by
          rw [show cutL (some e) day = if day < e then day else e from rfl]
          split <;> refine ⟨by omega, by omega, fun d => by omega⟩
        show LD.Asc (behindF fi (cutL (some e) day) term ++ overR day term (c :: rs)) ∧ (∀ r ∈ behindF fi (cutL (some e) day) term ++ overR day term (c :: rs), fi ≤ r.1) ∧ (∀ c', ((v, fi, some e) :: c :: rs)[0]? = some c' → ¬ c'.1 = .bl true → ∀ r ∈ behindF fi (cutL (some e) day) term ++ overR day term (c :: rs), fi < r.1) ∧ ∀ d, fi ≤ d → (LD.Ins (behindF fi (cutL (some e) day) term ++ overR day term (c :: rs)) d ↔ d ≤ day ∧ Over g term d)
        have bm : ∀ r ∈ behindF fi (cutL (some e) day) term, r = (fi + term, some (cutL (some e) day)) ∧ fi + term ≤ cutL (some e) day := fun r hr => by
          unfold behindF at hr
          split at hr
          · exact ⟨List.mem_singleton.mp hr, by assumption⟩
          · cases hr
        generalize cutL (some e) day = k at *
        refine ⟨⟨fun r hr => ?_, List.pairwise_append.mpr ⟨?_, A.pw, fun r hr s hs => ?_⟩⟩, fun r hr => ?_, fun c' hc' hn => ?_, fun d h => ?_⟩
        · rcases List.mem_append.mp hr with hr | hr
          · obtain ⟨q1, q2⟩ := bm r hr
            rw [q1]
            exact ⟨by show 0 ≤ fi + term; omega, fun j hj => by cases hj; exact q2⟩
          · exact A.ok r hr
        · unfold behindF
          split
          · exact List.pairwise_singleton _ _
          · exact List.Pairwise.nil
        · obtain ⟨q1, q2⟩ := bm r hr
          have := gt s hs
          rw [q1]
          exact ⟨k, rfl, by omega⟩
        · rcases List.mem_append.mp hr with hr | hr
          · obtain ⟨q1, _⟩ := bm r hr
            rw [q1]
            show fi ≤ fi + term
            omega
          · have := lo r hr
            omega
        · cases hc'
          exact absurd hv hn
        · rw [ins_app, ins_behind]
          by_cases hde : d ≤ e
          · rw [left d h hde]
            constructor
            · rintro (⟨q1, q2⟩ | ⟨r, hr, q⟩)
              · exact ⟨((hcut.2.2 d).mp q2).2, q1⟩
              · have := lo r hr
                have := q.1
                omega
            · rintro ⟨q1, q2⟩
              exact .inl ⟨q2, (hcut.2.2 d).mpr ⟨hde, q1⟩⟩
          · rw [← ins d (by omega)]
            exact ⟨fun q => q.resolve_left fun ⟨_, q2⟩ => hde ((hcut.2.2 d).mp q2).1, .inr⟩
      · rw [if_neg (show ¬ (rFi (v, fi, some e) ≤ day ∧ v = .bl true) from fun q => hday q.1), List.nil_append]
        refine ⟨A, (fun r hr => by have := lo r hr; omega), fun c' hc' hn => absurd hv (by cases hc'; exact hn), fun d h => ?_⟩
        by_cases hde : d ≤ e
        · constructor
          · rintro ⟨r, hr, q⟩
            have := lo r hr
            have := q.1
            omega
          · rintro ⟨q, _⟩
            omega
        · exact ins d (by omega)
    · rw [if_neg (show ¬ (rFi (v, fi, some e) ≤ day ∧ v = .bl true) from fun q => hv q.2), List.nil_append]
      refine ⟨A, (fun r hr => by have := lo r hr; omega), (fun _ _ _ r hr => by have := lo r hr; omega), fun d h => ?_⟩
      by_cases hde : d ≤ e
      · constructor
        · rintro ⟨r, hr, q⟩
          have := lo r hr
          have := q.1
          omega
        · rintro ⟨_, q⟩
          have := ev d h hde
          rw [q.2 d (by have := q.1; omega) (Int.le_refl _)] at this
          exact absurd this.symm hv
      · exact ins d (by omega)
/-- the days over, one way only -/
structure IsOver (g : Int → Bool) (day term : Int) (rows : List LD.Row) : Prop where
  asc : LD.Asc rows
  ins : ∀ d, LD.Ins rows d ↔ 0 ≤ d ∧ d ≤ day ∧ Over g term d
theorem IsOver.uniq {g : Int → Bool} {day term : Int} {r s : List LD.Row} (a : IsOver g day term r) (b : IsOver g day term s) : r = s := LD.asc_uniq a.asc b.asc fun d => (a.ins d).trans (b.ins d).symm
theorem over_is {P : Int → Prop} {g : Int → Bool} {day term : Int} {rs : List LT.Run} (R : RunsOf P (fun d => .bl (g d)) rs) (t0 : 0 ≤ term) : IsOver g day term (overR day term rs) := by
  obtain ⟨A, lo, _, ins⟩ := over_asc (g := g) (day := day) t0 R.cov R.un (Int.le_refl 0) (.inl rfl)
  refine ⟨A, fun d => ⟨fun h => ?_, fun h => (ins d h.1).mpr h.2⟩⟩
  have d0 := asc_nn A h
  exact ⟨d0, (ins d d0).mp h⟩
/-! ### told later, told earlier: the same, moved -/
end LT
set_option Elab.async false
set_option linter.all false
set_option maxRecDepth 100000
set_option maxHeartbeats 1600000
/-! Own layer: entries: dicts locked, many at once; all that was told of one. -/
namespace LT
open PySem PySem.Spec PyProof.Rows L2 NdefX
/-! ### many locks -/
def tLocksE : Nat → TE → TE
  | 0, t => t
  | n + 1, t => tLockE (tLocksE n t)
def tLockM (t : TE) : TE := fun σ H Q => ∃ n, tLocksE n t σ H Q
theorem pe_locks {X : Cx} {e : Expr} {t : TE} (h : PE X e t) : ∀ n, PE X e (tLocksE n t)
  | 0 => h
  | n + 1 => pe_lock (pe_locks h n)
theorem pe_lockM {X : Cx} {e : Expr} {t : TE} (h : PE X e t) : PE X e (tLockM t) := ⟨fun pins s σ H Q I hw => by
  obtain ⟨n, hw⟩ := hw
  exact (pe_locks h n).run pins s σ H Q I hw⟩
def LockedAll (H Hl : Hp) (ds : List Addr) : Prop := (∀ d ∈ ds, ∃ od u, H d = some u ∧ Hl d = some (.frz od u)) ∧ ∀ a, a ∉ ds → Hl a = H a
def unlockAll (H H' : Hp) (ds : List Addr) : Hp := fun a => if a ∈ ds then H a else H' a
theorem locksE {t : TE} {σ : L2.St} : ∀ (ds : List Addr) (H : Hp) (Q : VK), ds.Nodup → (∀ d ∈ ds, ∃ u, H d = some u ∧ L2.Mut (some u)) →
    (∀ Hl, LockedAll H Hl ds → ∀ Q' : VK, (∀ v H', (∀ d ∈ ds, H' d = Hl d) → Q v (unlockAll H H' ds) → Q' v H') → t σ Hl Q') → tLocksE ds.length t σ H Q
  | [], H, Q, _, _, h => h H ⟨nofun, fun _ _ => rfl⟩ Q fun v H' _ q => by
      have e : unlockAll H H' [] = H' := funext fun a => if_neg nofun
      rw [e] at q
      exact q
  | d :: ds, H, Q, nd, hd, h => by
    have nd' := List.nodup_cons.mp nd
    obtain ⟨u, hu, mu⟩ := hd d List.mem_cons_self
    refine ⟨d, u, hu, mu, fun od => ?_⟩
    have hne : ∀ c ∈ ds, c ≠ d := fun c hc e => nd'.1 (e ▸ hc)
    refine locksE ds (L2.upd H d (.frz od u)) _ nd'.2 (fun c hc => ?_) fun Hl hl Q' hq => ?_
    · rw [upd_ne (hne c hc)]
      exact hd c (List.mem_cons_of_mem _ hc)
    · have ed : Hl d = some (.frz od u) := by rw [hl.2 d nd'.1, upd_same]
      refine h Hl ⟨fun c hc => ?_, fun a ha => ?_⟩ Q' fun v H' hk q => ?_
      · rcases List.mem_cons.mp hc with rfl | hc
        · exact ⟨od, u, hu, ed⟩
        · obtain ⟨oc, uc, h1, h2⟩ := hl.1 c hc
          rw [upd_ne (hne c hc)] at h1
          exact ⟨oc, uc, h1, h2⟩
      · rw [hl.2 a fun h => ha (List.mem_cons_of_mem _ h), upd_ne (fun e => ha (by rw [e]; exact List.mem_cons_self))]
      · refine hq v H' (fun c hc => hk c (List.mem_cons_of_mem _ hc)) ⟨?_, ?_⟩
        · show (if d ∈ ds then _ else H' d) = _
          rw [if_neg nd'.1, hk d List.mem_cons_self, ed]
        · have e : L2.upd (unlockAll (L2.upd H d (.frz od u)) H' ds) d u = unlockAll H H' (d :: ds) := funext fun a => by
            by_cases ha : a = d
            · subst ha
              rw [upd_same]
              show _ = if a ∈ a :: ds then H a else H' a
              rw [if_pos List.mem_cons_self, hu]
            · rw [upd_ne ha]
              show (if a ∈ ds then L2.upd H d (.frz od u) a else H' a) = if a ∈ d :: ds then H a else H' a
              by_cases hs : a ∈ ds
              · rw [if_pos hs, if_pos (List.mem_cons_of_mem _ hs), upd_ne ha]
              · rw [if_neg hs, if_neg fun h => (List.mem_cons.mp h).elim ha hs]
          rw [e]
          exact q
/-- what had not been there stays so; what was there is as it was -/
theorem unlock_same {H Hl H' : Hp} {ds : List Addr} (hl : LockedAll H Hl ds) (s : Same Hl H') : Same H (unlockAll H H' ds) := fun a o e => by
  show (if a ∈ ds then H a else H' a) = some o
  by_cases h : a ∈ ds
  · rw [if_pos h]
    exact e
  · rw [if_neg h]
    exact s a o (by rw [hl.2 a h]; exact e)
theorem unlock_new {H Hl H' : Hp} {ds : List Addr} {a : Addr} {o : HO} (hl : LockedAll H Hl ds) (hn : Hl a = none) (e : H' a = some o) : unlockAll H H' ds a = some o := by
  show (if a ∈ ds then H a else H' a) = some o
  rw [if_neg fun h => by
    obtain ⟨_, _, _, h2⟩ := hl.1 a h
    rw [hn] at h2
    cases h2]
  exact e
/-- a walk's own count -/
theorem walkW {J : It} {n : Nat} {G : Hp → Prop} {Y : Nat → Hp → V → Hp → Prop} (w : Walk J n G Y) {H0 : Hp} {Done : Hp → Prop} {Step : V → Hp → (Hp → Prop) → Prop} (Pv : Nat → Hp → Prop) (h0 : Pv 0 H0) (hg : ∀ i H, i ≤ n → Pv i H → G H)
    (hs : ∀ i x H H', i < n → Pv i H → Y i H x H' → Step x H' (Pv (i + 1))) (hd : ∀ H, Pv n H → Done H) :
    ∃ W : Nat → Nat → Hp → Prop, (∃ m, W 0 m H0) ∧ ∀ i m H, W i m H → (J.stop i H ∧ Done H) ∨ (J.go i H ∧ ∃ Nx : Hp → Prop, (∀ H', Nx H' → ∃ m', m' < m ∧ W (i + 1) m' H') ∧ ∀ x H', J.yld i H x H' → Step x H' Nx) := by
  refine ⟨fun i m H => m = n - i ∧ i ≤ n ∧ Pv i H, ⟨n, by simp, Nat.zero_le _, h0⟩, ?_⟩
  rintro i m H ⟨rfl, hi, p⟩
  have g := hg i H hi p
  by_cases hlt : i < n
  · exact .inr ⟨w.goes i H hlt g, Pv (i + 1), fun H' p' => ⟨n - (i + 1), by omega, rfl, hlt, p'⟩, fun x H' y => hs i x H H' hlt p (w.yields i H x H' hlt g y)⟩
  · have e : i = n := by omega
    subst e
    exact .inl ⟨w.stops H g, hd H p⟩
/-! ### all that was told, day by day -/
def flatH (h : Hist) : List (Int × Int × V) := h.flatMap fun p => p.2.map fun q => (q.1, p.1, q.2)
theorem flatH_snoc {h : Hist} {i : Nat} {e : Int × Told} (he : h[i]? = some e) : flatH (h.take (i + 1)) = flatH (h.take i) ++ e.2.map fun q => (q.1, e.1, q.2) := by
  unfold flatH
  rw [take_snoc he, List.flatMap_append, List.flatMap_cons, List.flatMap_nil, List.append_nil]
theorem flatH_take (h : Hist) (i : Nat) : (flatH (h.take i)).length ≤ (flatH h).length := by
  have e : flatH h = flatH (h.take i) ++ flatH (h.drop i) := by
    unfold flatH
    rw [← List.flatMap_append, List.take_append_drop]
  rw [e, List.length_append]
  omega
def TellT (H : Hp) (t : Addr) (e : Int × Int × V) : Prop := H t = some (.tup [.int e.1, .int e.2.1, e.2.2])
theorem TellT.unlock {H Hl H' : Hp} {ds : List Addr} {t : Addr} {e : Int × Int × V} (hl : LockedAll H Hl ds) (s : Same Hl H') (h : TellT H' t e) : TellT (unlockAll H H' ds) t e := by
  show (if t ∈ ds then H t else H' t) = _
  rw [if_neg fun hm => by
    obtain ⟨_, _, _, h2⟩ := hl.1 t hm
    have h3 := s _ _ h2
    have h4 : H' t = some (.tup [.int e.1, .int e.2.1, e.2.2]) := h
    rw [h4] at h3
    cases h3]
  exact h
theorem unlock_none {H Hl : Hp} {ds : List Addr} {a : Addr} (hl : LockedAll H Hl ds) (n : Hl a = none) : H a = none := by
  by_cases h : a ∈ ds
  · obtain ⟨_, _, _, h2⟩ := hl.1 a h
    rw [n] at h2
    cases h2
  · rw [← hl.2 a h]
    exact n
def histN (h : Hist) : Nat := (flatH h).length
def spAllTold (C : Addr) : Sp := fun vs H Q _ => ∃ (a : HA), vs = [.ref a.x] ∧ HistAt C H a ∧ histN a.h ≤ 2000 ∧ ∀ (l : Addr) (ts : List Addr) (H' : Hp), H l = none → H' l = some (.lst (ts.map V.ref)) → Paired (TellT H') ts (flatH a.h) → Same H H' → Q (.ref l) H'
end LT
set_option Elab.async false
set_option linter.all false
set_option maxRecDepth 100000
set_option maxHeartbeats 1600000
/-! Own layer: sorted by keys that are tuples, made anew by each call of the key. -/
namespace LT
open PySem PySem.Spec PyProof.Rows L2
/-- what stands in a key -/
def Flt : V → Prop
  | .int _ => True
  | .str _ => True
  | .non => True
  | _ => False
def fltD : V → PyData
  | .int i => .int i
  | .str z => .str z
  | _ => .none
def keyD (ys : List V) : PyData := .tuple (ys.map fltD)
theorem fltD_dp {K : PySem.W.Frag} {H : Hp} {v : V} (h : Flt v) : Dp K H v (fltD v) := by
  cases v with
  | int i => exact .int i
  | str z => exact .str z
  | non => exact .non
  | _ => exact h.elim
theorem fltD_all {K : PySem.W.Frag} {H : Hp} : ∀ {ys : List V}, (∀ y ∈ ys, Flt y) → DpAll K H ys (ys.map fltD)
  | [], _ => .nil
  | y :: ys, h => .cons (fltD_dp (h y (.head _))) (fltD_all fun z hz => h z (.tail _ hz))
theorem fltD_depth : ∀ ys : List V, PyData.depthAll (ys.map fltD) ≤ 1
  | [] => by simp [PyData.depthAll]
  | y :: ys => by
    have := fltD_depth ys
    rw [List.map_cons, PyData.depthAll]
    have h1 : (fltD y).depth ≤ 1 := by cases y <;> simp [fltD, PyData.depth]
    omega
theorem keyD_depth (ys : List V) : (keyD ys).depth ≤ 3 := by
  have := fltD_depth ys
  unfold keyD
  rw [PyData.depth]
  omega
section
variable {X : Cx} {pins : List (Addr × Obj)} {σ : L2.St} {H : Hp} {s : Shared}
theorem sort_keyedT {xs : List V} {us : List Value} {key : V → List V} {f : Value} {g : Heap} {E' : Value → Shared → Prop} {A : Around} {R : PySem.Fin → Shared → Prop} (I : Inv X pins σ H { s with heap := g }) (hv : Vals xs us) (hz : us.length ≤ sizeLine) (hu : A.units + 64 < cLine) (hfl : ∀ v ∈ xs, ∀ y ∈ key v, Flt y)
    (hal : PySem.W.AllAlike (xs.map fun v => keyD (key v))) (hso : PySem.W.Sortable (xs.map fun v => keyD (key v)))
    (turn : ∀ (pins' : List (Addr × Obj)) (H' : Hp) (s' : Shared) (v : V) (u : Value), (∀ p ∈ pins, p ∈ pins') → Same H H' → Inv X pins' σ H' s' → v ∈ xs → RelV v u →
      wpAny (model X.prog X.w) A (call f [u]) (fun z s'' => ∃ T H'', z = .ref T ∧ Same H' H'' ∧ H'' T = some (.tup (key v)) ∧ Inv X pins' σ H'' s'') (fun _ _ => False) s')
    (fin : ∀ s' H', Same H H' → H' g.objs.size = none → Inv X pins σ (upd H' g.objs.size (.lst (xs.mergeSort (PySem.W.dataLe false fun v => keyD (key v))))) s' → R (.done (.ret .none)) s') :
    wpAny (model X.prog X.w) A (ksk_tree g.objs.size f false) R E' { s with heap := g.push (seqObj "list" us.toArray 0) } := by
  have ho : (g.push (seqObj "list" us.toArray 0)).get? g.objs.size = some (seqObj "list" us.toArray 0) := Heap.get?_push_size _ rfl
  obtain ⟨e1, ho1⟩ : ∃ e1, ((g.push (seqObj "list" us.toArray 0)).update g.objs.size (Obj.mapSeq fun _ => (#[] : Array Value))).get? g.objs.size = some (seqObj "list" #[] e1) := ⟨_, get?_update_seq ho fun _ => #[]⟩
  have fa0 : FpOk X pins H g.objs.size := I.fpOk (Nat.le_refl _) (I.hok.fresh (Nat.le_refl _))
  generalize ea : g.objs.size = a at *
  have old : ∀ b u, g.get? b = some u → ((g.push (seqObj "list" us.toArray 0)).update a (Obj.mapSeq fun _ => (#[] : Array Value))).get? b = some u := fun b u e => by
    rw [Heap.get?_update_ne _ _ _ _ (by rw [← ea]; exact Nat.ne_of_lt (Heap.lt_size e))]
    exact Heap.get?_push_of_some _ e
  have hs1 : ((g.push (seqObj "list" us.toArray 0)).update a (Obj.mapSeq fun _ => (#[] : Array Value))).objs.size = a + 1 := by rw [Heap.size_update, size_push', ea]
  unfold ksk_tree
  refine wpAny_bind (listItems_at ho rfl ?_)
  refine wpAny_bind (listUpdate_at ho rfl ?_ (by rw [List.size_toArray]; exact hz) (Nat.zero_le _))
  refine wpAny_bind (seqEpoch_at ho1 rfl ?_)
  refine wpAny_bind (wpAny_newTuple ?_ (by show us.length ≤ _; exact hz))
  refine wpAny_bind (wpAny_newList ?_ (Nat.zero_le _))
  refine wpAny_holding ?_
  generalize eg1 : (g.push (seqObj "list" us.toArray 0)).update a (Obj.mapSeq fun _ => (#[] : Array Value)) = g1 at *
  have hs2 : (g1.push (seqObj "tuple" us.toArray 0)).objs.size = a + 2 := by rw [size_push', hs1]
  have nk : ((g1.push (seqObj "tuple" us.toArray 0)).push (seqObj "list" #[] 0)).get? (a + 2) = some (seqObj "list" #[] 0) := by
    rw [← hs2]
    exact Heap.get?_push_size _ rfl
  have na : ((g1.push (seqObj "tuple" us.toArray 0)).push (seqObj "list" #[] 0)).get? a = some (seqObj "list" #[] e1) := Heap.get?_push_of_some _ (Heap.get?_push_of_some _ ho1)
  have old2 : ∀ b u, g.get? b = some u → ((g1.push (seqObj "tuple" us.toArray 0)).push (seqObj "list" #[] 0)).get? b = some u := fun b u e => Heap.get?_push_of_some _ (Heap.get?_push_of_some _ (old b u e))
  show wpAny (model X.prog X.w) A (ksk_rest a f false us.toArray _ (.ref (g1.push (seqObj "tuple" us.toArray 0)).objs.size)) _ _ _
  rw [hs2]
  generalize (g1.push (seqObj "tuple" us.toArray 0)).push (seqObj "list" #[] 0) = g2 at *
  have I2 : Inv X pins σ H { s with heap := g2 } := by
    have := I.kept (h' := g2) (t' := s.toks) old2
    exact this
  have fk0 : FpOk X pins H (a + 2) := I.fpOk (by show g.objs.size ≤ a + 2; omega) (I.hok.fresh (by show g.objs.size ≤ a + 2; omega))
  have pinA : ∀ {s' : Shared}, Inv X pins σ H s' → s'.heap.get? a = some (seqObj "list" #[] e1) → Inv X ((a, seqObj "list" #[] e1) :: pins) σ H s' := fun {s'} J e => J.pins_of fun p hp => by
    rcases List.mem_cons.mp hp with rfl | hp
    · exact ⟨e, fa0.1, fa0.2.1, fa0.2.2.1, fun v z => nomatch z⟩
    · exact J.pin p (List.mem_append_right _ hp)
  have fk : FpOk X ((a, seqObj "list" #[] e1) :: pins) H (a + 2) := ⟨fk0.1, fk0.2.1, fk0.2.2.1, fk0.2.2.2.1, fk0.2.2.2.2.1, fun p hp => by
    rcases List.mem_append.mp hp with h | h
    · exact fk0.2.2.2.2.2 p (List.mem_append_left _ h)
    · rcases List.mem_cons.mp h with rfl | h
      · show a ≠ a + 2
        omega
      · exact fk0.2.2.2.2.2 p (List.mem_append_right _ h)⟩
  have hlen : us.length = xs.length := hv.length.symm
  unfold ksk_rest
  refine wpAny_bind (wpAny_rule ?_)
  rw [List.forIn_toArray]
  refine wpAny_bind (ksk_fold (fun i s' => ∃ (kA : Array Value) (e : Nat) (Hj : Hp), Same H Hj ∧ Hj (a + 2) = none ∧ Inv X ((a, seqObj "list" #[] e1) :: pins) σ Hj s' ∧ s'.heap.get? (a + 2) = some (seqObj "list" kA e) ∧ PySem.W.EachIs (fun u (v : V) => ∃ T, u = Value.ref T ∧ Hj T = some (.tup (key v))) kA.toList (xs.take i)) us 0 _
    ⟨#[], 0, H, Same.refl _, fk0.1, pinA I2 na, nk, by rw [List.take_zero]; exact .nil⟩ ?step ?done)
  case step =>
    rintro j u s' hj ⟨kA, e, Hj, sHj, nHj, J, nk', hk⟩
    simp only [Nat.zero_add] at hk ⊢
    have fkj : FpOk X ((a, seqObj "list" #[] e1) :: pins) Hj (a + 2) := ⟨nHj, fk.2⟩
    have hjl : j < us.length := (List.getElem?_eq_some_iff.mp hj).1
    obtain ⟨v, hvj⟩ : ∃ v, xs[j]? = some v := ⟨_, List.getElem?_eq_getElem (by omega)⟩
    have r : RelV v u := vals_at hv j hvj hj
    have hzA : kA.size ≤ us.length := by
      have h1 := hk.length
      rw [Array.length_toList, List.length_take] at h1
      omega
    have J2 : Inv X ((a + 2, seqObj "list" kA e) :: (a, seqObj "list" #[] e1) :: pins) σ Hj s' := J.pins_of fun p hp => by
      rcases List.mem_cons.mp hp with rfl | hp
      · exact ⟨nk', fkj.1, fkj.2.1, fkj.2.2.1, fun v z => nomatch z⟩
      · exact J.pin p (List.mem_append_right _ hp)
    refine wpAny_bind (wpAny_attempt (wpAny_mono (turn _ Hj s' v u (fun p hp => .tail _ (.tail _ hp)) sHj J2 (List.mem_of_getElem? hvj) r) (fun z s'' hq => ?_) fun _ _ hF => hF.elim))
    obtain ⟨T, H3, rfl, s3, eT, J3⟩ := hq
    have pk3 := J3.pin (a + 2, seqObj "list" kA e) (List.mem_append_right _ (.head _))
    have n3 : H3 (a + 2) = none := pk3.2.1
    have fk3 : FpOk X ((a, seqObj "list" #[] e1) :: pins) H3 (a + 2) := ⟨n3, fk.2⟩
    have nk3 := (J3.pin (a + 2, seqObj "list" kA e) (List.mem_append_right _ (.head _))).1
    have J4 : Inv X ((a, seqObj "list" #[] e1) :: pins) σ H3 s'' := J3.pins_of fun p hp => J3.pin p (List.mem_append_right _ (.tail _ hp))
    obtain ⟨c2, hc2⟩ : ∃ c2, (s''.heap.update (a + 2) (Obj.mapSeq (·.push (.ref T)))).get? (a + 2) = some (seqObj "list" (kA.push (.ref T)) c2) := ⟨_, get?_update_seq nk3 (·.push (.ref T))⟩
    have sb := Heap.SameBut.update s''.heap (a + 2) (Obj.mapSeq (·.push (.ref T)))
    try dsimp only
    refine wpAny_bind (listUpdate_at nk3 rfl ?_ (Nat.le_trans hzA hz) (Nat.le_trans (Nat.le_of_eq (Array.size_push ..)) (Nat.succ_le_succ (Nat.le_trans hzA hz))))
    have J5 : Inv X ((a, seqObj "list" #[] e1) :: pins) σ H3 { s'' with heap := s''.heap.update (a + 2) (Obj.mapSeq (·.push (.ref T))) } := by
      have := J4.turnedL (h' := s''.heap.update (a + 2) (Obj.mapSeq (·.push (.ref T)))) (t' := s''.toks) (ch := [a + 2]) (fun b o hb q => (sb.2 b fun z => hb (by rw [z]; exact List.mem_singleton.mpr rfl)).trans q) (fun b hb => by rw [List.mem_singleton.mp hb]; exact fk3)
      exact this
    refine wpAny_pure ⟨rfl, kA.push (.ref T), c2, H3, sHj.trans s3, n3, J5, hc2, ?_⟩
    have ek : xs.take (j + 1) = xs.take j ++ [v] := by rw [List.take_add_one, hvj]; rfl
    rw [Array.toList_push, ek]
    refine PySem.W.each_snoc (R := fun (u : Value) (v : V) => ∃ T, u = Value.ref T ∧ H3 T = some (.tup (key v))) ⟨T, rfl, eT⟩ ?_
    have up : ∀ {us : List Value} {ys : List V}, PySem.W.EachIs (fun u (v : V) => ∃ T, u = Value.ref T ∧ Hj T = some (.tup (key v))) us ys → PySem.W.EachIs (fun u (v : V) => ∃ T, u = Value.ref T ∧ H3 T = some (.tup (key v))) us ys := by
      intro us ys h
      induction h with
      | nil => exact .nil
      | cons h _ ih =>
        obtain ⟨T, e1, e2⟩ := h
        exact .cons ⟨T, e1, s3 _ _ e2⟩ ih
    exact up hk
  case done =>
    rintro s' ⟨kA, e, Hj, sHj, nHj, J, nk', hk⟩
    have hk1 : PySem.W.EachIs (fun u (v : V) => ∃ T, u = Value.ref T ∧ Hj T = some (.tup (key v))) kA.toList xs := by
      have e3 : xs.take (0 + us.length) = xs := List.take_of_length_le (by omega)
      rw [e3] at hk
      exact hk
    have hsz : kA.size = us.length := by
      have h1 := hk1.length
      rw [Array.length_toList] at h1
      omega
    have pa := J.pin (a, seqObj "list" #[] e1) (List.mem_append_right _ (.head _))
    have na' := pa.1
    have nHa : Hj a = none := pa.2.1
    have hk2 : PySem.W.EachIs (fun v d => ∃ as, Reads s'.heap v d as) kA.toList (xs.map fun v => keyD (key v)) := by
      have h2 : ∀ (us : List Value) (ys : List V), (∀ v ∈ ys, ∀ y ∈ key v, Flt y) → PySem.W.EachIs (fun u (v : V) => ∃ T, u = Value.ref T ∧ Hj T = some (.tup (key v))) us ys → PySem.W.EachIs (fun v d => ∃ as, Reads s'.heap v d as) us (ys.map fun v => keyD (key v)) := by
        intro us ys hf h
        induction ys generalizing us with
        | nil => cases h; exact .nil
        | cons y ys ih =>
          cases h with
          | cons h t =>
            obtain ⟨T, rfl, eT⟩ := h
            exact .cons (Dp.reads J _ (.ref T) _ (.tup (SqT.of eT) (fltD_all fun z hz => hf y (.head _) z hz)) rfl) (ih _ (fun v hv => hf v (.tail _ hv)) t)
      exact h2 _ _ hfl hk1
    have hdp : ∀ d, d ∈ (xs.map fun v => keyD (key v)) → A.units + d.depth < cLine := fun d hd => by
      obtain ⟨v, _, rfl⟩ := List.mem_map.mp hd
      have := keyD_depth (key v)
      omega
    have sb := Heap.SameBut.update s'.heap (a + 2) fun o => { o with data := .freed }
    have kp : PySem.W.KeepsBut a (s'.heap.update (a + 2) fun o => { o with data := .freed }) s'.heap := fun b o hb q => by
      by_cases hb2 : b = a + 2
      · rw [hb2, freed_get] at q
        cases q
      · exact ((sb.2 b hb2).symm.trans q)
    try dsimp only
    refine wpAny_bind (listItems_at nk' rfl ?_)
    refine PySem.W.keyH_end (κ := PySem.W.dataKind s'.heap (xs.map fun v => keyD (key v))) (h₁ := s'.heap.update (a + 2) fun o => { o with data := .freed }) kp freed_get nk' na' (show a + 2 ≠ a by omega) (PySem.W.SortsAt.data (s := s') hk2 hal hso hdp) hsz hz fun h3 tk3 c k3 n3 => ?_
    have ko : PySem.W.KeyedOut false (xs.map fun v => keyD (key v)) us (PySem.W.sortVals (PySem.W.dataKind s'.heap (xs.map fun v => keyD (key v))) false kA.toList us) := ⟨s'.heap, kA.toList, hal, rfl, hk2⟩
    have hR : PySem.W.EachIs (fun (u : Value) (v : V) => RelV v u) us xs := by
      have h2 : ∀ (xs : List V) (us : List Value), Vals xs us → PySem.W.EachIs (fun (u : Value) (v : V) => RelV v u) us xs := by
        intro xs us h
        induction h with
        | nil => exact .nil
        | cons a _ ih => exact .cons a ih
      exact h2 _ _ hv
    have hO := PySem.W.keyedOut_each (fun v => keyD (key v)) ko hR
    have hV : Vals (xs.mergeSort (PySem.W.dataLe false fun v => keyD (key v))) (PySem.W.sortVals (PySem.W.dataKind s'.heap (xs.map fun v => keyD (key v))) false kA.toList us) := by
      have h2 : ∀ (us : List Value) (xs : List V), PySem.W.EachIs (fun (u : Value) (v : V) => RelV v u) us xs → Vals xs us := by
        intro us xs h
        induction h with
        | nil => exact .nil
        | cons a _ ih => exact .cons a ih
      exact h2 _ _ hO
    have J1 : Inv X pins σ Hj s' := J.pins_of fun p hp => J.pin p (List.mem_append_right _ (.tail _ hp))
    have J6 := J1.turnedL (h' := h3) (t' := tk3) (ch := [a, a + 2]) (fun b o hb q => by
      have n1 : b ≠ a := fun z => hb (by rw [z]; exact .head _)
      have n2 : b ≠ a + 2 := fun z => hb (by rw [z]; exact .tail _ (.head _))
      exact k3 b o n1 ((sb.2 b n2).trans q)) (fun b hb => by
      rcases List.mem_cons.mp hb with rfl | hb
      · exact ⟨nHa, fa0.2⟩
      · rw [List.mem_singleton.mp hb]
        exact ⟨nHj, fk0.2⟩)
    refine fin _ Hj sHj nHa (inv_track J6 ⟨nHa, fa0.2⟩ hV ?_ n3)
    rw [List.length_mergeSort]
    omega
end
end LT
set_option Elab.async false
set_option linter.all false
set_option maxRecDepth 100000
set_option maxHeartbeats 1600000
/-! Own layer: sorted(e, key=lambda x: a new tuple). -/
namespace LT
open PySem PySem.Spec PyProof.Rows L2 LamX
def tSortLamT (K : PySem.W.Frag) (T : List (Addr × Str)) (ta : TA) (tb : TE) : TE := fun σ H Q => ta σ H (oneOf fun z H1 => Tabs T H1 ∧ ∃ (q : Addr) (xs : List V) (key : V → List V), z = .ref q ∧ (SqL K H1 q xs ∨ SqT K H1 q xs) ∧ (∀ v ∈ xs, ∀ y ∈ key v, Flt y) ∧ PySem.W.AllAlike (xs.map fun v => keyD (key v)) ∧ PySem.W.Sortable (xs.map fun v => keyD (key v)) ∧
    ∀ H2, ExtN H1 H2 → Tabs T H2 → (∀ v ∈ xs, ∀ H3, Same H2 H3 → ∀ Q' : VK, (∀ u, H3 u = none → Q' (.ref u) (upd H3 u (.tup (key v)))) → tb (some v :: σ) H3 Q') ∧ ∀ l H3, Same H2 H3 → H3 l = none → Q (.ref l) (upd H3 l (.lst (xs.mergeSort (PySem.W.dataLe false fun v => keyD (key v))))))
section
variable {X : Cx}
/-- sorted(e, key=lambda x: body) -/
theorem pe_sortedLamT {T : List (Addr × Str)} {c P : Addr} {x : Str} {k : Nat} {params : Arguments} {body e : Expr} {scope : Scope} {ta : TA} {tb : TE} {p lpos kpos pos : Pos} (hg : Gl X "sorted") (hm : X.mg "sorted" = none) (ha : PA X [e] ta)
    (hst : X.stack = X.env :: X.outer) (hfr : X.env.frame = some X.env.locals) (TB : TabB X.base X.mg c P) (hcode : X.env.code = .ref c) (hmT : (P, X.env.qual ++ "<lambda>") ∈ T) (hu : ∀ p ∈ T, p.1 = P → p.2 = X.env.qual ++ "<lambda>")
    (L : LamP X.env.scope scope x) (hx : x ∉ X.N) (hdef : defaultsOf params X.env = ([], [])) (hbind : ∀ (q : Str) (cl : List (Str × Addr)) (pm cv ctv u : Value), bindArgs (PySem.W.kla_fn "<lambda>" q params body scope cl pm cv ctv) ⟨[u], []⟩ = pure [(x, u)]) (hr : Room (k + 8) X.A)
    (hbody : ∀ (A : Around) (outer : List Env) (s : Shared) (H : Hp) (f c' : Addr), Room k (A.deeper (lamEnv X scope s.heap.objs.size f c')) → PE (lamCxP noX X A outer s H noE scope f c' x) body tb)
    (hv : bootBuiltins "sorted" = some (.builtin "sorted"))
    (he : backTo pos (starEach [e] X.env) = (false, eval e X.env) :: backTo pos (starEach [] X.env) := by rfl) (hpl : (backTo pos (starEach [e] X.env)).any (·.1) = false := by rfl)  :
    PE X (.Call (.Name "sorted" p) [e] [⟨some "key", .Lambda params body scope lpos, kpos⟩] pos) (tSortLamT X.K T ta tb) := by
  refine ⟨fun pins s σ H Q I h => ?_⟩
  refine wpAny_Call_Name_kw (ld_blt I hg hm hv ?_)
  refine PyProof.Rows.callWith_kw (thn (ha.run pos pins s σ H (oneOf fun z H1 => Tabs T H1 ∧ ∃ (q : Addr) (xs : List V) (key : V → List V), z = .ref q ∧ (SqL X.K H1 q xs ∨ SqT X.K H1 q xs) ∧ (∀ v ∈ xs, ∀ y ∈ key v, Flt y) ∧ PySem.W.AllAlike (xs.map fun v => keyD (key v)) ∧ PySem.W.Sortable (xs.map fun v => keyD (key v)) ∧
    ∀ H2, ExtN H1 H2 → Tabs T H2 → (∀ v ∈ xs, ∀ H3, Same H2 H3 → ∀ Q' : VK, (∀ u, H3 u = none → Q' (.ref u) (upd H3 u (.tup (key v)))) → tb (some v :: σ) H3 Q') ∧ ∀ l H3, Same H2 H3 → H3 l = none → Q (.ref l) (upd H3 l (.lst (xs.mergeSort (PySem.W.dataLe false fun v => keyD (key v)))))) I h) fun us s1 ⟨vs, H1, I1, r1, q1⟩ => ?_) he hpl (by rfl) (by rfl)
  match vs, q1 with
  | [z], q1 =>
  have q1 : Tabs T H1 ∧ ∃ (q : Addr) (xs : List V) (key : V → List V), z = .ref q ∧ (SqL X.K H1 q xs ∨ SqT X.K H1 q xs) ∧ (∀ v ∈ xs, ∀ y ∈ key v, Flt y) ∧ PySem.W.AllAlike (xs.map fun v => keyD (key v)) ∧ PySem.W.Sortable (xs.map fun v => keyD (key v)) ∧
    ∀ H2, ExtN H1 H2 → Tabs T H2 → (∀ v ∈ xs, ∀ H3, Same H2 H3 → ∀ Q' : VK, (∀ u, H3 u = none → Q' (.ref u) (upd H3 u (.tup (key v)))) → tb (some v :: σ) H3 Q') ∧ ∀ l H3, Same H2 H3 → H3 l = none → Q (.ref l) (upd H3 l (.lst (xs.mergeSort (PySem.W.dataLe false fun v => keyD (key v))))) := q1
  show wpAny _ _ (evalAll ((do let v ← eval (.Lambda params body scope lpos) X.env; standAt pos; pure v) :: (backToKw pos (keywordEach [] X.env)).map (·.2))) _ _ s1
  obtain ⟨hT, q, xs, key, rfl, hq, hfl, hal, hso, h2⟩ := q1
  refine wpAny_evalAll_cons (wpAny_bind (lam_make2 I1 TB hcode hmT hu hT hdef (L.has I1.ok) fun f c' pm ctv H2 s2 I2 eN T2 hf hfn hfs hco => wpAny_bind (wpAny_standAt (wpAny_pure ?_))))
  refine wpAny_evalAll_nil ?_
  obtain ⟨hb, hQ⟩ := h2 H2 eN T2
  obtain ⟨n1, n2⟩ := stk_free hst hfr hfs
  have I3 : Inv X ((f, PySem.W.kla_obj "<lambda>" (X.env.qual ++ "<lambda>") params body scope (cloFrom X.env.cells scope.names []) pm c' ctv) :: pins) σ H2 s2 := I2.pins_of fun p hp => by
    rcases List.mem_cons.mp hp with rfl | hp
    · exact ⟨hf, hfn, n1, n2, fun v z => nomatch z⟩
    · exact I2.pin p (List.mem_append_right _ hp)
  cases r1 with
  | cons r1 r0 =>
    cases r0
    cases r1
    show wpAny (model X.prog X.w) X.A (call (.builtin "sorted") [.ref q] [(Str.ofString "key", .ref f)]) _ _ s2
    have seq : ∃ (T : String) (o : Obj) (its : List Value) (n : Nat), (T = "list" ∨ T = "tuple") ∧ s2.heap.get? q = some o ∧ o.cls = .type T ∧ o.data = .seq its.toArray n ∧ Vals xs its ∧ its.length ≤ sizeLine := by
      rcases hq with hq | hq
      · obtain ⟨its, hv, ⟨o, n, e1, e2, _, e4⟩, hl⟩ := I2.list (extN_seqL eN hq)
        exact ⟨"list", o, its, n, .inl rfl, e1, e2, e4, hv, by rw [← hv.length]; exact hl⟩
      · obtain ⟨its, hv, ⟨o, e1, e2, n, e4⟩, hl⟩ := I2.tuple (extN_seqT eN hq)
        exact ⟨"tuple", o, its, n, .inr rfl, e1, e2, e4, hv, by rw [← hv.length]; exact hl⟩
    obtain ⟨T', o, its, n, hT', e1, e2, e3, hvs, hl⟩ := seq
    refine sorted_seq hT' e1 e2 e3 hl (ksk_s1 _ _) (fun _ => ksk_l1 _ _) fun E' g hg => ?_
    rw [ksk_t1]
    have I4 : Inv X ((f, PySem.W.kla_obj "<lambda>" (X.env.qual ++ "<lambda>") params body scope (cloFrom X.env.cells scope.names []) pm c' ctv) :: pins) σ H2 { s2 with heap := g } := by
      have := I3.kept (h' := g) (t' := s2.toks) hg
      exact this
    have hr2 : Room (k + 6) X.A.in1.in1 := hr.in1.in1
    refine sort_keyedT (key := key) I4 hvs hl hr2.units hfl hal hso (fun pins' H' s' v u hp sH J hv r => ?_) fun s' H' sH hn J => ⟨rfl, .ref g.objs.size, _, J.pins_of fun p hp => J.pin p (List.mem_append_right _ (.tail _ hp)), rfl, hQ _ _ sH hn⟩
    have hf' := (J.pin _ (List.mem_append_right _ (hp _ (.head _)))).1
    refine wpAny_call (codeAny_mono (lam_run (CX := noX) (E := noE) (Q := fun z H'' => ∃ u, z = .ref u ∧ H' u = none ∧ H'' = upd H' u (.tup (key v))) (k := k) J L hx (in1_env0 J) Un.refl hf' (sH _ _ hco) (hbind _ _ _ _ _ _) r (hr2.mono (by omega)) (fun hr3 => hbody _ _ _ _ _ _ hr3) (hb v hv H' sH _ fun u hu => ⟨u, rfl, hu, rfl⟩)) fun res s'' hq => ?_)
    match res, hq with
    | .error _, hq => exact hq.elim
    | .ok .next, hq => exact hq.elim
    | .ok .brk, hq => exact hq.elim
    | .ok .cont, hq => exact hq.elim
    | .ok (.ret z), hq =>
      obtain ⟨z', H'', J', rz, u, rfl, hu, rfl⟩ := J.after hq
      cases rz
      exact ⟨u, _, rfl, same_upd hu, upd_same, J'⟩
end
end LT
set_option Elab.async false
set_option linter.all false
set_option maxRecDepth 100000
set_option maxHeartbeats 1600000
/-! Own layer: entries of a book: sorted, one way only. -/
namespace LT
open PySem PySem.Spec PyProof.Rows L2 NdefX
def evKey (e : Evt) : List V := [.str (kindS e.mv), .int e.kn, .str e.who, .int e.day]
def evLe : Evt → Evt → Bool := PySem.W.dataLe false fun e => keyD (evKey e)
theorem evLe_tot : ∀ a b : Evt, (evLe a b || evLe b a) = true := fun a b => Bool.or_eq_true_iff.mpr ((PySem.W.sortLe_total (PyProof.Rows.listOrd PyProof.Rows.itemOrd) false fun e : Evt => PySem.W.keyToks (keyD (evKey e))).total a b)
theorem evLe_tr : ∀ a b c : Evt, evLe a b = true → evLe b c = true → evLe a c = true := fun a b c => (PySem.W.sortLe_total (PyProof.Rows.listOrd PyProof.Rows.itemOrd) false fun e : Evt => PySem.W.keyToks (keyD (evKey e))).trans a b c
theorem kindS_inj {a b : Bool} (h : kindS a = kindS b) : a = b := by
  have := kind_eq a b
  rw [h, decide_eq_true (show V.str (kindS b) = V.str (kindS b) from rfl)] at this
  exact of_decide_eq_true this.symm
def EvSame (a b : Evt) : Prop := a.mv = b.mv ∧ a.kn = b.kn ∧ a.who = b.who ∧ a.day = b.day
theorem toks_inj {a b : Evt} (h : PySem.W.keyToks (keyD (evKey a)) = PySem.W.keyToks (keyD (evKey b))) : EvSame a b := by
  simp [keyD, evKey, fltD, PySem.W.keyToks, PySem.W.keyToksAll] at h
  exact ⟨kindS_inj (str_eq (by rw [h.1])), h.2.1, str_eq (by rw [h.2.2.1]), h.2.2.2⟩
theorem evLe_anti {a b : Evt} (h1 : evLe a b = true) (h2 : evLe b a = true) : EvSame a b := by
  refine toks_inj ((PyProof.Rows.listOrd PyProof.Rows.itemOrd).total _ _ ?_ ?_)
  · unfold evLe at h2
    rw [PySem.W.dataLe_eq] at h2
    have h2 : (!PySem.W.dataLt (keyD (evKey a)) (keyD (evKey b))) = true := h2
    have h2 : PySem.W.dataLt (keyD (evKey a)) (keyD (evKey b)) = false := by simpa using h2
    exact h2
  · unfold evLe at h1
    rw [PySem.W.dataLe_eq] at h1
    have h1 : (!PySem.W.dataLt (keyD (evKey b)) (keyD (evKey a))) = true := h1
    have h1 : PySem.W.dataLt (keyD (evKey b)) (keyD (evKey a)) = false := by simpa using h1
    exact h1
/-- what was told last of a day on a known one -/
def entA (es : List Evt) (mv : Bool) (who : Str) (d kn : Int) : Option V := getA ((getA (histE es mv who) d).getD []) kn
structure IsEnts (es L : List Evt) : Prop where
  up : L.Pairwise fun a b => evLe a b = true
  nd : L.Pairwise fun a b => ¬ EvSame a b
  mem : ∀ e, e ∈ L ↔ entA es e.mv e.who e.day e.kn = some e.w
theorem evt_ext {a b : Evt} (h : EvSame a b) (hw : a.w = b.w) : a = b := by
  obtain ⟨h1, h2, h3, h4⟩ := h
  cases a
  cases b
  simp only at h1 h2 h3 h4 hw
  subst h1 h2 h3 h4 hw
  rfl
theorem IsEnts.nodup {es L : List Evt} (h : IsEnts es L) : L.Nodup := h.nd.imp fun hn e => hn (by rw [e]; exact ⟨rfl, rfl, rfl, rfl⟩)
theorem IsEnts.uniq {es L L' : List Evt} (h : IsEnts es L) (k : IsEnts es L') : L = L' := by
  have p : L.Perm L' := (List.perm_ext_iff_of_nodup h.nodup k.nodup).mpr fun e => (h.mem e).trans (k.mem e).symm
  refine List.Perm.eq_of_pairwise (le := fun a b => evLe a b = true) (fun a b ha hb h1 h2 => ?_) h.up k.up p
  have s := evLe_anti h1 h2
  have ea := (h.mem a).mp ha
  have eb := (k.mem b).mp hb
  rw [s.1, s.2.1, s.2.2.1, s.2.2.2, eb] at ea
  exact evt_ext s (Option.some.inj ea).symm
theorem ents_of {es L : List Evt} (nd : L.Pairwise fun a b => ¬ EvSame a b) (mem : ∀ e, e ∈ L ↔ entA es e.mv e.who e.day e.kn = some e.w) : IsEnts es (L.mergeSort evLe) := by
  have p := List.mergeSort_perm L evLe
  refine ⟨List.pairwise_mergeSort evLe_tr evLe_tot L, ?_, fun e => ?_⟩
  · refine p.symm.pairwise nd fun h s => h ⟨s.1.symm, s.2.1.symm, s.2.2.1.symm, s.2.2.2.symm⟩
  · rw [p.mem_iff]
    exact mem e
/-! ### on the heap -/
def evOfO : Option HO → Evt
  | some (.tup [.str k, .int kn, .str who, .int d, w]) => ⟨decide (k = kindS true), kn, who, d, w⟩
  | _ => ⟨true, 0, Str.empty, 0, .non⟩
def evOfV (H : Hp) : V → Evt
  | .ref t => evOfO (H t)
  | _ => evOfO none
theorem evOf_is {H : Hp} {t : Addr} {e : Evt} (h : EvT H t e) : evOfV H (.ref t) = e := by
  have h : H t = some (.tup [.str (kindS e.mv), .int e.kn, .str e.who, .int e.day, e.w]) := h
  show evOfO (H t) = e
  rw [h]
  obtain ⟨mv, kn, who, d, w⟩ := e
  show (⟨decide (kindS mv = kindS true), kn, who, d, w⟩ : Evt) = _
  have : decide (kindS mv = kindS true) = mv := by cases mv <;> decide +kernel
  rw [this]
theorem ents_sorted {H : Hp} {ts : List Addr} {L : List Evt} (h : Paired (EvT H) ts L) : ∃ ts' : List Addr, (ts.map V.ref).mergeSort (PySem.W.dataLe false fun v => keyD (evKey (evOfV H v))) = ts'.map V.ref ∧ Paired (EvT H) ts' (L.mergeSort evLe) := by
  have eL : (ts.map V.ref).map (evOfV H) = L := by
    induction h with
    | nil => rfl
    | cons r _ ih =>
      rw [List.map_cons, List.map_cons, ih, evOf_is r]
  have all : ∀ v ∈ ts.map V.ref, ∃ t, v = V.ref t ∧ EvT H t (evOfV H v) := fun v hv => by
    obtain ⟨i, hi⟩ := List.getElem?_of_mem hv
    rw [List.getElem?_map, Option.map_eq_some_iff] at hi
    obtain ⟨t, ht, rfl⟩ := hi
    obtain ⟨e, _, r⟩ := paired_get h ht
    exact ⟨t, rfl, by rw [evOf_is r]; exact r⟩
  have em := List.map_mergeSort (r := PySem.W.dataLe false fun v => keyD (evKey (evOfV H v))) (s := evLe) (f := evOfV H) (l := ts.map V.ref) fun a _ b _ => rfl
  rw [eL] at em
  have p := List.mergeSort_perm (ts.map V.ref) (PySem.W.dataLe false fun v => keyD (evKey (evOfV H v)))
  rw [← em]
  generalize (ts.map V.ref).mergeSort (PySem.W.dataLe false fun v => keyD (evKey (evOfV H v))) = M at *
  have all2 : ∀ v ∈ M, ∃ t, v = V.ref t ∧ EvT H t (evOfV H v) := fun v hv => all v (p.mem_iff.mp hv)
  clear em p
  induction M with
  | nil => exact ⟨[], rfl, .nil⟩
  | cons v M ih =>
    obtain ⟨t, rfl, r⟩ := all2 v List.mem_cons_self
    obtain ⟨ts', e1, e2⟩ := ih fun w hw => all2 w (List.mem_cons_of_mem _ hw)
    exact ⟨t :: ts', by rw [e1]; rfl, .cons r e2⟩
theorem alike_ev (a b : Evt) : PySem.W.alike (keyD (evKey a)) (keyD (evKey b)) = true := by
  simp [keyD, evKey, fltD, PySem.W.alike, PySem.W.alikeAll]
/-! ### what the book goes through -/
theorem flatH_mem {h : Hist} {kn d : Int} {w : V} : (kn, d, w) ∈ flatH h ↔ ∃ t, (d, t) ∈ h ∧ (kn, w) ∈ t := by
  unfold flatH
  rw [List.mem_flatMap]
  constructor
  · rintro ⟨p, hp, hm⟩
    obtain ⟨q, hq, e⟩ := List.mem_map.mp hm
    cases e
    exact ⟨p.2, hp, hq⟩
  · rintro ⟨t, ht, hq⟩
    exact ⟨(d, t), ht, List.mem_map.mpr ⟨(kn, w), hq, rfl⟩⟩
theorem entA_mem {es : List Evt} {mv : Bool} {who : Str} {d kn : Int} {w : V} : (kn, d, w) ∈ flatH (histE es mv who) ↔ entA es mv who d kn = some w := by
  rw [flatH_mem]
  have nk := (hist_keys mv who es).1
  unfold entA
  constructor
  · rintro ⟨t, ht, hq⟩
    have e := getA_of_mem nk ht
    rw [e]
    exact getA_of_mem (hist_of mv who es d t e).1 hq
  · intro h
    cases e : getA (histE es mv who) d with
    | none =>
      rw [e] at h
      cases h
    | some t =>
      rw [e] at h
      exact ⟨t, getA_mem e, getA_mem h⟩
theorem entA_ev {es : List Evt} {mv : Bool} {who : Str} {d kn : Int} {w : V} (h : entA es mv who d kn = some w) : ∃ e ∈ es, e.mv = mv ∧ e.who = who := by
  unfold entA at h
  cases e : getA (histE es mv who) d with
  | none =>
    rw [e] at h
    cases h
  | some t =>
    rw [e] at h
    obtain ⟨e', h1, h2, _⟩ := (hist_of mv who es d t e).2.2.2 _ (getA_mem h)
    exact ⟨e', h1, h2⟩
theorem flatH_nd {es : List Evt} {mv : Bool} {who : Str} : (flatH (histE es mv who)).Pairwise fun a b => ¬ (a.1 = b.1 ∧ a.2.1 = b.2.1) := by
  have nk := (hist_keys mv who es).1
  unfold flatH
  rw [List.pairwise_flatMap]
  refine ⟨fun p hp => ?_, ?_⟩
  · have nt := (hist_of mv who es p.1 p.2 (getA_of_mem nk hp)).1
    rw [List.pairwise_map]
    have : p.2.Pairwise fun a b => a.1 ≠ b.1 := List.pairwise_map.mp nt
    exact this.imp fun h e => h e.1
  · have : (histE es mv who).Pairwise fun a b => a.1 ≠ b.1 := List.pairwise_map.mp nk
    refine this.imp fun {a b} h x hx y hy e => h ?_
    obtain ⟨q, _, rfl⟩ := List.mem_map.mp hx
    obtain ⟨r, _, rfl⟩ := List.mem_map.mp hy
    exact e.2
def flatE (mv : Bool) (hs : List (Str × HA)) : List Evt := hs.flatMap fun p => (flatH p.2.h).map fun q => ⟨mv, q.1, p.1, q.2.1, q.2.2⟩
def entL (B : BA) : List Evt := flatE false B.ld ++ flatE true B.mv
theorem flatE_nd {mv : Bool} {es : List Evt} {hs : List (Str × HA)} (nk : (hs.map (·.1)).Nodup) (hh : ∀ p ∈ hs, p.2.h = histE es mv p.1) : (flatE mv hs).Pairwise fun a b => ¬ EvSame a b := by
  unfold flatE
  rw [List.pairwise_flatMap]
  refine ⟨fun p hp => ?_, ?_⟩
  · rw [List.pairwise_map, hh p hp]
    exact flatH_nd.imp fun h e => h ⟨e.2.1, e.2.2.2⟩
  · have : hs.Pairwise fun a b => a.1 ≠ b.1 := List.pairwise_map.mp nk
    refine this.imp fun {a b} h x hx y hy e => h ?_
    obtain ⟨q, _, rfl⟩ := List.mem_map.mp hx
    obtain ⟨r, _, rfl⟩ := List.mem_map.mp hy
    exact e.2.2.1
theorem flatE_mem {mv : Bool} {es : List Evt} {hs : List (Str × HA)} (hh : ∀ p ∈ hs, p.2.h = histE es mv p.1) {e : Evt} : e ∈ flatE mv hs ↔ e.mv = mv ∧ e.who ∈ hs.map (·.1) ∧ entA es e.mv e.who e.day e.kn = some e.w := by
  unfold flatE
  rw [List.mem_flatMap]
  constructor
  · rintro ⟨p, hp, hm⟩
    obtain ⟨⟨kn, d, w⟩, hq, rfl⟩ := List.mem_map.mp hm
    rw [hh p hp] at hq
    exact ⟨rfl, List.mem_map.mpr ⟨p, hp, rfl⟩, entA_mem.mp hq⟩
  · rintro ⟨rfl, hw, h⟩
    obtain ⟨p, hp, ep⟩ := List.mem_map.mp hw
    refine ⟨p, hp, List.mem_map.mpr ⟨(e.kn, e.day, e.w), ?_, ?_⟩⟩
    · rw [hh p hp, ep]
      exact entA_mem.mpr h
    · rw [ep]
theorem entL_is {B : BA} (b : BkP B) : IsEnts B.es ((entL B).mergeSort evLe) := by
  refine ents_of ?_ fun e => ?_
  · unfold entL
    rw [List.pairwise_append]
    refine ⟨flatE_nd b.lk b.hl, flatE_nd (by rw [b.km]; exact b.rk.nd) b.hm, fun x hx y hy s => ?_⟩
    have h1 := ((flatE_mem b.hl).mp hx).1
    have h2 := ((flatE_mem b.hm).mp hy).1
    have := s.1
    rw [h1, h2] at this
    cases this
  · unfold entL
    rw [List.mem_append, flatE_mem b.hl, flatE_mem b.hm]
    constructor
    · rintro (⟨_, _, h⟩ | ⟨_, _, h⟩) <;> exact h
    · intro h
      obtain ⟨e', he, h1, h2⟩ := entA_ev h
      cases hm : e.mv with
      | false => exact .inl ⟨rfl, by rw [← h2]; exact b.ln e' he (by rw [h1, hm]), by rw [hm] at h; exact h⟩
      | true => exact .inr ⟨rfl, by rw [b.km, ← h2]; exact ((b.ev e' he).mw (by rw [h1, hm])).1, by rw [hm] at h; exact h⟩
end LT
set_option Elab.async false
set_option linter.all false
set_option maxRecDepth 100000
set_option maxHeartbeats 1600000
/-! Own layer: a += b of lists; entries of a book, its promise. -/
namespace LT
open PySem PySem.Spec PyProof.Rows L2 NdefX LamX
theorem fillI_list : fillsInplaceSlot (.type "list") "add" (Operator.Add == .Add) = pure false := by
  unfold fillsInplaceSlot
  show (typeLookup (.type "list") (dunderI "add") >>= fun fi => pure (fi.isSome && !isSeqSlot fi)) = pure false
  rw [PySem.F.slot_list_iadd.lookup]
  simp only [pure_bind, show isSeqSlot (some (.builtin "list.__iadd__")) = true by decide +kernel]
  rfl
theorem seqI_list : seqSlot? (.type "list") (dunderI "add") = pure (some (.builtin "list.__iadd__")) := PySem.seqSlot_of PySem.F.slot_list_iadd.lookup (by decide +kernel)
theorem call_iadd {prog : Program} {w : World} {A : Around} {E : Value → Shared → Prop} {s : Shared} {a b : Addr} {xs ys : Array Value} {n m : Nat} {Q : Value → Shared → Prop}
    (ha : s.heap.get? a = some { cls := .type "list", data := .seq xs n }) (hb : s.heap.get? b = some { cls := .type "list", data := .seq ys m }) (hz : xs.size + ys.size ≤ sizeLine)
    (h : Q (.ref a) { s with heap := s.heap.update a (Obj.mapSeq (· ++ ys)) }) : wpAny (model prog w) A (call (.builtin "list.__iadd__") [.ref a, .ref b]) Q E s := by
  have hl : ¬(!xs.isEmpty && Builtin.List.listTooLong (xs.size + ys.size)) = true := extend_door hz
  refine wpAny_call (codeAny_call_builtin PySem.F.slot_list_iadd.plain PySem.F.entry_list_iadd (PySem.F.slot_list_iadd.check _ _ _ _ _ _ _ _ (show s.TypeIs (.ref a) "list" from ⟨_, ha, rfl⟩) (PySem.F.args_list_iadd_2 _ _) ?_))
  show wpAny _ A.in1 (Builtin.List.listExtendWith (.ref a) (.ref b) (.ref a)) _ _ _
  unfold Builtin.List.listExtendWith
  refine wpAny_bind (wpAny_typeOf ⟨_, hb, rfl⟩ ?_)
  have h1 : (Builtin.List.listSameRef (.ref a) (.ref b) || Value.type "list" == Value.type "list" || Value.type "list" == Value.type "tuple") = true := by simp
  simp only [h1, if_true]
  refine wpAny_bind ?_
  unfold Builtin.List.listItems
  refine wpAny_bind (wpAny_seqItems hb rfl (wpAny_pure ?_))
  refine wpAny_bind ?_
  refine wpAny_bind (wpAny_seqItems ha rfl (wpAny_pure ?_))
  rw [if_neg hl]
  show wpAny _ A.in1 (updateSeq a (· ++ ys) >>= fun _ => ret (.ref a)) _ _ s
  refine wpAny_bind (wpAny_updateSeq ha rfl ?_)
  exact wpAny_pure h
theorem iadd_list {prog : Program} {w : World} {A : Around} {E : Value → Shared → Prop} {s : Shared} {a b : Addr} {xs ys : Array Value} {n m : Nat} {Q : Value → Shared → Prop}
    (ha : s.heap.get? a = some { cls := .type "list", data := .seq xs n }) (hb : s.heap.get? b = some { cls := .type "list", data := .seq ys m }) (hz : xs.size + ys.size ≤ sizeLine)
    (h : Q (.ref a) { s with heap := s.heap.update a (Obj.mapSeq (· ++ ys)) }) : wpAny (model prog w) A (inplaceOp .Add (.ref a) (.ref b)) Q E s := by
  unfold inplaceOp
  refine wpAny_holding ?_
  refine wpAny_bind (wpAny_typeOf ⟨_, ha, rfl⟩ (wpAny_bind (wpAny_of_eq fillI_list ?_)))
  show wpAny _ A (if false = true then _ else _) Q E s
  rw [if_neg Bool.false_ne_true]
  refine wpAny_bind (wpAny_binaryOp1_none (nm := "add") ⟨_, ha, rfl⟩ ⟨_, hb, rfl⟩ PySem.noFill_list_add ?_)
  refine wpAny_bind (wpAny_of_eq seqI_list ?_)
  refine wpAny_bind (wpAny_rule ?_)
  exact call_iadd ha hb hz h
def ipCat : TIp := fun x y H Q => ∃ a b xs ys, x = .ref a ∧ y = .ref b ∧ H a = some (.lst xs) ∧ H b = some (.lst ys) ∧ xs.length + ys.length ≤ sizeLine ∧ Q (.ref a) (L2.upd H a (.lst (xs ++ ys)))
theorem ip_cat {X : Cx} : PIp X .Add ipCat := by
  intro pins s σ H x y v u Q I r1 r2 h
  obtain ⟨a, b, xs, ys, rfl, rfl, ha, hb, hz, q⟩ := h
  cases r1
  cases r2
  obtain ⟨z, its, n, r, hl, e⟩ := I.lstM ha
  obtain ⟨z2, its2, n2, r2, hl2, e2⟩ := I.lstM hb
  refine iadd_list e e2 (by rw [List.size_toArray, List.size_toArray]; omega) ?_
  refine ⟨.ref a, _, I.lset (its' := its ++ its2) ha e (by simp) (r.append r2) ?_, rfl, q⟩
  rw [List.length_append]
  omega
theorem flat_ev {es : List Evt} {mv : Bool} {who : Str} {q : Int × Int × V} (h : q ∈ flatH (histE es mv who)) : (⟨mv, q.1, who, q.2.1, q.2.2⟩ : Evt) ∈ es := by
  obtain ⟨kn, d, w⟩ := q
  obtain ⟨t, ht, hq⟩ := flatH_mem.mp h
  have nk := (hist_keys mv who es).1
  obtain ⟨e', h1, ⟨h2, h3⟩, h4, h5, h6⟩ := (hist_of mv who es d t (getA_of_mem nk ht)).2.2.2 _ hq
  obtain ⟨a, b, c, d', w'⟩ := e'
  simp only at h2 h3 h4 h5 h6
  subst h2 h3 h4 h5 h6
  exact h1
theorem flat_le (es : List Evt) (mv : Bool) (who : Str) : (flatH (histE es mv who)).length ≤ es.length := by
  have nd : ((flatH (histE es mv who)).map fun q => (⟨mv, q.1, who, q.2.1, q.2.2⟩ : Evt)).Nodup := by
    show List.Pairwise _ _
    rw [List.pairwise_map]
    refine flatH_nd.imp fun {a b} h e => h ?_
    have e1 := congrArg Evt.kn e
    have e2 := congrArg Evt.day e
    exact ⟨e1, e2⟩
  have := List.Nodup.length_le_of_subset nd (l₂ := es) fun e he => by
    obtain ⟨q, hq, rfl⟩ := List.mem_map.mp he
    exact flat_ev hq
  rwa [List.length_map] at this
theorem entL_le {B : BA} (b : BkP B) : (entL B).length ≤ B.es.length := by
  have I := entL_is b
  have p := List.mergeSort_perm (entL B) evLe
  have nd : (entL B).Nodup := p.nodup_iff.mp I.nodup
  refine List.Nodup.length_le_of_subset nd fun e he => ?_
  unfold entL flatE at he
  rcases List.mem_append.mp he with he | he
  · obtain ⟨x, hx, he⟩ := List.mem_flatMap.mp he
    obtain ⟨q, hq, rfl⟩ := List.mem_map.mp he
    rw [b.hl x hx] at hq
    exact flat_ev hq
  · obtain ⟨x, hx, he⟩ := List.mem_flatMap.mp he
    obtain ⟨q, hq, rfl⟩ := List.mem_map.mp he
    rw [b.hm x hx] at hq
    exact flat_ev hq
theorem flatE_snoc {mv : Bool} {hs : List (Str × HA)} {i : Nat} {e : Str × HA} (he : hs[i]? = some e) : flatE mv (hs.take (i + 1)) = flatE mv (hs.take i) ++ (flatH e.2.h).map fun q => ⟨mv, q.1, e.1, q.2.1, q.2.2⟩ := by
  unfold flatE
  rw [take_snoc he, List.flatMap_append, List.flatMap_cons, List.flatMap_nil, List.append_nil]
theorem flatE_take (mv : Bool) (hs : List (Str × HA)) (i : Nat) : (flatE mv (hs.take i)).length ≤ (flatE mv hs).length := by
  have e : flatE mv hs = flatE mv (hs.take i) ++ flatE mv (hs.drop i) := by
    unfold flatE
    rw [← List.flatMap_append, List.take_append_drop]
  rw [e, List.length_append]
  omega
theorem evT_upd {H : Hp} {p t : Addr} {e : Evt} {o : HO} {xs : List V} (h : EvT H t e) (hp : H p = some (.lst xs)) : EvT (L2.upd H p o) t e := by
  show L2.upd H p o t = _
  rw [upd_ne (ne_of h hp (by intro z; cases z))]
  exact h
theorem paired_cat {α β : Type} {R : α → β → Prop} {xs xs' : List α} {ys ys' : List β} (h : Paired R xs ys) (k : Paired R xs' ys') : Paired R (xs ++ xs') (ys ++ ys') := by
  induction h with
  | nil => exact k
  | cons r _ ih => exact .cons r ih
theorem evT_frz {H : Hp} {p t : Addr} {e : Evt} {o : HO} {od : Obj} {u : HO} (h : EvT H t e) (hp : H p = some (.frz od u)) : EvT (L2.upd H p o) t e := by
  show L2.upd H p o t = _
  rw [upd_ne (ne_of h hp (by intro z; cases z))]
  exact h
theorem evT_dK {H : Hp} {p t : Addr} {e : Evt} {o : HO} {r : List (Key × V)} (h : EvT H t e) (hp : H p = some (.dK r)) : EvT (L2.upd H p o) t e := by
  show L2.upd H p o t = _
  rw [upd_ne (ne_of h hp (by intro z; cases z))]
  exact h
/-- new, but for what tables have grown by -/
def NewN (H : Hp) (a : Addr) : Prop := ∀ o, H a = some o → ∃ ps, o = .tbl ps
theorem newN_of {H H1 : Hp} {a : Addr} (e : ExtN H H1) (n : H1 a = none) : NewN H a := fun o h => by
  cases o with
  | tbl ps => exact ⟨ps, rfl⟩
  | _ =>
    have := e a _ h nofun
    rw [n] at this
    cases this
/-- what entries gives -/
def spEntries (CB CH : Addr) (T : List (Addr × Str)) : Sp := fun vs H Q _ => ∃ (b : Addr) (rk : List (Str × Int)) (es : List Evt) (fp : List Addr), vs = [.ref b] ∧ Bk CB CH H b rk es fp ∧ es.length ≤ 60 ∧ Tabs T H ∧
  ∀ (l : Addr) (ts : List Addr) (L : List Evt) (H' : Hp), NewN H l → ExtN H H' → Tabs T H' → H' l = some (.lst (ts.map V.ref)) → Paired (EvT H') ts L → IsEnts es L → Q (.ref l) H'
end LT
set_option Elab.async false
set_option linter.all false
set_option maxRecDepth 100000
set_option maxHeartbeats 1600000
/-! Own layer: days over, promises. -/
namespace LT
open PySem PySem.Spec PyProof.Rows L2 NdefX
def spBehind (CS : Addr) : Sp := fun vs H Q _ => ∃ (x : Addr) (f l m : Int), vs = [.ref x, .int m] ∧ StrAt CS H x f (some l) ∧ 0 ≤ f ∧ 0 ≤ m ∧ ∀ (l' : Addr) (H' : Hp), H l' = none → PartsAt CS H' l' (behindF f l m) → Same H H' → Q (.ref l') H'
def spSpells (CB CH CS : Addr) : Sp := fun vs H Q _ => ∃ (b : Addr) (rk : List (Str × Int)) (es : List Evt) (fp : List Addr) (z : Str) (day : Int) (kn : Option Int), vs = [.ref b, .str z, .int day, knV kn] ∧ Bk CB CH H b rk es fp ∧ z ∈ rk.map (·.1) ∧ es.length ≤ 60 ∧ knOK kn ∧ 0 ≤ day ∧
  ∀ (l : Addr) (rs : List LT.Run) (H' : Hp), H l = none → RunsOf (fun _ => True) (outV es z kn) rs → rs.length ≤ 62 → RunsAt CS H' l (spF day rs) → Same H H' → Q (.ref l) H'
theorem spF_len (day : Int) (rs : List LT.Run) : (spF day rs).length ≤ rs.length := by
  unfold spF
  rw [List.length_map]
  exact List.length_filter_le _ _
theorem behind_len (f l m : Int) : (behindF f l m).length ≤ 1 := by
  unfold behindF
  split
  · exact Nat.le_refl _
  · exact Nat.zero_le _
theorem flatB_len {β : Type} {F : β → List LD.Row} (h : ∀ b, (F b).length ≤ 1) : ∀ l : List β, (l.flatMap F).length ≤ l.length
  | [] => Nat.zero_le _
  | b :: r => by
    rw [List.flatMap_cons, List.length_append, List.length_cons]
    have := h b
    have := flatB_len h r
    omega
theorem overS_len (term : Int) (r : LT.Run) : (overS term r).length ≤ 1 := by
  unfold overS
  split
  · exact behind_len ..
  · exact Nat.zero_le _
theorem IsOver.row {g : Int → Bool} {day term : Int} {rows : List LD.Row} (I : IsOver g day term rows) : ∀ r ∈ rows, ∃ j, r.2 = some j ∧ 0 ≤ r.1 ∧ r.1 ≤ j ∧ j ≤ day := fun r hr => by
  have ok := I.asc.ok r hr
  cases e : r.2 with
  | none =>
    have : LD.Ins rows (max r.1 (day + 1)) := ⟨r, hr, Int.le_max_left .., fun j hj => by rw [e] at hj; cases hj⟩
    have := ((I.ins _).mp this).2.1
    have := Int.le_max_right r.1 (day + 1)
    omega
  | some j =>
    have h2 := ok.2 j e
    have : LD.Ins rows j := ⟨r, hr, h2, fun k hk => by rw [e] at hk; cases hk; exact Int.le_refl _⟩
    exact ⟨j, rfl, ok.1, h2, ((I.ins _).mp this).2.1⟩
end LT
set_option Elab.async false
set_option linter.all false
set_option maxRecDepth 100000
set_option maxHeartbeats 1600000
/-! Own layer: days over, as the laws find them. -/
namespace LT
open PySem PySem.Spec PyProof.Rows L2 NdefX
/-! ### moved -/
/-! ### the law's own counting -/
structure OutN (g : Int → Bool) (i : Nat) (c : Int) : Prop where
  c0 : 0 ≤ c
  ci : c ≤ i
  on : ∀ x, (i : Int) - c ≤ x → x < i → g x = true
  off : c = i ∨ g ((i : Int) - c - 1) = false
theorem OutN.out {g : Int → Bool} {i : Nat} {c : Int} (h : OutN g i c) (hg : g i = true) : OutN g (i + 1) (c + 1) := by
  have := h.c0
  have := h.ci
  refine ⟨by omega, by omega, fun x h1 h2 => ?_, ?_⟩
  · by_cases e : x = i
    · rw [e]; exact hg
    · exact h.on x (by omega) (by omega)
  · rcases h.off with e | e
    · exact .inl (by omega)
    · refine .inr ?_
      rw [show ((i + 1 : Nat) : Int) - (c + 1) - 1 = (i : Int) - c - 1 by omega]
      exact e
theorem OutN.ash {g : Int → Bool} {i : Nat} {c : Int} (h : OutN g i c) (hg : g i = false) : OutN g (i + 1) 0 := by
  refine ⟨Int.le_refl _, by omega, fun x h1 h2 => by omega, .inr ?_⟩
  rw [show ((i + 1 : Nat) : Int) - 0 - 1 = (i : Int) by omega]
  exact hg
/-- runs of days -/
def gD (ds : List Int) (d : Int) : V := .bl (decide (d ∈ ds))
structure DInv (ds : List Int) (i : Nat) (F : List LD.Row) : Prop where
  ui : ∀ m, (∀ (k : Nat) d, ds[k]? = some d → k < i → d < m) → (∀ (k : Nat) d, ds[k]? = some d → i ≤ k → m ≤ d) → UI (gD ds) F m
theorem DInv.nil {ds : List Int} (nn : ∀ d ∈ ds, 0 ≤ d) : DInv ds 0 [] := ⟨fun m _ h => ⟨⟨(fun r hr => by cases hr), List.Pairwise.nil⟩, (fun r hr => by cases hr), fun d => ⟨fun k => absurd k ins_nil, fun ⟨d0, dm, k⟩ => by
  have : d ∈ ds := of_decide_eq_true (V.bl.inj k)
  obtain ⟨j, hj⟩ := List.getElem?_of_mem this
  have := h j d hj (Nat.zero_le _)
  omega⟩⟩⟩
theorem DInv.at {ds : List Int} {i : Nat} {F : List LD.Row} (h : DInv ds i F) (up : ds.Pairwise (· < ·)) {d : Int} (hd : ds[i]? = some d) : UI (gD ds) F d := by
  have key : ∀ (k : Nat) x, ds[k]? = some x → (k < i → x < d) ∧ (i ≤ k → d ≤ x) := fun k x hx => by
    have a := List.getElem?_eq_some_iff.mp hx
    have b := List.getElem?_eq_some_iff.mp hd
    refine ⟨fun hk => ?_, fun hk => ?_⟩
    · have := List.pairwise_iff_getElem.mp up k i a.1 b.1 hk
      rw [a.2, b.2] at this
      exact this
    · by_cases e : i = k
      · subst e
        rw [hd] at hx
        cases hx
        exact Int.le_refl _
      · have := List.pairwise_iff_getElem.mp up i k b.1 a.1 (by omega)
        rw [a.2, b.2] at this
        omega
  exact h.ui d (fun k x hx hk => (key k x hx).1 hk) fun k x hx hk => (key k x hx).2 hk
theorem DInv.step {ds : List Int} {i : Nat} {F : List LD.Row} (h : DInv ds i F) (up : ds.Pairwise (· < ·)) (nn : ∀ d ∈ ds, 0 ≤ d) {d : Int} (hd : ds[i]? = some d) : DInv ds (i + 1) (stepU (gD ds) F d (some (d + 1))) := by
  have U := h.at up hd
  obtain ⟨a, t, ins⟩ := stepU_ok (x := some (d + 1)) U (nn d (List.mem_of_getElem? hd)) (fun b hb => by cases hb; omega) fun x h1 h2 => by
    have := h2 (d + 1) rfl
    rw [show x = d by omega]
  refine ⟨fun m lo hi => ⟨a, fun r hr => ?_, fun x => ?_⟩⟩
  · obtain ⟨j, h1, h2⟩ := t (d + 1) rfl r hr
    have := lo i d hd (by omega)
    exact ⟨j, h1, by omega⟩
  · rw [ins x]
    refine and_congr_right fun x0 => ⟨fun ⟨h1, h2⟩ => ⟨?_, h2⟩, fun ⟨h1, h2⟩ => ⟨fun b hb => ?_, h2⟩⟩
    · have := h1 (d + 1) rfl
      have := lo i d hd (by omega)
      omega
    · cases hb
      have hx : x ∈ ds := of_decide_eq_true (V.bl.inj h2)
      obtain ⟨j, hj⟩ := List.getElem?_of_mem hx
      by_cases e : i + 1 ≤ j
      · have := hi j x hj e
        omega
      · by_cases ej : j = i
        · rw [ej, hd] at hj
          cases hj
          omega
        · have a := List.getElem?_eq_some_iff.mp hj
          have b := List.getElem?_eq_some_iff.mp hd
          have := List.pairwise_iff_getElem.mp up j i a.1 b.1 (by omega)
          rw [a.2, b.2] at this
          omega
theorem DInv.done {ds : List Int} {F : List LD.Row} (h : DInv ds ds.length F) (nn : ∀ d ∈ ds, 0 ≤ d) : LD.Asc F ∧ ∀ d, LD.Ins F d ↔ d ∈ ds := by
  obtain ⟨m, hm⟩ : ∃ m : Int, ∀ d ∈ ds, d < m := by
    clear h nn
    induction ds with
    | nil => exact ⟨0, nofun⟩
    | cons a r ih =>
      obtain ⟨m, hm⟩ := ih
      exact ⟨max m (a + 1), fun d hd => by
        rcases List.mem_cons.mp hd with h | h
        · rw [h]; omega
        · have := hm d h
          omega⟩
  have U := h.ui m (fun k d hd _ => hm d (List.mem_of_getElem? hd)) fun k d hd hk => absurd (List.getElem?_eq_some_iff.mp hd).1 (by omega)
  refine ⟨U.asc, fun d => ?_⟩
  rw [U.ins d]
  constructor
  · exact fun h => of_decide_eq_true (V.bl.inj h.2.2)
  · exact fun h => ⟨nn d h, hm d h, congrArg V.bl (decide_eq_true h)⟩
end LT
set_option Elab.async false
set_option linter.all false
set_option maxRecDepth 100000
set_option maxHeartbeats 1600000
/-! Own layer: days over shown; cases beside their books. -/
namespace LT
open PySem PySem.Spec PyProof.Rows L2 NdefX
def RowsSm (rows : List LD.Row) : Prop := rows.length ≤ 62 ∧ ∀ r ∈ rows, Sm62 r.1 ∧ ∀ e, r.2 = some e → Sm62 e
theorem IsOver.sm {g : Int → Bool} {day term : Int} {rows : List LD.Row} (I : IsOver g day term rows) (hd : day < 10 ^ 60) (hl : rows.length ≤ 62) : RowsSm rows := ⟨hl, fun r hr => by
  obtain ⟨j, e, h0, h1, h2⟩ := I.row r hr
  exact ⟨⟨h0, by omega⟩, fun k hk => by
    rw [e] at hk
    cases hk
    exact ⟨by omega, by omega⟩⟩⟩
/-- a case and its book, beside a pot -/
structure CaseB (CB CH : Addr) (H : Hp) (p b T : Addr) (C : CaseD) (rk : List (Str × Int)) (es' : List Evt) (fp : List Addr) : Prop where
  pot : Pot H p
  bk : Bk CB CH H b rk es' fp
  np : p ∉ fp
  cs : CaseAt H T C
  cg : CaseG C
  bc : BookC C.far C.zs C.es rk es'
theorem CaseB.look {CB CH : Addr} {H H' : Hp} {p b T : Addr} {C : CaseD} {rk : List (Str × Int)} {es' : List Evt} {fp : List Addr} (h : CaseB CB CH H p b T C rk es' fp) (hp : Pot H' p) (s : SameB p H H') : CaseB CB CH H' p b T C rk es' fp :=
  ⟨hp, h.bk.by fun x hx o e => s _ _ (fun z => h.np (by rw [← z]; exact hx)) e, h.np, h.cs.pot h.pot s, h.cg, h.bc⟩
theorem CaseB.mono {CB CH : Addr} {H H' : Hp} {p b T : Addr} {C : CaseD} {rk : List (Str × Int)} {es' : List Evt} {fp : List Addr} (h : CaseB CB CH H p b T C rk es' fp) (s : Same H H') : CaseB CB CH H' p b T C rk es' fp := h.look (h.pot.mono s) (SameB.of s)
end LT
set_option Elab.async false
set_option linter.all false
set_option maxRecDepth 100000
set_option maxHeartbeats 1600000
/-! Own layer: behind the last move, what is over goes on. -/
namespace LT
open PySem PySem.Spec PyProof.Rows L2 NdefX
end LT
set_option Elab.async false
set_option linter.all false
set_option maxRecDepth 100000
set_option maxHeartbeats 1600000
/-! Own layer: the list of cases a law goes through. -/
namespace LT
open PySem PySem.Spec PyProof.Rows L2 NdefX
theorem paired_in' {α β : Type} {R : α → β → Prop} : ∀ {xs : List α} {ys : List β}, Paired R xs ys → ∀ {y : β}, y ∈ ys → ∃ x ∈ xs, R x y
  | _, _, .cons a t, y, hy => by
    rcases List.mem_cons.mp hy with h | h
    · exact ⟨_, List.mem_cons_self, h ▸ a⟩
    · obtain ⟨x, hx, k⟩ := paired_in' t h
      exact ⟨x, List.mem_cons_of_mem _ hx, k⟩
structure CsD where
  p : Addr
  b : Addr
  T : Addr
  C : CaseD
  rk : List (Str × Int)
  es : List Evt
  fp : List Addr
  last : Int
  rts : List Addr
def CsT (CB CH : Addr) (H : Hp) (t : Addr) (d : CsD) : Prop := H t = some (.tup [.ref d.p, .ref d.b, .ref d.T, .int d.last]) ∧ CaseB CB CH H d.p d.b d.T d.C d.rk d.es d.fp ∧ H d.C.R = some (.lst (d.rts.map V.ref))
theorem CsT.mono {CB CH : Addr} {H H' : Hp} {t : Addr} {d : CsD} (h : CsT CB CH H t d) (s : Same H H') : CsT CB CH H' t d := ⟨s _ _ h.1, h.2.1.mono s, s _ _ h.2.2⟩
structure LastG (d : CsD) : Prop where
  l0 : 0 ≤ d.last
  l1 : d.last ≤ 190
  kn : ∀ e ∈ d.es, e.kn ≤ d.last
  dis : ∀ a, (a = d.T ∨ a = d.C.n ∨ a = d.C.R ∨ a ∈ d.rts) → a ∉ d.fp
structure CsAll (CB CH : Addr) (H : Hp) (L : Addr) (ts : List Addr) (ds : List CsD) : Prop where
  hl : H L = some (.lst (ts.map V.ref))
  hp : Paired (CsT CB CH H) ts ds
  far : ∀ d ∈ ds, ∀ e ∈ ds, d.p ∉ e.fp
  la : ∀ d ∈ ds, LastG d
  nL : ∀ d ∈ ds, L ∉ d.fp
theorem CsAll.mono {CB CH : Addr} {H H' : Hp} {L : Addr} {ts : List Addr} {ds : List CsD} (h : CsAll CB CH H L ts ds) (s : Same H H') : CsAll CB CH H' L ts ds := ⟨s _ _ h.hl, paired_imp (fun _ _ h => h.mono s) h.hp, h.far, h.la, h.nL⟩
theorem CaseB.aside {CB CH : Addr} {H H' : Hp} {p q b T : Addr} {C : CaseD} {rk : List (Str × Int)} {es' : List Evt} {fp : List Addr} (h : CaseB CB CH H q b T C rk es' fp) (hp : Pot H p) (hp' : Pot H' p) (s : SameB p H H') (n : p ∉ fp) : CaseB CB CH H' q b T C rk es' fp := by
  refine ⟨?_, h.bk.by fun x hx o e => s _ _ (fun z => n (by rw [← z]; exact hx)) e, h.np, h.cs.pot hp s, h.cg, h.bc⟩
  by_cases e : q = p
  · rw [e]
    exact hp'
  · obtain ⟨a, b, e1, r⟩ := h.pot
    exact ⟨a, b, s _ _ e e1, r⟩
theorem CsAll.look {CB CH : Addr} {H H' : Hp} {L : Addr} {ts : List Addr} {ds : List CsD} (h : CsAll CB CH H L ts ds) {d : CsD} (hd : d ∈ ds) (hp : Pot H d.p) (hp' : Pot H' d.p) (s : SameB d.p H H') : CsAll CB CH H' L ts ds := by
  refine ⟨s _ _ (ne_of_pot hp h.hl refs_no_pot) h.hl, ?_, h.far, h.la, h.nL⟩
  refine paired_mem2 h.hp fun t e _ he ht => ⟨s _ _ (ne_of_pot hp ht.1) ht.1, ht.2.1.aside hp hp' s (h.far d hd e he), s _ _ (ne_of_pot hp ht.2.2 refs_no_pot) ht.2.2⟩
theorem CaseB.nR {CB CH : Addr} {H : Hp} {p b T L : Addr} {C : CaseD} {rk : List (Str × Int)} {es' : List Evt} {fp ts : List Addr} (h : CaseB CB CH H p b T C rk es' fp) (hl : H L = some (.lst (ts.map V.ref))) (ht : ∀ t ∈ ts, ∃ (x : Addr) (vs : List V), H t = some (.tup (.ref x :: vs))) : C.R ≠ L := by
  obtain ⟨rts, eR, hrts⟩ := h.cs.hR
  intro e
  rw [e, hl] at eR
  have e1 := HO.lst.inj (Option.some.inj eR)
  have rl : rts.length = C.es.length := Paired.length hrts
  have e0 := h.cg.e0
  cases rts with
  | nil => rw [← rl] at e0; cases e0
  | cons a r =>
    cases ts with
    | nil => cases e1
    | cons t ts' =>
      have e2 : V.ref t = V.ref a := (List.cons.inj e1).1
      cases e2
      obtain ⟨x, vs, k⟩ := ht _ List.mem_cons_self
      obtain ⟨e3, _, k2⟩ := paired_in hrts List.mem_cons_self
      have k2 : H _ = some (.tup [.int e3.kn, .str e3.who, .int e3.day, e3.w]) := k2
      rw [k] at k2
      cases k2
theorem CaseB.byL {CB CH : Addr} {H H' : Hp} {p b T L : Addr} {C : CaseD} {rk : List (Str × Int)} {es' : List Evt} {fp ts : List Addr} (h : CaseB CB CH H p b T C rk es' fp) (hl : H L = some (.lst (ts.map V.ref))) (ht : ∀ t ∈ ts, ∃ (x : Addr) (vs : List V), H t = some (.tup (.ref x :: vs))) (n : L ∉ fp) (s : SameB L H H') : CaseB CB CH H' p b T C rk es' fp := by
  obtain ⟨rts, eR, hrts⟩ := h.cs.hR
  have nR := h.nR hl ht
  have nn : C.n ≠ L := fun e => by
    have e1 := h.cs.hn
    rw [e, hl] at e1
    have e1 := HO.lst.inj (Option.some.inj e1)
    have z0 := h.cg.z0
    cases hz : C.zs with
    | nil => rw [hz] at z0; cases z0
    | cons a r =>
      rw [hz] at e1
      cases ts with
      | nil => cases e1
      | cons t ts' => cases (List.cons.inj e1).1
  have key : ∀ {a : Addr} {o : HO}, H a = some o → (∀ xs, o ≠ .lst xs) → H' a = some o := fun {a o} e ho => s _ _ (fun z => by rw [z, hl] at e; exact ho _ (Option.some.inj e).symm) e
  have np : p ≠ L := fun e => by
    obtain ⟨x, y, e1, _⟩ := h.pot
    rw [e, hl] at e1
    exact refs_no_pot x y (Option.some.inj e1)
  refine ⟨?_, h.bk.by fun x hx o e => s _ _ (fun z => n (by rw [← z]; exact hx)) e, h.np, ⟨key h.cs.hT (fun xs z => by cases z), s _ _ nn h.cs.hn, ⟨rts, s _ _ nR eR, paired_imp (fun _ _ k => key k (fun xs z => by cases z)) hrts⟩⟩, h.cg, h.bc⟩
  obtain ⟨x, y, e1, r⟩ := h.pot
  exact ⟨x, y, s _ _ np e1, r⟩
theorem CsAll.push {CB CH : Addr} {H H4 H6 : Hp} {L : Addr} {ts : List Addr} {ds : List CsD} {t : Addr} {d : CsD} (h : CsAll CB CH H L ts ds) (s4 : Same H H4) (s6 : Same H4 H6) (ht : CsT CB CH H6 t d) (la : LastG d) (np : H d.p = none) (nf : ∀ a ∈ d.fp, H4 a = none) : CsAll CB CH (upd H6 L (.lst ((ts ++ [t]).map V.ref))) L (ts ++ [t]) (ds ++ [d]) := by
  have h6 := h.mono (s4.trans s6)
  have sB : SameB L H6 (upd H6 L (.lst ((ts ++ [t]).map V.ref))) := SameB.upd (SameB.of (Same.refl _))
  have tn : ∀ x ∈ ts, ∃ (y : Addr) (vs : List V), H6 x = some (.tup (.ref y :: vs)) := fun x hx => by
    obtain ⟨e, _, k, _⟩ := paired_in h6.hp hx
    exact ⟨_, _, k⟩
  have nLd : L ∉ d.fp := fun hm => by
    have := nf _ hm
    rw [s4 _ _ h.hl] at this
    cases this
  have go : ∀ x e, CsT CB CH H6 x e → L ∉ e.fp → CsT CB CH (upd H6 L (.lst ((ts ++ [t]).map V.ref))) x e := fun x e k n => ⟨sB _ _ (ne_of k.1 h6.hl (by intro z; cases z)) k.1, k.2.1.byL h6.hl tn n sB, sB _ _ (k.2.1.nR h6.hl tn) k.2.2⟩
  refine ⟨upd_same, paired_snoc' (paired_mem2 h6.hp fun x e _ he k => go x e k (h.nL e he)) (go t d ht nLd), fun a ha e he hm => ?_, fun a ha => ?_, fun a ha => ?_⟩
  · rcases List.mem_append.mp ha with ha | ha <;> rcases List.mem_append.mp he with he | he
    · exact h.far a ha e he hm
    · rw [List.mem_singleton.mp he] at hm
      obtain ⟨t', _, k0, k, _⟩ := paired_in' (h.mono s4).hp ha
      obtain ⟨x, y, e1, _⟩ := k.pot
      rw [nf _ hm] at e1
      cases e1
    · rw [List.mem_singleton.mp ha] at hm
      obtain ⟨t', _, k0, k, _⟩ := paired_in' h.hp he
      obtain ⟨o, ho⟩ := k.bk.ex _ hm
      rw [np] at ho
      cases ho
    · rw [List.mem_singleton.mp ha, List.mem_singleton.mp he] at hm
      exact ht.2.1.np hm
  · rcases List.mem_append.mp ha with ha | ha
    · exact h.la a ha
    · rw [List.mem_singleton.mp ha]
      exact la
  · rcases List.mem_append.mp ha with ha | ha
    · exact h.nL a ha
    · rw [List.mem_singleton.mp ha]
      exact nLd
end LT
set_option Elab.async false
set_option linter.all false
set_option maxRecDepth 100000
set_option maxHeartbeats 1600000
/-! Own layer: the queue of days owed, day by day and spell by spell. -/
namespace LT
open PySem PySem.Spec PyProof.Rows L2 NdefX
open Classical in
/-- what is owed, and what was given back, when so many days are gone -/
noncomputable def qS (g : Int → Bool) (term leave : Int) : Nat → List Int × List (Int × Int)
  | 0 => ([], [])
  | n + 1 =>
    if Over g term n then ((qS g term leave n).1 ++ [(n : Int)], (qS g term leave n).2)
    else if Over (fun x => !g x) leave n then
      match (qS g term leave n).1 with
      | [] => ([], (qS g term leave n).2)
      | a :: r => (r, (qS g term leave n).2 ++ [(a, (n : Int))])
    else qS g term leave n
noncomputable abbrev qA (g : Int → Bool) (term leave : Int) (n : Nat) : List Int := (qS g term leave n).1
theorem qA_over {g : Int → Bool} {term leave : Int} {n : Nat} (h : Over g term n) : qA g term leave (n + 1) = qA g term leave n ++ [(n : Int)] := by
  show (qS g term leave (n + 1)).1 = _
  rw [qS, if_pos h]
theorem over_not {g : Int → Bool} {term leave : Int} {d : Int} (t0 : 0 ≤ term) (l0 : 0 ≤ leave) (h : Over g term d) : ¬ Over (fun x => !g x) leave d := fun k => by
  have h1 := h.2 d (by omega) (Int.le_refl _)
  have h2 : (!g d) = true := k.2 d (by omega) (Int.le_refl _)
  rw [h1] at h2
  cases h2
theorem qA_home {g : Int → Bool} {term leave : Int} {n : Nat} (t0 : 0 ≤ term) (l0 : 0 ≤ leave) (h : Over (fun x => !g x) leave n) : qA g term leave (n + 1) = (qA g term leave n).tail := by
  show (qS g term leave (n + 1)).1 = _
  rw [qS, if_neg (fun k => over_not t0 l0 k h), if_pos h]
  show _ = (qS g term leave n).1.tail
  cases (qS g term leave n).1 <;> rfl
theorem qA_same {g : Int → Bool} {term leave : Int} {n : Nat} (h : ¬ Over g term n) (k : ¬ Over (fun x => !g x) leave n) : qA g term leave (n + 1) = qA g term leave n := by
  show (qS g term leave (n + 1)).1 = _
  rw [qS, if_neg h, if_neg k]
theorem qA_up {g : Int → Bool} {term leave : Int} (t0 : 0 ≤ term) (l0 : 0 ≤ leave) : ∀ n : Nat, (qA g term leave n).Pairwise (· < ·) ∧ ∀ d ∈ qA g term leave n, 0 ≤ d ∧ d < n ∧ g d = true
  | 0 => ⟨List.Pairwise.nil, nofun⟩
  | n + 1 => by
    obtain ⟨h1, h2⟩ := qA_up t0 l0 n
    by_cases h : Over g term n
    · rw [qA_over h]
      refine ⟨List.pairwise_append.mpr ⟨h1, List.pairwise_singleton _ _, fun a ha b hb => ?_⟩, fun d hd => ?_⟩
      · rw [List.mem_singleton.mp hb]
        exact (h2 a ha).2.1
      · rcases List.mem_append.mp hd with hd | hd
        · obtain ⟨k1, k2, k3⟩ := h2 d hd
          exact ⟨k1, by omega, k3⟩
        · rw [List.mem_singleton.mp hd]
          exact ⟨by omega, by omega, h.2 n (by omega) (Int.le_refl _)⟩
    · by_cases k : Over (fun x => !g x) leave n
      · rw [qA_home t0 l0 k]
        refine ⟨h1.sublist (List.tail_sublist _), fun d hd => ?_⟩
        obtain ⟨k1, k2, k3⟩ := h2 d (List.mem_of_mem_tail hd)
        exact ⟨k1, by omega, k3⟩
      · rw [qA_same h k]
        exact ⟨h1, fun d hd => by
          obtain ⟨k1, k2, k3⟩ := h2 d hd
          exact ⟨k1, by omega, k3⟩⟩
/-! ### days of rows -/
def rngD (a b : Int) : List Int := (List.range (b - a + 1).toNat).map fun (i : Nat) => a + i
theorem rng_mem {a b d : Int} : d ∈ rngD a b ↔ a ≤ d ∧ d ≤ b := by
  unfold rngD
  rw [List.mem_map]
  constructor
  · rintro ⟨i, hi, rfl⟩
    rw [List.mem_range] at hi
    omega
  · intro h
    exact ⟨(d - a).toNat, List.mem_range.mpr (by omega), by omega⟩
theorem rng_nil {a b : Int} (h : b < a) : rngD a b = [] := by
  unfold rngD
  rw [show (b - a + 1).toNat = 0 by omega]
  rfl
theorem rng_snoc {a b : Int} (h : a ≤ b + 1) : rngD a (b + 1) = rngD a b ++ [b + 1] := by
  unfold rngD
  rw [show (b + 1 - a + 1).toNat = (b - a + 1).toNat + 1 by omega, List.range_succ, List.map_append]
  congr 1
  show [a + (((b - a + 1).toNat : Nat) : Int)] = [b + 1]
  rw [show a + (((b - a + 1).toNat : Nat) : Int) = b + 1 by omega]
theorem rng_len (a b : Int) : (rngD a b).length = (b - a + 1).toNat := by
  unfold rngD
  rw [List.length_map, List.length_range]
theorem rng_get (a b : Int) (i : Nat) : (rngD a b)[i]? = if (i : Int) ≤ b - a then some (a + i) else none := by
  unfold rngD
  rw [List.getElem?_map]
  by_cases h : (i : Int) ≤ b - a
  · rw [if_pos h, List.getElem?_range (by omega)]
    rfl
  · rw [if_neg h, List.getElem?_eq_none (by rw [List.length_range]; omega)]
    rfl
theorem rng_drop {a b : Int} {n : Nat} : (rngD a b).drop n = rngD (a + n) b := by
  refine List.ext_getElem? fun i => ?_
  rw [List.getElem?_drop, rng_get, rng_get]
  by_cases h : ((n + i : Nat) : Int) ≤ b - a
  · rw [if_pos h, if_pos (by omega)]
    congr 1
    omega
  · rw [if_neg h, if_neg (by omega)]
def daysR (rows : List LD.Row) : List Int := rows.flatMap fun r => rngD r.1 (r.2.getD 0)
theorem days_behind_rng (f l m : Int) : daysR (behindF f l m) = rngD (f + m) l := by
  unfold behindF daysR
  by_cases h : f + m ≤ l
  · rw [if_pos h]
    show rngD (f + m) l ++ [] = _
    rw [List.append_nil]
  · rw [if_neg h, rng_nil (by omega)]
    rfl
theorem days_app (a b : List LD.Row) : daysR (a ++ b) = daysR a ++ daysR b := List.flatMap_append
theorem days_ins {rows : List LD.Row} (h : ∀ r ∈ rows, ∃ j, r.2 = some j) (d : Int) : LD.Ins rows d ↔ d ∈ daysR rows := by
  unfold daysR
  rw [List.mem_flatMap]
  constructor
  · rintro ⟨r, hr, h1, h2⟩
    obtain ⟨j, e⟩ := h r hr
    exact ⟨r, hr, rng_mem.mpr ⟨h1, by rw [e]; exact h2 j e⟩⟩
  · rintro ⟨r, hr, h1⟩
    obtain ⟨j, e⟩ := h r hr
    obtain ⟨k1, k2⟩ := rng_mem.mp h1
    refine ⟨r, hr, k1, fun i hi => ?_⟩
    rw [hi] at k2
    exact k2
/-- what is owed still, when free days have given back the oldest -/
def giveF : List LD.Row → Int → Int → List LD.Row
  | [], _, _ => []
  | (a, x) :: r, d, l => if d ≤ l then (if x.getD 0 - a ≤ l - d then giveF r (d + (x.getD 0 - a + 1)) l else (a + (l - d + 1), x) :: r) else (a, x) :: r
theorem give_days : ∀ {rows : List LD.Row} {d l : Int}, (∀ r ∈ rows, r.1 ≤ r.2.getD 0) → daysR (giveF rows d l) = (daysR rows).drop (l - d + 1).toNat
  | [], d, l, _ => by
    show [] = _
    exact List.drop_nil.symm
  | (a, x) :: r, d, l, h => by
    have hr : ∀ r' ∈ r, r'.1 ≤ r'.2.getD 0 := fun r' h' => h r' (List.mem_cons_of_mem _ h')
    have ha : a ≤ x.getD 0 := h (a, x) List.mem_cons_self
    have e : daysR ((a, x) :: r) = rngD a (x.getD 0) ++ daysR r := rfl
    unfold giveF
    by_cases hd : d ≤ l
    · rw [if_pos hd]
      by_cases hb : x.getD 0 - a ≤ l - d
      · have hn : (rngD a (x.getD 0)).drop (l - d + 1).toNat = [] := List.drop_eq_nil_of_le (by rw [rng_len]; omega)
        rw [if_pos hb, give_days hr, e, List.drop_append, hn, List.nil_append, rng_len]
        congr 1
        omega
      · rw [if_neg hb, e, List.drop_append, rng_len, show (l - d + 1).toNat - (x.getD 0 - a + 1).toNat = 0 by omega, List.drop_zero, rng_drop, show a + ((l - d + 1).toNat : Int) = a + (l - d + 1) by omega]
        rfl
    · rw [if_neg hd, show (l - d + 1).toNat = 0 by omega, List.drop_zero]
theorem not_over_ash {g : Int → Bool} {term d : Int} (t0 : 0 ≤ term) (h : g d = false) : ¬ Over g term d := fun k => by
  have := k.2 d (by omega) (Int.le_refl _)
  rw [h] at this
  cases this
/-- through days out -/
theorem qA_out {g : Int → Bool} {term leave : Int} {f : Nat} (t0 : 0 ≤ term) (l0 : 0 ≤ leave) (hd : f = 0 ∨ g ((f : Int) - 1) = false) : ∀ k : Nat, (∀ d, (f : Int) ≤ d → d < (f + k : Nat) → g d = true) → qA g term leave (f + k) = qA g term leave f ++ rngD (f + term) ((f + k : Nat) - 1 : Int)
  | 0, _ => by
    rw [rng_nil (by omega), List.append_nil]
    rfl
  | k + 1, h => by
    have ih := qA_out t0 l0 hd k fun d h1 h2 => h d h1 (by omega)
    have gt : ∀ d, (f : Int) ≤ d → d < (f + (k + 1) : Nat) → g d = true := h
    have nash : ¬ Over (fun x => !g x) leave ((f + k : Nat) : Int) := fun q => by
      have h2 : (!g ((f + k : Nat) : Int)) = true := q.2 _ (by omega) (Int.le_refl _)
      rw [gt _ (by omega) (by omega)] at h2
      cases h2
    by_cases ht : (f : Int) + term ≤ (f + k : Nat)
    · have hov : Over g term ((f + k : Nat) : Int) := ⟨by omega, fun x h1 h2 => gt x (by omega) (by omega)⟩
      rw [show f + (k + 1) = (f + k) + 1 by omega, qA_over hov, ih, List.append_assoc]
      congr 1
      rw [show (((f + k + 1 : Nat) : Int) - 1) = (((f + k : Nat) : Int) - 1) + 1 by omega, rng_snoc (by omega)]
      congr 2
      omega
    · have hno : ¬ Over g term ((f + k : Nat) : Int) := fun q => by
        rcases hd with e | e
        · have := q.1
          omega
        · have := q.2 ((f : Int) - 1) (by omega) (by omega)
          rw [e] at this
          cases this
      rw [show f + (k + 1) = (f + k) + 1 by omega, qA_same hno nash, ih, rng_nil (by omega), rng_nil (by omega)]
/-- through days ashore -/
theorem qA_ash {g : Int → Bool} {term leave : Int} {f : Nat} (t0 : 0 ≤ term) (l0 : 0 ≤ leave) (hd : f = 0 ∨ g ((f : Int) - 1) = true) : ∀ k : Nat, (∀ d, (f : Int) ≤ d → d < (f + k : Nat) → g d = false) → qA g term leave (f + k) = (qA g term leave f).drop ((k : Int) - leave).toNat
  | 0, _ => by
    rw [show ((0 : Nat) - leave : Int).toNat = 0 by omega, List.drop_zero]
    rfl
  | k + 1, h => by
    have ih := qA_ash t0 l0 hd k fun d h1 h2 => h d h1 (by omega)
    have gt : ∀ d, (f : Int) ≤ d → d < (f + (k + 1) : Nat) → g d = false := h
    have hno : ¬ Over g term ((f + k : Nat) : Int) := not_over_ash t0 (gt _ (by omega) (by omega))
    by_cases ht : (f : Int) + leave ≤ (f + k : Nat)
    · have hov : Over (fun x => !g x) leave ((f + k : Nat) : Int) := ⟨by omega, fun x h1 h2 => by
        show (!g x) = true
        rw [gt x (by omega) (by omega)]
        rfl⟩
      rw [show f + (k + 1) = (f + k) + 1 by omega, qA_home t0 l0 hov, ih, List.tail_drop]
      congr 1
      omega
    · have nash : ¬ Over (fun x => !g x) leave ((f + k : Nat) : Int) := fun q => by
        rcases hd with e | e
        · have := q.1
          omega
        · have h2 : (!g ((f : Int) - 1)) = true := q.2 ((f : Int) - 1) (by omega) (by omega)
          rw [e] at h2
          cases h2
      rw [show f + (k + 1) = (f + k) + 1 by omega, qA_same hno nash, ih]
      congr 1
      omega
/-- the rows owed, one way only -/
structure IsOwed (g : Int → Bool) (term leave : Int) (n : Nat) (rows : List LD.Row) : Prop where
  asc : LD.Asc rows
  fin : ∀ r ∈ rows, ∃ j, r.2 = some j
  days : daysR rows = qA g term leave n
theorem IsOwed.uniq {g : Int → Bool} {term leave : Int} {n : Nat} {r s : List LD.Row} (a : IsOwed g term leave n r) (b : IsOwed g term leave n s) : r = s := LD.asc_uniq a.asc b.asc fun d => by
  rw [days_ins a.fin, days_ins b.fin, a.days, b.days]
theorem IsOwed.le {g : Int → Bool} {term leave : Int} {n : Nat} {rows : List LD.Row} (h : IsOwed g term leave n rows) : ∀ r ∈ rows, r.1 ≤ r.2.getD 0 := fun r hr => by
  obtain ⟨j, e⟩ := h.fin r hr
  rw [e]
  exact (h.asc.ok r hr).2 j e
theorem give_fin : ∀ {rows : List LD.Row} {d l : Int}, (∀ r ∈ rows, ∃ j, r.2 = some j) → ∀ r ∈ giveF rows d l, ∃ j, r.2 = some j
  | [], _, _, _, r, hr => (by cases hr)
  | (a, x) :: t, d, l, h, r, hr => by
    unfold giveF at hr
    split at hr
    · split at hr
      · exact give_fin (fun r' h' => h r' (List.mem_cons_of_mem _ h')) r hr
      · rcases List.mem_cons.mp hr with e | e
        · rw [e]
          exact h (a, x) List.mem_cons_self
        · exact h r (List.mem_cons_of_mem _ e)
    · exact h r hr
theorem give_asc : ∀ {rows : List LD.Row} {d l : Int}, LD.Asc rows → (∀ r ∈ rows, ∃ j, r.2 = some j) → LD.Asc (giveF rows d l)
  | [], _, _, h, _ => h
  | (a, x) :: t, d, l, h, hf => by
    have pw := List.pairwise_cons.mp h.pw
    have ht : LD.Asc t := ⟨fun r hr => h.ok r (List.mem_cons_of_mem _ hr), pw.2⟩
    unfold giveF
    split
    · split
      · exact give_asc ht fun r' h' => hf r' (List.mem_cons_of_mem _ h')
      · obtain ⟨j, e⟩ := hf (a, x) List.mem_cons_self
        have e : x = some j := e
        subst e
        have hb : ¬ j - a ≤ l - d := by assumption
        have hd : d ≤ l := by assumption
        refine ⟨fun r hr => ?_, List.pairwise_cons.mpr ⟨fun r hr => pw.1 r hr, pw.2⟩⟩
        rcases List.mem_cons.mp hr with e | e
        · rw [e]
          have h0 := (h.ok (a, some j) List.mem_cons_self).1
          have h0 : 0 ≤ a := h0
          exact ⟨by show 0 ≤ a + (l - d + 1); omega, fun k hk => by cases hk; show a + (l - d + 1) ≤ j; omega⟩
        · exact h.ok r (List.mem_cons_of_mem _ e)
    · exact h
theorem IsOwed.out {g : Int → Bool} {term leave : Int} {f l : Nat} {rows : List LD.Row} (h : IsOwed g term leave f rows) (t0 : 0 ≤ term) (l0 : 0 ≤ leave) (hd : f = 0 ∨ g ((f : Int) - 1) = false) (fl : f ≤ l) (hg : ∀ d, (f : Int) ≤ d → d ≤ l → g d = true) : IsOwed g term leave (l + 1) (rows ++ behindF f l term) := by
  have up := (qA_up (g := g) t0 l0 f).2
  have hq := qA_out (g := g) (f := f) t0 l0 hd (l + 1 - f) fun d h1 h2 => hg d h1 (by omega)
  rw [show f + (l + 1 - f) = l + 1 by omega, show ((l + 1 : Nat) : Int) - 1 = (l : Int) by omega] at hq
  have bm : ∀ r ∈ behindF (f : Int) (l : Int) term, r = ((f : Int) + term, some (l : Int)) ∧ (f : Int) + term ≤ l := fun r hr => by
    unfold behindF at hr
    split at hr
    · exact ⟨List.mem_singleton.mp hr, by assumption⟩
    · cases hr
  refine ⟨⟨fun r hr => ?_, List.pairwise_append.mpr ⟨h.asc.pw, ?_, fun r hr s hs => ?_⟩⟩, fun r hr => ?_, ?_⟩
  · rcases List.mem_append.mp hr with hr | hr
    · exact h.asc.ok r hr
    · obtain ⟨e, k⟩ := bm r hr
      rw [e]
      exact ⟨by show 0 ≤ (f : Int) + term; omega, fun j hj => by cases hj; exact k⟩
  · unfold behindF
    split
    · exact List.pairwise_singleton _ _
    · exact List.Pairwise.nil
  · obtain ⟨e, k⟩ := bm s hs
    obtain ⟨j, ej⟩ := h.fin r hr
    have hj : j ∈ daysR rows := (days_ins h.fin j).mp ⟨r, hr, (h.asc.ok r hr).2 j ej, fun i hi => by rw [ej] at hi; cases hi; exact Int.le_refl _⟩
    rw [h.days] at hj
    obtain ⟨k1, k2, k3⟩ := up j hj
    refine ⟨j, ej, ?_⟩
    rw [e]
    show j + 1 < (f : Int) + term
    rcases hd with e0 | e0
    · omega
    · have : j ≠ (f : Int) - 1 := fun z => by
        rw [z, e0] at k3
        cases k3
      omega
  · rcases List.mem_append.mp hr with hr | hr
    · exact h.fin r hr
    · obtain ⟨e, _⟩ := bm r hr
      rw [e]
      exact ⟨_, rfl⟩
  · rw [days_app, days_behind_rng, h.days, hq]
theorem IsOwed.ash {g : Int → Bool} {term leave : Int} {f l : Nat} {rows : List LD.Row} (h : IsOwed g term leave f rows) (t0 : 0 ≤ term) (l0 : 0 ≤ leave) (hd : f = 0 ∨ g ((f : Int) - 1) = true) (fl : f ≤ l) (hg : ∀ d, (f : Int) ≤ d → d ≤ l → g d = false) : IsOwed g term leave (l + 1) (giveF rows (f + leave) l) := by
  have hq := qA_ash (g := g) (term := term) (f := f) t0 l0 hd (l + 1 - f) fun d h1 h2 => hg d h1 (by omega)
  rw [show f + (l + 1 - f) = l + 1 by omega] at hq
  refine ⟨give_asc h.asc h.fin, give_fin h.fin, ?_⟩
  rw [give_days h.le, h.days, hq]
  congr 1
  omega
end LT
set_option Elab.async false
set_option linter.all false
set_option maxRecDepth 100000
set_option maxHeartbeats 1600000
/-! Own layer: what the top has left of defs and methods that make lambdas. -/
namespace LT
open PySem PySem.Spec PyProof.Rows L2 NdefX LamX
/-- of a def -/
structure LeftLd (K : PySem.W.Frag) (x : Str) (st : Stmt) (f c P : Addr) (oc : Value) (od an : Option Addr) (kV dc pm ct : Value) (sl : Array (Option Value)) (oC : Value) (dC : Option Addr) (vC : Array Value) (sC : Array (Option Value)) : Prop where
  ns : PySem.W.nsIn K mainGlobals x = some (some (.ref f))
  lk : K.lookup f = some ⟨oc, od, .func (PySem.W.fnOf x x (defArgs st) (defBody st) (defScope st) .none kV dc pm an (.ref c) ct), sl⟩
  cd : PySem.W.codeIn K (.ref c) x = true
  kp : PySem.W.keepIn K (.ref f) = true
  lC : K.lookup c = some ⟨oC, dC, .fields vC, sC⟩
  vP : vC[11]? = some (.ref P)
  hd : PySem.W.codeHdIn K c P = true
  nP : K.lookup P = none
theorem LeftLd.fn {K : PySem.W.Frag} {x : Str} {st : Stmt} {f c P : Addr} {oc : Value} {od an : Option Addr} {kV dc pm ct : Value} {sl : Array (Option Value)} {oC : Value} {dC : Option Addr} {vC : Array Value} {sC : Array (Option Value)} (h : LeftLd K x st f c P oc od an kV dc pm ct sl oC dC vC sC) :
    FunC K x x st f c (PySem.W.fnOf x x (defArgs st) (defBody st) (defScope st) .none kV dc pm an (.ref c) ct) := ⟨⟨oc, od, kV, dc, pm, an, ct, sl, rfl, h.lk, h.cd⟩, h.kp⟩
/-- of a method -/
structure LeftLm (K : PySem.W.Frag) (C : Addr) (x q : Str) (st : Stmt) (f c P : Addr) (oc : Value) (od an : Option Addr) (kV dc pm ct : Value) (sl : Array (Option Value)) (oC : Value) (dC : Option Addr) (vC : Array Value) (sC : Array (Option Value)) : Prop where
  at_ : PySem.W.findIn K (.ref C) x = some (some (.ref f))
  lk : K.lookup f = some ⟨oc, od, .func (PySem.W.fnOf x q (defArgs st) (defBody st) (defScope st) .none kV dc pm an (.ref c) ct), sl⟩
  cd : PySem.W.codeIn K (.ref c) q = true
  kp : PySem.W.keepIn K (.ref f) = true
  isf : PySem.W.isFn K (.ref f) = true
  lC : K.lookup c = some ⟨oC, dC, .fields vC, sC⟩
  vP : vC[11]? = some (.ref P)
  hd : PySem.W.codeHdIn K c P = true
  nP : K.lookup P = none
theorem LeftLm.fn {K : PySem.W.Frag} {C : Addr} {x q : Str} {st : Stmt} {f c P : Addr} {oc : Value} {od an : Option Addr} {kV dc pm ct : Value} {sl : Array (Option Value)} {oC : Value} {dC : Option Addr} {vC : Array Value} {sC : Array (Option Value)} (h : LeftLm K C x q st f c P oc od an kV dc pm ct sl oC dC vC sC) :
    FunC K x q st f c (PySem.W.fnOf x q (defArgs st) (defBody st) (defScope st) .none kV dc pm an (.ref c) ct) := ⟨⟨oc, od, kV, dc, pm, an, ct, sl, rfl, h.lk, h.cd⟩, h.kp⟩
theorem LeftLm.me {K : PySem.W.Frag} {C : Addr} {x q : Str} {st : Stmt} {f c P : Addr} {oc : Value} {od an : Option Addr} {kV dc pm ct : Value} {sl : Array (Option Value)} {oC : Value} {dC : Option Addr} {vC : Array Value} {sC : Array (Option Value)} (h : LeftLm K C x q st f c P oc od an kV dc pm ct sl oC dC vC sC) :
    Meth K C x f := ⟨h.at_, h.isf, h.kp⟩
end LT
set_option Elab.async false
set_option linter.all false
set_option maxRecDepth 100000
set_option maxHeartbeats 1600000
/-! Own layer: books where lambdas are made; book_of. -/
namespace LT
open PySem PySem.Spec PyProof.Rows L2 NdefX LamX
/-- neither a table nor a code object -/
def Plain (o : HO) : Prop := (∀ ps, o ≠ .tbl ps) ∧ ∀ c q, o ≠ CodeO c q
theorem plain_ins {C dx : Addr} {fs : List (Str × V)} : Plain (.ins C dx fs) := ⟨nofun, fun c q z => by unfold CodeO at z; cases z⟩
theorem plain_dK {r : List (Key × V)} : Plain (.dK r) := ⟨nofun, fun c q z => by unfold CodeO at z; cases z⟩
theorem plain_lst {xs : List V} : Plain (.lst xs) := ⟨nofun, fun c q z => by unfold CodeO at z; cases z⟩
theorem HistAt.pl {C : Addr} {H : Hp} {a : HA} (h : HistAt C H a) : ∀ c ∈ a.fp, ∀ o, H c = some o → Plain o := by
  intro c hc o e
  rcases List.mem_cons.mp hc with rfl | hc
  · rw [h.ix] at e
    cases e
    exact plain_ins
  rcases List.mem_cons.mp hc with rfl | hc
  · rw [h.bd] at e
    cases e
    exact plain_dK
  obtain ⟨p, hp, rfl⟩ := List.mem_map.mp hc
  obtain ⟨i, hi⟩ := List.getElem?_of_mem hp
  obtain ⟨e', _, _, h2⟩ := paired_get h.ta hi
  rw [h2] at e
  cases e
  exact plain_dK
theorem BkH.pl {CB CH : Addr} {H : Hp} {B : BA} {v : V} (h : BkH CB CH H B v) : ∀ c ∈ B.fp, ∀ o, H c = some o → Plain o := by
  intro c hc o e
  rcases List.mem_cons.mp hc with rfl | hc
  · rw [h.ix] at e
    cases e
    exact plain_ins
  rcases List.mem_cons.mp hc with rfl | hc
  · rw [h.rd] at e
    cases e
    exact plain_dK
  rcases List.mem_cons.mp hc with rfl | hc
  · rw [h.md] at e
    cases e
    exact plain_dK
  rcases List.mem_cons.mp hc with rfl | hc
  · rw [h.ldd] at e
    cases e
    exact plain_dK
  rcases List.mem_append.mp hc with hc | hc
  · obtain ⟨x, hx, hc⟩ := hsfp_mem.mp hc
    exact (h.hm x hx).pl c hc o e
  · obtain ⟨x, hx, hc⟩ := hsfp_mem.mp hc
    exact (h.hl x hx).pl c hc o e
theorem Bk.pl {CB CH : Addr} {H : Hp} {b : Addr} {rk : List (Str × Int)} {es : List Evt} {fp : List Addr} (h : Bk CB CH H b rk es fp) : ∀ c ∈ fp, ∀ o, H c = some o → Plain o := by
  obtain ⟨B, rfl, rfl, rfl, rfl, h1, _⟩ := h
  exact h1.pl
theorem Bk.extN {CB CH : Addr} {H H' : Hp} {b : Addr} {rk : List (Str × Int)} {es : List Evt} {fp : List Addr} (h : Bk CB CH H b rk es fp) (e : ExtN H H') : Bk CB CH H' b rk es fp := h.by fun c hc o x => e c o x (h.pl c hc o x).1
theorem tabs_L {T : List (Addr × Str)} {fp : List Addr} {H H' : Hp} (t : Tabs T H) (hp : ∀ c ∈ fp, ∀ o, H c = some o → Plain o) (s : SameL fp H H') : Tabs T H' := fun x hx => by
  obtain ⟨ps, h1, h2, h3⟩ := t x hx
  refine ⟨ps, s _ _ (fun m => (hp _ m _ h1).1 ps rfl) h1, h2, fun pos cv hc => ?_⟩
  obtain ⟨c, e1, e2⟩ := h3 pos cv hc
  exact ⟨c, e1, s _ _ (fun m => (hp _ m _ e2).2 c x.2 rfl) e2⟩
/-! ### sorted by the known day -/
def knLe (a b : Evt) : Bool := decide (a.kn ≤ b.kn)
/-! ### entries of entries -/
theorem entA_has {mv : Bool} {who : Str} {d kn : Int} : ∀ es : List Evt, (∃ e ∈ es, e.mv = mv ∧ e.who = who ∧ e.day = d ∧ e.kn = kn) → ∃ w, entA es mv who d kn = some w := by
  refine snoc_ind (fun ⟨_, h, _⟩ => nomatch h) fun es e ih h => ?_
  unfold entA
  rw [histE_snoc]
  unfold stepH
  by_cases ho : ofE mv who e = true
  · rw [if_pos ho, getA_note]
    by_cases hd : d = e.day
    · rw [if_pos hd]
      show ∃ w, getA (putA ((getA (histE es mv who) e.day).getD []) e.kn e.w) kn = some w
      rw [getA_put]
      by_cases hk : kn = e.kn
      · rw [if_pos hk]
        exact ⟨_, rfl⟩
      · rw [if_neg hk]
        obtain ⟨x, hx, h1, h2, h3, h4⟩ := h
        rcases List.mem_append.mp hx with hx | hx
        · have := ih ⟨x, hx, h1, h2, h3, h4⟩
          rw [← hd]
          exact this
        · rw [List.mem_singleton.mp hx] at h4
          exact absurd h4.symm hk
    · rw [if_neg hd]
      obtain ⟨x, hx, h1, h2, h3, h4⟩ := h
      rcases List.mem_append.mp hx with hx | hx
      · exact ih ⟨x, hx, h1, h2, h3, h4⟩
      · rw [List.mem_singleton.mp hx] at h3
        exact absurd h3.symm hd
  · rw [if_neg ho]
    obtain ⟨x, hx, h1, h2, h3, h4⟩ := h
    rcases List.mem_append.mp hx with hx | hx
    · exact ih ⟨x, hx, h1, h2, h3, h4⟩
    · rw [List.mem_singleton.mp hx] at h1 h2
      exact absurd (ofE_iff.mpr ⟨h1, h2⟩) ho
theorem entA_in {es : List Evt} {mv : Bool} {who : Str} {d kn : Int} {w : V} (h : entA es mv who d kn = some w) : (⟨mv, kn, who, d, w⟩ : Evt) ∈ es := flat_ev (entA_mem.mpr h)
theorem entA_uniq {es : List Evt} (nd : es.Pairwise fun a b => ¬ EvSame a b) (e : Evt) : e ∈ es ↔ entA es e.mv e.who e.day e.kn = some e.w := by
  constructor
  · intro h
    obtain ⟨w, hw⟩ := entA_has es ⟨e, h, rfl, rfl, rfl, rfl⟩
    have h2 := entA_in hw
    rw [hw]
    by_cases he : e = ⟨e.mv, e.kn, e.who, e.day, w⟩
    · rw [show e.w = w from congrArg Evt.w he]
    · have key : ∀ (l : List Evt), (l.Pairwise fun a b => ¬ EvSame a b) → e ∈ l → (⟨e.mv, e.kn, e.who, e.day, w⟩ : Evt) ∈ l → False := by
        intro l nl h1 h2
        obtain ⟨i, hi⟩ := List.getElem?_of_mem h1
        obtain ⟨j, hj⟩ := List.getElem?_of_mem h2
        have a1 := List.getElem?_eq_some_iff.mp hi
        have a2 := List.getElem?_eq_some_iff.mp hj
        rcases Nat.lt_trichotomy i j with q | q | q
        · have := List.pairwise_iff_getElem.mp nl i j a1.1 a2.1 q
          rw [a1.2, a2.2] at this
          exact this ⟨rfl, rfl, rfl, rfl⟩
        · subst q
          rw [hi] at hj
          exact he (Option.some.inj hj)
        · have := List.pairwise_iff_getElem.mp nl j i a2.1 a1.1 q
          rw [a1.2, a2.2] at this
          exact this ⟨rfl, rfl, rfl, rfl⟩
      exact (key es nd h h2).elim
  · intro h
    have := entA_in h
    exact this
theorem IsEnts.sub {es L : List Evt} (h : IsEnts es L) : ∀ e ∈ L, e ∈ es := fun e he => entA_in ((h.mem e).mp he)
theorem IsEnts.len {es L : List Evt} (h : IsEnts es L) : L.length ≤ es.length := List.Nodup.length_le_of_subset h.nodup fun e he => h.sub e he
/-- told anew by the known days, the entries are the same -/
theorem IsEnts.again {es L : List Evt} (h : IsEnts es L) : IsEnts (L.mergeSort knLe) L := by
  have p := List.mergeSort_perm L knLe
  have nd : (L.mergeSort knLe).Pairwise fun a b => ¬ EvSame a b := p.symm.pairwise h.nd fun h s => h ⟨s.1.symm, s.2.1.symm, s.2.2.1.symm, s.2.2.2.symm⟩
  exact ⟨h.up, h.nd, fun e => p.mem_iff.symm.trans (entA_uniq nd e)⟩
end LT
set_option Elab.async false
set_option linter.all false
set_option maxRecDepth 100000
set_option maxHeartbeats 1600000
/-! Own layer: how entries show, where LtWm can't stand beside the owed layers (same names); tables and the pot. -/
namespace LV
open PySem PySem.Spec PyProof.Rows L2 NdefX LamX LT
theorem pot_pl {H : Hp} {p : Addr} (h : Pot H p) : ∀ o, H p = some o → LT.Plain o := fun o e => by
  obtain ⟨x, y, e1, _⟩ := h
  rw [e1] at e
  cases e
  exact plain_lst
theorem tabs_pot {T : List (Addr × Str)} {p : Addr} {H H' : Hp} (t : Tabs T H) (hp : Pot H p) (s : SameB p H H') : Tabs T H' :=
  tabs_L (fp := [p]) t (fun c hc o e => by rw [List.mem_singleton.mp hc] at e; exact pot_pl hp o e) (SameL.ofB List.mem_cons_self s)
def wD : V → PyData
  | .int i => .int i
  | .str z => .str z
  | _ => .none
def evD (e : Evt) : PyData := .tuple [.str (kindS e.mv), .int e.kn, .str e.who, .int e.day, wD e.w]
theorem wD_dp {K : PySem.W.Frag} {H : Hp} {w : V} (h : w = .non ∨ (∃ i, w = .int i) ∨ ∃ z, w = .str z) : Dp K H w (wD w) := by
  rcases h with rfl | ⟨i, rfl⟩ | ⟨z, rfl⟩
  · exact .non
  · exact .int i
  · exact .str z
theorem w3 {rk : List (Str × Int)} {e : Evt} (h : EvOK rk e) : e.w = .non ∨ (∃ i, e.w = .int i) ∨ ∃ z, e.w = .str z := by
  cases hm : e.mv with
  | true =>
    rcases (h.mw hm).2 with h2 | ⟨z, h2, hz⟩
    · exact .inl h2
    · exact .inr (.inr ⟨z, h2⟩)
  | false =>
    obtain ⟨_, n, h2, _⟩ := h.lw hm
    exact .inr (.inl ⟨n, h2⟩)
theorem evD_show {rk : List (Str × Int)} {e : Evt} (h : EvOK rk e) (hk : e.kn < 10 ^ 60) (hn : ∀ z ∈ rk.map (·.1), Nm z) : (evD e).showable = true ∧ (evD e).hasDict = false ∧ (evD e).shown.length ≤ 1000 ∧ (evD e).depth ≤ 3 := by
  have k0 := h.k0
  have d0 := h.d0
  have d1 := h.d1
  have nw : Nm e.who := by
    cases hm : e.mv with
    | true => exact hn _ (h.mw hm).1
    | false => exact (h.lw hm).1
  have hw : (wD e.w).showable = true ∧ (wD e.w).hasDict = false ∧ (wD e.w).shown.length ≤ 210 ∧ (wD e.w).depth ≤ 1 := by
    cases hm : e.mv with
    | true =>
      rcases (h.mw hm).2 with h2 | ⟨z, h2, hz⟩
      · rw [h2]
        exact ⟨by simp [wD, PyData.showable], by simp [wD, PyData.hasDict], by simp only [wD, PyData.shown]; decide +kernel, by simp [wD, PyData.depth]⟩
      · rw [h2]
        have := pl_repr hz
        exact ⟨by simp [wD, PyData.showable], by simp [wD, PyData.hasDict], by simp only [wD, PyData.shown]; omega, by simp [wD, PyData.depth]⟩
    | false =>
      obtain ⟨_, n, h2, n0, n1⟩ := h.lw hm
      rw [h2]
      have hb : n.natAbs ≤ 10 ^ 61 := by omega
      have := tlen61 hb
      exact ⟨by simp only [wD, PyData.showable]; exact decide_eq_true (lg61 hb), by simp [wD, PyData.hasDict], by simp only [wD, PyData.shown]; omega, by simp [wD, PyData.depth]⟩
  have bk : e.kn.natAbs ≤ 10 ^ 61 := by omega
  have bd : e.day.natAbs ≤ 10 ^ 61 := by omega
  have t1 := tlen61 bk
  have t2 := tlen61 bd
  have t3 := nm_repr nw
  have t4 : (reprText (kindS e.mv)).length ≤ 10 := by cases e.mv <;> decide +kernel
  refine ⟨?_, ?_, ?_, ?_⟩
  · simp only [evD, PyData.showable, PyData.showableAll, hw.1, decide_eq_true (lg61 bk), decide_eq_true (lg61 bd), Bool.and_self]
  · simp only [evD, PyData.hasDict, PyData.hasDictAll, hw.2.1, Bool.or_self]
  · have e1 := tupleText_len_le [reprText (kindS e.mv), Str.ofString (toString e.kn), reprText e.who, Str.ofString (toString e.day), (wD e.w).shown]
    have e2 : (evD e).shown = tupleText [reprText (kindS e.mv), Str.ofString (toString e.kn), reprText e.who, Str.ofString (toString e.day), (wD e.w).shown] := by simp only [evD, PyData.shown, PyData.shownAll]
    rw [e2]
    simp only [List.map_cons, List.map_nil, List.sum_cons, List.sum_nil, List.length_cons, List.length_nil] at e1
    omega
  · simp only [evD, PyData.depth, PyData.depthAll]
    omega
theorem all_show {rk : List (Str × Int)} (hn : ∀ z ∈ rk.map (·.1), Nm z) : ∀ {L : List Evt}, (∀ e ∈ L, EvOK rk e ∧ e.kn < 10 ^ 60) → PyData.showableAll (L.map evD) = true ∧ (∀ d ∈ L.map evD, d.hasDict = false) ∧ (∀ t ∈ PyData.shownAll (L.map evD), t.length ≤ 1000) ∧ (PyData.shownAll (L.map evD)).length = L.length ∧ PyData.depthAll (L.map evD) ≤ 3
  | [], _ => ⟨by simp [PyData.showableAll], nofun, by simp [PyData.shownAll], by simp [PyData.shownAll], by simp [PyData.depthAll]⟩
  | e :: L, h => by
    obtain ⟨a1, a2, a3, a4, a5⟩ := all_show hn (L := L) fun x hx => h x (List.mem_cons_of_mem _ hx)
    obtain ⟨b1, b2, b3, b4⟩ := evD_show (h e List.mem_cons_self).1 (h e List.mem_cons_self).2 hn
    refine ⟨by simp only [List.map_cons, PyData.showableAll, a1, b1, Bool.and_self], fun d hd => ?_, fun t ht => ?_, by simp only [List.map_cons, PyData.shownAll, List.length_cons, a4], by simp only [List.map_cons, PyData.depthAll]; omega⟩
    · rcases List.mem_cons.mp hd with rfl | hd
      · exact b2
      · exact a2 d hd
    · simp only [List.map_cons, PyData.shownAll] at ht
      rcases List.mem_cons.mp ht with rfl | ht
      · exact b3
      · exact a3 t ht
theorem sum_lenK (n : Nat) : ∀ ts : List Str, (∀ t ∈ ts, t.length ≤ n) → (ts.map (·.length)).sum ≤ n * ts.length
  | [], _ => Nat.zero_le _
  | t :: r, h => by
    have h1 := sum_lenK n r fun x hx => h x (List.mem_cons_of_mem _ hx)
    have h2 := h t List.mem_cons_self
    rw [List.map_cons, List.sum_cons, List.length_cons, Nat.mul_add, Nat.mul_one]
    omega
theorem list_shows {ds : List PyData} (h1 : PyData.showableAll ds = true) (h2 : PyData.depthAll ds ≤ 50) (h3 : ∀ t ∈ PyData.shownAll ds, t.length ≤ 1000) (h4 : (PyData.shownAll ds).length ≤ 100) :
    (PyData.list ds).showable = true ∧ (PyData.list ds).depth ≤ 60 ∧ (PyData.list ds).shown.length ≤ sizeLine := by
  refine ⟨by simpa only [PyData.showable] using h1, by simp only [PyData.depth]; omega, ?_⟩
  have a := listText_len_le (PyData.shownAll ds)
  have b := sum_lenK 1000 _ h3
  have e : (PyData.list ds).shown = listText (PyData.shownAll ds) := by simp only [PyData.shown]
  rw [e, sizeLine_eq]
  omega
theorem ev_sd {K : PySem.W.Frag} {H : Hp} {rk : List (Str × Int)} (hn : ∀ z ∈ rk.map (·.1), Nm z) : ∀ {us : List Addr} {L : List Evt}, Paired (EvT H) us L → (∀ e ∈ L, EvOK rk e ∧ e.kn < 10 ^ 60) → Paired (Sd K H) (us.map V.ref) (L.map evD)
  | _, _, .nil, _ => .nil
  | _, _, .cons (a := t) (b := r) h k, hs => .cons (.dp (.tup (SqT.of h) (.cons (.str _) (.cons (.int _) (.cons (.str _) (.cons (.int _) (.cons (wD_dp (w3 (hs r List.mem_cons_self).1)) .nil)))))) (evD_show (hs r List.mem_cons_self).1 (hs r List.mem_cons_self).2 hn).2.1) (ev_sd hn k fun x hx => hs x (List.mem_cons_of_mem _ hx))
/-- entries: what repr wants -/
theorem ents_show {K : PySem.W.Frag} {H : Hp} {rk : List (Str × Int)} {us : List Addr} {L : List Evt} (k : Rk rk) (h : ∀ e ∈ L, EvOK rk e ∧ e.kn < 10 ^ 60) (hl : L.length ≤ 60) (p : Paired (EvT H) us L) :
    Paired (Sd K H) (us.map V.ref) (L.map evD) ∧ (PyData.list (L.map evD)).showable = true ∧ (PyData.list (L.map evD)).depth ≤ 60 ∧ (PyData.list (L.map evD)).shown.length ≤ sizeLine := by
  have hn : ∀ z ∈ rk.map (·.1), Nm z := fun z hz => by
    obtain ⟨p, hp, rfl⟩ := List.mem_map.mp hz
    exact k.nm p hp
  obtain ⟨a1, a2, a3, a4, a5⟩ := all_show hn h
  exact ⟨ev_sd hn p h, list_shows a1 (by omega) a3 (by omega)⟩
end LV
set_option Elab.async false
set_option linter.all false
set_option maxRecDepth 100000
namespace K74
open PySem PySem.Spec PyProof.Rows L2 LT NdefX
def topS (i : Nat) : Stmt := PySem.Challenge.pw_lightturns_k74_owed_refused.main.body.getD i (.Pass ⟨0, 0, 0, 0⟩)
abbrev s_is_name : Stmt := topS 16
abbrev s_is_place : Stmt := topS 19
abbrev s_is_whole : Stmt := topS 21
abbrev s_is_from : Stmt := topS 22
abbrev s_is_within : Stmt := topS 23
abbrev s_is_day : Stmt := topS 24
abbrev s_check_day : Stmt := topS 26
abbrev s_check_known : Stmt := topS 27
abbrev s_check_days : Stmt := topS 28
abbrev s_check_light : Stmt := topS 29
abbrev s_check_place : Stmt := topS 30
abbrev s_check_number : Stmt := topS 31
abbrev s_History___init__ : Stmt := inClass (topS 33) 0
abbrev s_History_note : Stmt := inClass (topS 33) 1
abbrev s_History_all_told : Stmt := inClass (topS 33) 2
abbrev s_History_told_last : Stmt := inClass (topS 33) 3
abbrev s_History_holding : Stmt := inClass (topS 33) 4
abbrev s_Book___init__ : Stmt := inClass (topS 38) 0
abbrev s_Book_tell : Stmt := inClass (topS 38) 2
abbrev s_Book_land : Stmt := inClass (topS 38) 3
abbrev s_Book_moves_known : Stmt := inClass (topS 38) 7
abbrev s_Book_entries : Stmt := inClass (topS 38) 9
abbrev s_check_keeper : Stmt := topS 39
abbrev s_check_not_early : Stmt := topS 40
abbrev s_are_ranks : Stmt := topS 41
abbrev s_Stretch___init__ : Stmt := inClass (topS 43) 0
abbrev s_Stretch_first : Stmt := inClass (topS 43) 1
abbrev s_Stretch_last : Stmt := inClass (topS 43) 2
abbrev s_earlier_end : Stmt := topS 44
abbrev s_runs_of : Stmt := topS 46
abbrev s_turns : Stmt := topS 48
abbrev s_days_over : Stmt := topS 50
abbrev s_days_owed : Stmt := topS 51
abbrev s_days_given : Stmt := topS 52
abbrev s_settled : Stmt := topS 53
abbrev s_given_back : Stmt := topS 54
abbrev s_spells : Stmt := topS 55
abbrev s_days_behind : Stmt := topS 56
abbrev s__law_cell : Stmt := topS 58
abbrev s__law_pot : Stmt := topS 59
abbrev s__law_take : Stmt := topS 60
abbrev s__law_names : Stmt := topS 61
abbrev s__law_moves : Stmt := topS 62
abbrev s__law_far : Stmt := topS 63
abbrev s__law_case : Stmt := topS 64
abbrev s__law_book : Stmt := topS 65
abbrev s__law_no_keeper : Stmt := topS 68
abbrev s__law_no_day : Stmt := topS 69
abbrev s__law_handed : Stmt := topS 70
abbrev s__law_word : Stmt := topS 71
abbrev s__law_due : Stmt := topS 72
abbrev s__law_truths_right : Stmt := topS 73
abbrev s_law : Stmt := topS 74
/-- all that the top has left -/
structure All (K : PySem.W.Frag) (P : Program) (mg : Str → Option Value) : Type where
  T : Tx mg
  t_SMALL_LETTERS : Tok
  g_SMALL_LETTERS : mg "SMALL_LETTERS" = some (.str (Str.ofString "abcdefghijklmnopqrstuvwxyz") t_SMALL_LETTERS)
  t_LONGEST_NAME : Tok
  g_LONGEST_NAME : mg "LONGEST_NAME" = some (.int (8) t_LONGEST_NAME)
  t_ASHORE : Tok
  g_ASHORE : mg "ASHORE" = some (.str (Str.ofString "") t_ASHORE)
  t_MOST_KEEPERS : Tok
  g_MOST_KEEPERS : mg "MOST_KEEPERS" = some (.int (30) t_MOST_KEEPERS)
  t_HIGHEST_RANK : Tok
  g_HIGHEST_RANK : mg "HIGHEST_RANK" = some (.int (1) t_HIGHEST_RANK)
  t_LOWEST_RANK : Tok
  g_LOWEST_RANK : mg "LOWEST_RANK" = some (.int (9) t_LOWEST_RANK)
  C_LightsError : Addr
  g_LightsError : mg "LightsError" = some (.ref C_LightsError)
  C_Wrong : Addr
  g_Wrong : mg "Wrong" = some (.ref C_Wrong)
  C_Barred : Addr
  g_Barred : mg "Barred" = some (.ref C_Barred)
  C_NoDay : Addr
  g_NoDay : mg "NoDay" = some (.ref C_NoDay)
  C_NoName : Addr
  g_NoName : mg "NoName" = some (.ref C_NoName)
  C_NoStretches : Addr
  g_NoStretches : mg "NoStretches" = some (.ref C_NoStretches)
  C_NoNumber : Addr
  g_NoNumber : mg "NoNumber" = some (.ref C_NoNumber)
  C_NoKeeper : Addr
  g_NoKeeper : mg "NoKeeper" = some (.ref C_NoKeeper)
  C_NoPlace : Addr
  g_NoPlace : mg "NoPlace" = some (.ref C_NoPlace)
  E_NoDay : Ev K mg "NoDay" C_NoDay
  x_NoDay : ExcC K C_NoDay
  kv_NoDay : PySem.W.kitOne K (.ref C_NoDay) (.type "ValueError") = some true
  E_NoNumber : Ev K mg "NoNumber" C_NoNumber
  x_NoNumber : ExcC K C_NoNumber
  kv_NoNumber : PySem.W.kitOne K (.ref C_NoNumber) (.type "ValueError") = some true
  E_NoKeeper : Ev K mg "NoKeeper" C_NoKeeper
  x_NoKeeper : ExcC K C_NoKeeper
  kv_NoKeeper : PySem.W.kitOne K (.ref C_NoKeeper) (.type "ValueError") = some true
  kit_NoDay_Barred : PySem.W.kitOne K (.ref C_NoDay) (.ref C_Barred) = some false
  kit_NoDay_NoName : PySem.W.kitOne K (.ref C_NoDay) (.ref C_NoName) = some false
  kit_NoDay_NoPlace : PySem.W.kitOne K (.ref C_NoDay) (.ref C_NoPlace) = some false
  kit_NoDay_NoStretches : PySem.W.kitOne K (.ref C_NoDay) (.ref C_NoStretches) = some false
  kit_NoDay_NoKeeper : PySem.W.kitOne K (.ref C_NoDay) (.ref C_NoKeeper) = some false
  kit_NoDay_NoDay : PySem.W.kitOne K (.ref C_NoDay) (.ref C_NoDay) = some true
  kit_NoDay_NoNumber : PySem.W.kitOne K (.ref C_NoDay) (.ref C_NoNumber) = some false
  kit_NoDay_Wrong : PySem.W.kitOne K (.ref C_NoDay) (.ref C_Wrong) = some true
  kit_NoNumber_Barred : PySem.W.kitOne K (.ref C_NoNumber) (.ref C_Barred) = some false
  kit_NoNumber_NoName : PySem.W.kitOne K (.ref C_NoNumber) (.ref C_NoName) = some false
  kit_NoNumber_NoPlace : PySem.W.kitOne K (.ref C_NoNumber) (.ref C_NoPlace) = some false
  kit_NoNumber_NoStretches : PySem.W.kitOne K (.ref C_NoNumber) (.ref C_NoStretches) = some false
  kit_NoNumber_NoKeeper : PySem.W.kitOne K (.ref C_NoNumber) (.ref C_NoKeeper) = some false
  kit_NoNumber_NoDay : PySem.W.kitOne K (.ref C_NoNumber) (.ref C_NoDay) = some false
  kit_NoNumber_NoNumber : PySem.W.kitOne K (.ref C_NoNumber) (.ref C_NoNumber) = some true
  kit_NoNumber_Wrong : PySem.W.kitOne K (.ref C_NoNumber) (.ref C_Wrong) = some true
  kit_NoKeeper_Barred : PySem.W.kitOne K (.ref C_NoKeeper) (.ref C_Barred) = some false
  kit_NoKeeper_NoName : PySem.W.kitOne K (.ref C_NoKeeper) (.ref C_NoName) = some false
  kit_NoKeeper_NoPlace : PySem.W.kitOne K (.ref C_NoKeeper) (.ref C_NoPlace) = some false
  kit_NoKeeper_NoStretches : PySem.W.kitOne K (.ref C_NoKeeper) (.ref C_NoStretches) = some false
  kit_NoKeeper_NoKeeper : PySem.W.kitOne K (.ref C_NoKeeper) (.ref C_NoKeeper) = some true
  kit_NoKeeper_NoDay : PySem.W.kitOne K (.ref C_NoKeeper) (.ref C_NoDay) = some false
  kit_NoKeeper_NoNumber : PySem.W.kitOne K (.ref C_NoKeeper) (.ref C_NoNumber) = some false
  kit_NoKeeper_Wrong : PySem.W.kitOne K (.ref C_NoKeeper) (.ref C_Wrong) = some true
  exm_NoDay_LightsError : PySem.W.exmOne K (.ref C_NoDay) (.ref C_LightsError) = some true
  exm_NoNumber_LightsError : PySem.W.exmOne K (.ref C_NoNumber) (.ref C_LightsError) = some true
  exm_NoKeeper_LightsError : PySem.W.exmOne K (.ref C_NoKeeper) (.ref C_LightsError) = some true
  C_History : Addr
  Z_History : ClF K mg "History" C_History
  n_History_by_day : PySem.W.findIn K (.ref C_History) "by_day" = some none
  C_Book : Addr
  Z_Book : ClF K mg "Book" C_Book
  n_Book_rank_of : PySem.W.findIn K (.ref C_Book) "rank_of" = some none
  n_Book_moves : PySem.W.findIn K (.ref C_Book) "moves" = some none
  n_Book_landings : PySem.W.findIn K (.ref C_Book) "landings" = some none
  n_Book_latest_known : PySem.W.findIn K (.ref C_Book) "latest_known" = some none
  C_Stretch : Addr
  Z_Stretch : ClF K mg "Stretch" C_Stretch
  n_Stretch_first_day : PySem.W.findIn K (.ref C_Stretch) "first_day" = some none
  n_Stretch_last_day : PySem.W.findIn K (.ref C_Stretch) "last_day" = some none
  f_History___init__ : Addr
  d_History___init__ : FuncData
  h_History___init__ : Mth K C_History "__init__" "History.__init__" ["self"] s_History___init__ f_History___init__ d_History___init__
  M_History : Mk K C_History f_History___init__
  f_History_note : Addr
  d_History_note : FuncData
  h_History_note : Mth K C_History "note" "History.note" ["self", "known", "day", "worth"] s_History_note f_History_note d_History_note
  f_History_all_told : Addr
  d_History_all_told : FuncData
  h_History_all_told : Mth K C_History "all_told" "History.all_told" ["self"] s_History_all_told f_History_all_told d_History_all_told
  f_History_told_last : Addr
  d_History_told_last : FuncData
  h_History_told_last : Mth K C_History "told_last" "History.told_last" ["self", "day", "known"] s_History_told_last f_History_told_last d_History_told_last
  f_History_holding : Addr
  d_History_holding : FuncData
  h_History_holding : Mth K C_History "holding" "History.holding" ["self", "known"] s_History_holding f_History_holding d_History_holding
  f_Book___init__ : Addr
  d_Book___init__ : FuncData
  h_Book___init__ : Mth K C_Book "__init__" "Book.__init__" ["self", "ranks"] s_Book___init__ f_Book___init__ d_Book___init__
  M_Book : Mk K C_Book f_Book___init__
  f_Book_tell : Addr
  d_Book_tell : FuncData
  h_Book_tell : Mth K C_Book "tell" "Book.tell" ["self", "known", "keeper", "day", "place"] s_Book_tell f_Book_tell d_Book_tell
  f_Book_land : Addr
  d_Book_land : FuncData
  h_Book_land : Mth K C_Book "land" "Book.land" ["self", "known", "light", "day", "weight"] s_Book_land f_Book_land d_Book_land
  f_Book_moves_known : Addr
  d_Book_moves_known : FuncData
  h_Book_moves_known : Mth K C_Book "moves_known" "Book.moves_known" ["self", "keeper", "known"] s_Book_moves_known f_Book_moves_known d_Book_moves_known
  f_Stretch_first : Addr
  d_Stretch_first : FuncData
  h_Stretch_first : Mth K C_Stretch "first" "Stretch.first" ["self"] s_Stretch_first f_Stretch_first d_Stretch_first
  f_Stretch_last : Addr
  d_Stretch_last : FuncData
  h_Stretch_last : Mth K C_Stretch "last" "Stretch.last" ["self"] s_Stretch_last f_Stretch_last d_Stretch_last
  f_Stretch___init__ : Addr
  d_Stretch___init__ : FuncData
  q_Stretch___init__ : FunD K "__init__" "Stretch.__init__" (defArgs s_Stretch___init__) (defBody s_Stretch___init__) (defScope s_Stretch___init__) [.non] [] f_Stretch___init__ d_Stretch___init__
  me_Stretch___init__ : Meth K C_Stretch "__init__" f_Stretch___init__
  M_Stretch : Mk K C_Stretch f_Stretch___init__
  f_is_name : Addr
  d_is_name : FuncData
  h_is_name : Has K mg "is_name" ["thing"] s_is_name f_is_name d_is_name
  f_is_place : Addr
  d_is_place : FuncData
  h_is_place : Has K mg "is_place" ["thing"] s_is_place f_is_place d_is_place
  f_is_whole : Addr
  d_is_whole : FuncData
  h_is_whole : Has K mg "is_whole" ["thing"] s_is_whole f_is_whole d_is_whole
  f_is_from : Addr
  d_is_from : FuncData
  h_is_from : Has K mg "is_from" ["thing", "least"] s_is_from f_is_from d_is_from
  f_is_within : Addr
  d_is_within : FuncData
  h_is_within : Has K mg "is_within" ["thing", "least", "most"] s_is_within f_is_within d_is_within
  f_is_day : Addr
  d_is_day : FuncData
  h_is_day : Has K mg "is_day" ["thing"] s_is_day f_is_day d_is_day
  f_check_day : Addr
  d_check_day : FuncData
  h_check_day : Has K mg "check_day" ["thing"] s_check_day f_check_day d_check_day
  f_check_known : Addr
  d_check_known : FuncData
  h_check_known : Has K mg "check_known" ["thing"] s_check_known f_check_known d_check_known
  f_check_days : Addr
  d_check_days : FuncData
  h_check_days : Has K mg "check_days" ["day", "known"] s_check_days f_check_days d_check_days
  f_check_light : Addr
  d_check_light : FuncData
  h_check_light : Has K mg "check_light" ["thing"] s_check_light f_check_light d_check_light
  f_check_place : Addr
  d_check_place : FuncData
  h_check_place : Has K mg "check_place" ["thing"] s_check_place f_check_place d_check_place
  f_check_number : Addr
  d_check_number : FuncData
  h_check_number : Has K mg "check_number" ["thing", "least"] s_check_number f_check_number d_check_number
  f_check_keeper : Addr
  d_check_keeper : FuncData
  h_check_keeper : Has K mg "check_keeper" ["book", "thing"] s_check_keeper f_check_keeper d_check_keeper
  f_check_not_early : Addr
  d_check_not_early : FuncData
  h_check_not_early : Has K mg "check_not_early" ["book", "known"] s_check_not_early f_check_not_early d_check_not_early
  f_are_ranks : Addr
  d_are_ranks : FuncData
  h_are_ranks : Has K mg "are_ranks" ["thing"] s_are_ranks f_are_ranks d_are_ranks
  f_earlier_end : Addr
  d_earlier_end : FuncData
  h_earlier_end : Has K mg "earlier_end" ["one", "other"] s_earlier_end f_earlier_end d_earlier_end
  f_runs_of : Addr
  d_runs_of : FuncData
  h_runs_of : Has K mg "runs_of" ["start", "changes"] s_runs_of f_runs_of d_runs_of
  f_settled : Addr
  d_settled : FuncData
  h_settled : Has K mg "settled" ["book", "keeper", "day", "term", "leave", "known"] s_settled f_settled d_settled
  f_given_back : Addr
  d_given_back : FuncData
  h_given_back : Has K mg "given_back" ["owed", "free", "given"] s_given_back f_given_back d_given_back
  f_spells : Addr
  d_spells : FuncData
  h_spells : Has K mg "spells" ["book", "keeper", "day", "known"] s_spells f_spells d_spells
  f_days_behind : Addr
  d_days_behind : FuncData
  h_days_behind : Has K mg "days_behind" ["stretch", "many"] s_days_behind f_days_behind d_days_behind
  f__law_cell : Addr
  d__law_cell : FuncData
  h__law_cell : Has K mg "_law_cell" ["_law_script", "_law_k"] s__law_cell f__law_cell d__law_cell
  f__law_pot : Addr
  d__law_pot : FuncData
  h__law_pot : Has K mg "_law_pot" ["_law_script", "_law_k"] s__law_pot f__law_pot d__law_pot
  f__law_take : Addr
  d__law_take : FuncData
  h__law_take : Has K mg "_law_take" ["_law_pot_here", "_law_many"] s__law_take f__law_take d__law_take
  f__law_names : Addr
  d__law_names : FuncData
  h__law_names : Has K mg "_law_names" ["_law_pot_here", "_law_many"] s__law_names f__law_names d__law_names
  f__law_moves : Addr
  d__law_moves : FuncData
  h__law_moves : Has K mg "_law_moves" ["_law_pot_here", "_law_names_here", "_law_lights"] s__law_moves f__law_moves d__law_moves
  f__law_far : Addr
  d__law_far : FuncData
  h__law_far : Has K mg "_law_far" ["_law_pot_here"] s__law_far f__law_far d__law_far
  f__law_case : Addr
  d__law_case : FuncData
  h__law_case : Has K mg "_law_case" ["_law_pot_here"] s__law_case f__law_case d__law_case
  f__law_book : Addr
  d__law_book : FuncData
  h__law_book : Has K mg "_law_book" ["_law_names_here", "_law_rows", "_law_far_here"] s__law_book f__law_book d__law_book
  f__law_no_keeper : Addr
  d__law_no_keeper : FuncData
  h__law_no_keeper : Has K mg "_law_no_keeper" ["_law_pot_here", "_law_names_here"] s__law_no_keeper f__law_no_keeper d__law_no_keeper
  f__law_no_day : Addr
  d__law_no_day : FuncData
  h__law_no_day : Has K mg "_law_no_day" ["_law_pot_here"] s__law_no_day f__law_no_day d__law_no_day
  f__law_handed : Addr
  d__law_handed : FuncData
  h__law_handed : Has K mg "_law_handed" ["_law_pot_here", "_law_names_here", "_law_bad"] s__law_handed f__law_handed d__law_handed
  f__law_word : Addr
  d__law_word : FuncData
  h__law_word : Has K mg "_law_word" ["_law_way", "_law_book_here", "_law_handed_here"] s__law_word f__law_word d__law_word
  f__law_due : Addr
  d__law_due : FuncData
  h__law_due : Has K mg "_law_due" ["_law_way", "_law_bad"] s__law_due f__law_due d__law_due
  f__law_truths_right : Addr
  d__law_truths_right : FuncData
  h__law_truths_right : Has K mg "_law_truths_right" ["_law_way", "_law_book_here", "_law_name"] s__law_truths_right f__law_truths_right d__law_truths_right
  f_turns : Addr
  d_turns : FuncData
  q_turns : FunD K "turns" "turns" (defArgs s_turns) (defBody s_turns) (defScope s_turns) [.non] [] f_turns d_turns
  gl_turns : mg "turns" = some (.ref f_turns)
  kp_turns : PySem.W.keepIn K (.ref f_turns) = true
  f_days_over : Addr
  d_days_over : FuncData
  q_days_over : FunD K "days_over" "days_over" (defArgs s_days_over) (defBody s_days_over) (defScope s_days_over) [.non] [] f_days_over d_days_over
  gl_days_over : mg "days_over" = some (.ref f_days_over)
  kp_days_over : PySem.W.keepIn K (.ref f_days_over) = true
  f_days_owed : Addr
  d_days_owed : FuncData
  q_days_owed : FunD K "days_owed" "days_owed" (defArgs s_days_owed) (defBody s_days_owed) (defScope s_days_owed) [.int 0, .non] [] f_days_owed d_days_owed
  gl_days_owed : mg "days_owed" = some (.ref f_days_owed)
  kp_days_owed : PySem.W.keepIn K (.ref f_days_owed) = true
  f_days_given : Addr
  d_days_given : FuncData
  q_days_given : FunD K "days_given" "days_given" (defArgs s_days_given) (defBody s_days_given) (defScope s_days_given) [.int 0, .non] [] f_days_given d_days_given
  gl_days_given : mg "days_given" = some (.ref f_days_given)
  kp_days_given : PySem.W.keepIn K (.ref f_days_given) = true
  f_Book_entries : Addr
  d_Book_entries : FuncData
  c_Book_entries : Addr
  p_Book_entries : Addr
  L_Book_entries : FunC K "entries" "Book.entries" s_Book_entries f_Book_entries c_Book_entries d_Book_entries
  lb_Book_entries : L2.Binds K d_Book_entries ["self"] []
  me_Book_entries : Meth K C_Book "entries" f_Book_entries
def q_lam_Book_entries : Str := (envOfC "Book.entries" (defScope s_Book_entries) 0 0 .none).qual ++ "<lambda>"
/-- the tables of code that lambdas grow -/
def TLs {K : PySem.W.Frag} {P : Program} {mg : Str → Option Value} (D : All K P mg) : List (Addr × Str) := [(D.p_Book_entries, q_lam_Book_entries)]
structure TBs {K : PySem.W.Frag} {P : Program} {mg : Str → Option Value} (D : All K P mg) (base : Heap) : Prop where
  t_Book_entries : LamX.TabB base mg D.c_Book_entries D.p_Book_entries
theorem All.mem_Book_entries {K : PySem.W.Frag} {P : Program} {mg : Str → Option Value} (D : All K P mg) : (D.p_Book_entries, q_lam_Book_entries) ∈ TLs D := .head _
theorem All.uq_Book_entries {K : PySem.W.Frag} {P : Program} {mg : Str → Option Value} (D : All K P mg) : ∀ p ∈ TLs D, p.1 = D.p_Book_entries → p.2 = q_lam_Book_entries := fun p hp e => by
  rcases List.mem_cons.mp hp with rfl | hp
  · rfl
  cases hp
end K74
set_option Elab.async false
set_option linter.all false
set_option maxRecDepth 100000
set_option maxHeartbeats 1600000
set_option pp.maxSteps 300
namespace K74
open PySem PySem.Spec PyProof.Rows L2 LT NdefX LamX
section
variable {P : Program} {w : World} {K : PySem.W.Frag} {mg : Str → Option Value} {base : Heap}
theorem sc_is_whole : FnScope ["thing"] ["thing"] (defScope s_is_whole) := ⟨rfl, rfl, rfl, by decide +kernel, rfl, by decide +kernel, by decide +kernel⟩
theorem ok_is_whole (D : All K P mg) : FnOk P w K mg base CX0 1 D.f_is_whole D.d_is_whole ["thing"] spWhole := by
  refine D.h_is_whole.fn.ok sc_is_whole (fun vs H Q E h => ?_) (fun cdv A outer s H vs Q E hr h => ?_)
  · first | (obtain ⟨_, rfl, _⟩ := h; rfl) | (obtain ⟨_, _, rfl, _⟩ := h; rfl) | (obtain ⟨_, _, _, rfl, _⟩ := h; rfl) | (obtain ⟨_, _, _, _, rfl, _⟩ := h; rfl) | (obtain ⟨_, _, _, _, _, rfl, _⟩ := h; rfl) | (obtain ⟨_, _, _, _, _, _, rfl, _⟩ := h; rfl) | (obtain ⟨_, _, _, _, _, _, _, rfl, _⟩ := h; rfl) | (obtain ⟨_, _, _, _, _, _, _, _, rfl, _⟩ := h; rfl) | (obtain ⟨_, _, _, _, _, _, _, _, _, rfl, _⟩ := h; rfl) | (obtain ⟨_, _, _, _, _, _, _, _, _, _, rfl, _⟩ := h; rfl) | (obtain ⟨_, _, _, _, _, _, _, _, _, _, _, rfl, _⟩ := h; rfl) | (obtain ⟨_, _, _, _, _, _, _, _, _, _, _, _, rfl, _⟩ := h; rfl) | (obtain ⟨_, _, _, _, _, _, _, _, _, _, _, _, _, rfl, _⟩ := h; rfl) | (obtain ⟨_, _, _, _, _, _, _, _, _, _, _, _, _, _, rfl, _⟩ := h; rfl) | (obtain ⟨_, _, _, _, _, _, _, _, _, _, _, _, _, _, _, rfl, _⟩ := h; rfl)
  · have T := D.T
    have nd := sc_is_whole.nd
    have hu := hr.units
    have hu1 := hu_of hr
    have hu0 := hr.units0
    obtain ⟨v, rfl, hv, q⟩ := h
    refine ⟨_, pss_one (ps_ret (pe_and (pe_callB call_isi (by rfl) T.isi (by decide +kernel) (pa_cons (pv 0) (pa_cons (pe_bltn (v := .ty "int") (by rfl) T.int (by decide +kernel) rfl) pa_nil))) (pe_one (pe_not (pe_callB call_isi (by rfl) T.isi (by decide +kernel) (pa_cons (pv 0) (pa_cons (pe_bltn (v := .ty "bool") (by rfl) T.bool (by decide +kernel) rfl) pa_nil))))))), ?_⟩
    obtain ⟨t, ty, k1, k2⟩ := hv.ty (K := K)
    refine ⟨_, rfl, v, .ty "int", t, _, isInt v, rfl, .ty _, ty, k1, _, rfl, ?_⟩
    rw [← whole_eq v] at q
    cases hb : isInt v with
    | false =>
      rw [hb] at q
      exact q
    | true =>
      rw [hb] at q
      exact ⟨_, rfl, v, .ty "bool", t, _, isBl v, rfl, .ty _, ty, k2, _, rfl, q⟩
theorem sc_is_from : FnScope ["thing", "least"] ["thing", "least"] (defScope s_is_from) := ⟨rfl, rfl, rfl, by decide +kernel, rfl, by decide +kernel, by decide +kernel⟩
theorem ok_is_from (D : All K P mg) : FnOk P w K mg base CX0 2 D.f_is_from D.d_is_from ["thing", "least"] spFromB := by
  refine D.h_is_from.fn.ok sc_is_from (fun vs H Q E h => ?_) (fun cdv A outer s H vs Q E hr h => ?_)
  · first | (obtain ⟨_, rfl, _⟩ := h; rfl) | (obtain ⟨_, _, rfl, _⟩ := h; rfl) | (obtain ⟨_, _, _, rfl, _⟩ := h; rfl) | (obtain ⟨_, _, _, _, rfl, _⟩ := h; rfl) | (obtain ⟨_, _, _, _, _, rfl, _⟩ := h; rfl) | (obtain ⟨_, _, _, _, _, _, rfl, _⟩ := h; rfl) | (obtain ⟨_, _, _, _, _, _, _, rfl, _⟩ := h; rfl) | (obtain ⟨_, _, _, _, _, _, _, _, rfl, _⟩ := h; rfl) | (obtain ⟨_, _, _, _, _, _, _, _, _, rfl, _⟩ := h; rfl) | (obtain ⟨_, _, _, _, _, _, _, _, _, _, rfl, _⟩ := h; rfl) | (obtain ⟨_, _, _, _, _, _, _, _, _, _, _, rfl, _⟩ := h; rfl) | (obtain ⟨_, _, _, _, _, _, _, _, _, _, _, _, rfl, _⟩ := h; rfl) | (obtain ⟨_, _, _, _, _, _, _, _, _, _, _, _, _, rfl, _⟩ := h; rfl) | (obtain ⟨_, _, _, _, _, _, _, _, _, _, _, _, _, _, rfl, _⟩ := h; rfl) | (obtain ⟨_, _, _, _, _, _, _, _, _, _, _, _, _, _, _, rfl, _⟩ := h; rfl)
  · have T := D.T
    have nd := sc_is_from.nd
    have hu := hr.units
    have hu1 := hu_of hr
    have hu0 := hr.units0
    obtain ⟨v, l, rfl, hv, q⟩ := h
    refine ⟨_, pss_one (ps_ret (pe_and (pe_call (ok_is_whole D) (hr.mono (by decide)) (by rfl) D.h_is_whole.gl D.h_is_whole.fn.kp D.h_is_whole.bd .nil pass0 (pa_cons (pv 0) pa_nil)) (pe_one (pe_cmpR op_ge (pv 0) (pv 1) (nomark _))))), ?_⟩
    refine ⟨_, rfl, v, rfl, hv, _, rfl, ?_⟩
    cases hv with
    | int i => exact ⟨_, rfl, _, rfl, _, _, rfl, rfl, q⟩
    | _ => exact q
theorem sc_is_within : FnScope ["thing", "least", "most"] ["thing", "least", "most"] (defScope s_is_within) := ⟨rfl, rfl, rfl, by decide +kernel, rfl, by decide +kernel, by decide +kernel⟩
theorem ok_is_within (D : All K P mg) : FnOk P w K mg base CX0 2 D.f_is_within D.d_is_within ["thing", "least", "most"] spWithin := by
  refine D.h_is_within.fn.ok sc_is_within (fun vs H Q E h => ?_) (fun cdv A outer s H vs Q E hr h => ?_)
  · first | (obtain ⟨_, rfl, _⟩ := h; rfl) | (obtain ⟨_, _, rfl, _⟩ := h; rfl) | (obtain ⟨_, _, _, rfl, _⟩ := h; rfl) | (obtain ⟨_, _, _, _, rfl, _⟩ := h; rfl) | (obtain ⟨_, _, _, _, _, rfl, _⟩ := h; rfl) | (obtain ⟨_, _, _, _, _, _, rfl, _⟩ := h; rfl) | (obtain ⟨_, _, _, _, _, _, _, rfl, _⟩ := h; rfl) | (obtain ⟨_, _, _, _, _, _, _, _, rfl, _⟩ := h; rfl) | (obtain ⟨_, _, _, _, _, _, _, _, _, rfl, _⟩ := h; rfl) | (obtain ⟨_, _, _, _, _, _, _, _, _, _, rfl, _⟩ := h; rfl) | (obtain ⟨_, _, _, _, _, _, _, _, _, _, _, rfl, _⟩ := h; rfl) | (obtain ⟨_, _, _, _, _, _, _, _, _, _, _, _, rfl, _⟩ := h; rfl) | (obtain ⟨_, _, _, _, _, _, _, _, _, _, _, _, _, rfl, _⟩ := h; rfl) | (obtain ⟨_, _, _, _, _, _, _, _, _, _, _, _, _, _, rfl, _⟩ := h; rfl) | (obtain ⟨_, _, _, _, _, _, _, _, _, _, _, _, _, _, _, rfl, _⟩ := h; rfl)
  · have T := D.T
    have nd := sc_is_within.nd
    have hu := hr.units
    have hu1 := hu_of hr
    have hu0 := hr.units0
    obtain ⟨v, l, m, rfl, hv, q⟩ := h
    refine ⟨_, pss_one (ps_ret (pe_and (pe_call (ok_is_whole D) (hr.mono (by decide)) (by rfl) D.h_is_whole.gl D.h_is_whole.fn.kp D.h_is_whole.bd .nil pass0 (pa_cons (pv 0) pa_nil)) (pe_one (pe_chain op_le op_le (pv 1) (pv 0) (pv 2))))), ?_⟩
    refine ⟨_, rfl, v, rfl, hv, _, rfl, ?_⟩
    cases hv with
    | int i =>
      refine ⟨_, rfl, _, rfl, l, i, rfl, rfl, _, rfl, ?_⟩
      have q' : Q (.bl (decide (l ≤ i) && decide (i ≤ m))) H := q
      cases h : decide (l ≤ i) with
      | true =>
        rw [h] at q'
        exact ⟨_, rfl, i, m, rfl, rfl, q'⟩
      | false =>
        rw [h] at q'
        exact q'
    | _ => exact q
theorem sc_is_day : FnScope ["thing"] ["thing"] (defScope s_is_day) := ⟨rfl, rfl, rfl, by decide +kernel, rfl, by decide +kernel, by decide +kernel⟩
theorem ok_is_day (D : All K P mg) : FnOk P w K mg base CX0 3 D.f_is_day D.d_is_day ["thing"] spDayB := by
  refine D.h_is_day.fn.ok sc_is_day (fun vs H Q E h => ?_) (fun cdv A outer s H vs Q E hr h => ?_)
  · first | (obtain ⟨_, rfl, _⟩ := h; rfl) | (obtain ⟨_, _, rfl, _⟩ := h; rfl) | (obtain ⟨_, _, _, rfl, _⟩ := h; rfl) | (obtain ⟨_, _, _, _, rfl, _⟩ := h; rfl) | (obtain ⟨_, _, _, _, _, rfl, _⟩ := h; rfl) | (obtain ⟨_, _, _, _, _, _, rfl, _⟩ := h; rfl) | (obtain ⟨_, _, _, _, _, _, _, rfl, _⟩ := h; rfl) | (obtain ⟨_, _, _, _, _, _, _, _, rfl, _⟩ := h; rfl) | (obtain ⟨_, _, _, _, _, _, _, _, _, rfl, _⟩ := h; rfl) | (obtain ⟨_, _, _, _, _, _, _, _, _, _, rfl, _⟩ := h; rfl) | (obtain ⟨_, _, _, _, _, _, _, _, _, _, _, rfl, _⟩ := h; rfl) | (obtain ⟨_, _, _, _, _, _, _, _, _, _, _, _, rfl, _⟩ := h; rfl) | (obtain ⟨_, _, _, _, _, _, _, _, _, _, _, _, _, rfl, _⟩ := h; rfl) | (obtain ⟨_, _, _, _, _, _, _, _, _, _, _, _, _, _, rfl, _⟩ := h; rfl) | (obtain ⟨_, _, _, _, _, _, _, _, _, _, _, _, _, _, _, rfl, _⟩ := h; rfl)
  · have T := D.T
    have nd := sc_is_day.nd
    have hu := hr.units
    have hu1 := hu_of hr
    have hu0 := hr.units0
    obtain ⟨v, rfl, hv, q⟩ := h
    refine ⟨_, pss_one (ps_ret (pe_call (ok_is_from D) (hr.mono (by decide)) (by rfl) D.h_is_from.gl D.h_is_from.fn.kp D.h_is_from.bd .nil pass0 (pa_cons (pv 0) (pa_cons pe_int pa_nil)))), ?_⟩
    exact ⟨_, rfl, v, 0, rfl, hv, q⟩
theorem sc_is_name : FnScope ["thing", "letter"] ["thing"] (defScope s_is_name) := ⟨rfl, rfl, rfl, by decide +kernel, rfl, by decide +kernel, by decide +kernel⟩
theorem ok_is_name (D : All K P mg) : FnOk P w K mg base CX0 1 D.f_is_name D.d_is_name ["thing"] spNameB := by
  refine D.h_is_name.fn.ok sc_is_name (fun vs H Q E h => ?_) (fun cdv A outer s H vs Q E hr h => ?_)
  · first | (obtain ⟨_, rfl, _⟩ := h; rfl) | (obtain ⟨_, _, rfl, _⟩ := h; rfl) | (obtain ⟨_, _, _, rfl, _⟩ := h; rfl) | (obtain ⟨_, _, _, _, rfl, _⟩ := h; rfl) | (obtain ⟨_, _, _, _, _, rfl, _⟩ := h; rfl) | (obtain ⟨_, _, _, _, _, _, rfl, _⟩ := h; rfl) | (obtain ⟨_, _, _, _, _, _, _, rfl, _⟩ := h; rfl) | (obtain ⟨_, _, _, _, _, _, _, _, rfl, _⟩ := h; rfl) | (obtain ⟨_, _, _, _, _, _, _, _, _, rfl, _⟩ := h; rfl) | (obtain ⟨_, _, _, _, _, _, _, _, _, _, rfl, _⟩ := h; rfl) | (obtain ⟨_, _, _, _, _, _, _, _, _, _, _, rfl, _⟩ := h; rfl) | (obtain ⟨_, _, _, _, _, _, _, _, _, _, _, _, rfl, _⟩ := h; rfl) | (obtain ⟨_, _, _, _, _, _, _, _, _, _, _, _, _, rfl, _⟩ := h; rfl) | (obtain ⟨_, _, _, _, _, _, _, _, _, _, _, _, _, _, rfl, _⟩ := h; rfl) | (obtain ⟨_, _, _, _, _, _, _, _, _, _, _, _, _, _, _, rfl, _⟩ := h; rfl)
  · have T := D.T
    have nd := sc_is_name.nd
    have hu := hr.units
    have hu1 := hu_of hr
    have hu0 := hr.units0
    obtain ⟨v, rfl, hv, hz, q⟩ := h
    refine ⟨_, pss_cons (ps_if (pt_not (pt_val (pe_callB call_isi (by rfl) T.isi (by decide +kernel) (pa_cons (pv 0) (pa_cons (pe_bltn (v := .ty "str") (by rfl) T.str (by decide +kernel) rfl) pa_nil))))) (pss_one (ps_ret pe_bl)) pss_nil)
      (pss_cons (ps_if (pt_not (pt_chain op_le op_le pe_int (pe_callB call_len_str (by rfl) T.len PySem.boot_len (pa_cons (pv 0) pa_nil)) (pe_glob (v := .int (8)) (by rfl) D.g_LONGEST_NAME ⟨_, rfl⟩))) (pss_one (ps_ret pe_bl)) pss_nil)
      (pss_one (ps_ret (pe_callB (cr_all rfl) (by rfl) T.all (by decide +kernel) (pa_cons (pe_lc (own := [("letter", 1)]) (g := gName 1) (tt := tYes) rfl nd (pi_str (pv 0)) (blkOk_by (N := ["thing", "letter"]) (sc := defScope s_is_name) (by decide +kernel)) (fun _ _ _ _ _ => (pg_name (i := 1) nd rfl (Or.inl rfl))) (fun _ _ _ _ _ => pts_nil) (fun _ _ _ _ _ => (pe_cmpR op_in_sign (pv 1) (pe_glob (v := .str (Str.ofString "abcdefghijklmnopqrstuvwxyz")) (by rfl) D.g_SMALL_LETTERS ⟨_, rfl⟩) (by rfl)))) pa_nil))))), ?_⟩
    obtain ⟨t, ty, k1⟩ := hv.tyS (K := K)
    refine ⟨_, rfl, v, .ty "str", t, _, isStr v, rfl, .ty _, ty, k1, _, rfl, ?_⟩
    cases hv with
    | str z =>
      refine iteF ?_
      refine ⟨_, rfl, z, rfl, hz z rfl, _, _, rfl, rfl, _, rfl, ?_⟩
      by_cases h1 : 1 ≤ z.length
      · rw [if_pos (decide_eq_true (show (1 : Int) ≤ (z.length : Nat) by omega))]
        refine ⟨_, _, rfl, rfl, _, rfl, ?_⟩
        by_cases h8 : z.length ≤ 8
        · rw [decide_eq_true (show ((z.length : Nat) : Int) ≤ 8 by omega)]
          refine iteF ?_
          refine ⟨_, rfl, z, rfl, fun D nD => ?_⟩
          refine lc_it walk_str (fun i H' => Same H H' ∧ H' D = some (.lst (((z.cps.toList.take i).map small).map V.bl))) ⟨same_upd nD, upd_same⟩ (fun _ _ _ _ => trivial) ?_ ?_
          · rintro i x H1 H2 hi ⟨sm, eD⟩ ⟨rfl, c, hc, rfl⟩
            have hc' : z.cps.toList[i]? = some c := by rw [Array.getElem?_toList]; exact hc
            refine ⟨rfl, _, rfl, c, _, rfl, rfl, ?_⟩
            rw [small_mem]
            refine ⟨_, eD, ?_, same_app nD sm, ?_⟩
            · rw [List.length_map, List.length_map, List.length_take]
              have : z.cps.size = z.length := rfl
              have := Nat.min_le_left i z.cps.toList.length
              exact small2k (by omega)
            · rw [upd_same, ← take_more small hc', List.map_append]
              rfl
          · rintro H2 ⟨sm, eD⟩
            refine ⟨D, (z.cps.toList.take z.cps.size).map small, rfl, SqL.of eD, ?_⟩
            have e : nameB (.str z) = ((z.cps.toList.take z.cps.size).map small).all id := by
              show (decide (1 ≤ z.length) && decide (z.length ≤ 8) && z.cps.toList.all small) = _
              rw [decide_eq_true h1, decide_eq_true h8, ← Array.length_toList, List.take_length, List.all_map]
              rfl
            rw [← e]
            exact q H2 sm
        · rw [decide_eq_false (show ¬ ((z.length : Nat) : Int) ≤ 8 by omega)]
          show Q (.bl false) H
          have e : nameB (.str z) = false := by
            show (decide (1 ≤ z.length) && decide (z.length ≤ 8) && z.cps.toList.all small) = _
            rw [decide_eq_false h8, Bool.and_false]
            rfl
          rw [e] at q
          exact q H (Same.refl _)
      · rw [if_neg (by rw [decide_eq_false (show ¬ (1 : Int) ≤ (z.length : Nat) by omega)]; nofun)]
        refine ⟨_, rfl, ?_⟩
        show Q (.bl false) H
        have e : nameB (.str z) = false := by
          show (decide (1 ≤ z.length) && decide (z.length ≤ 8) && z.cps.toList.all small) = _
          rw [decide_eq_false h1]
          rfl
        rw [e] at q
        exact q H (Same.refl _)
    | _ => exact q H (Same.refl _)
theorem sc_is_place : FnScope ["thing"] ["thing"] (defScope s_is_place) := ⟨rfl, rfl, rfl, by decide +kernel, rfl, by decide +kernel, by decide +kernel⟩
theorem ok_is_place (D : All K P mg) : FnOk P w K mg base CX0 2 D.f_is_place D.d_is_place ["thing"] spPlaceB := by
  refine D.h_is_place.fn.ok sc_is_place (fun vs H Q E h => ?_) (fun cdv A outer s H vs Q E hr h => ?_)
  · first | (obtain ⟨_, rfl, _⟩ := h; rfl) | (obtain ⟨_, _, rfl, _⟩ := h; rfl) | (obtain ⟨_, _, _, rfl, _⟩ := h; rfl) | (obtain ⟨_, _, _, _, rfl, _⟩ := h; rfl) | (obtain ⟨_, _, _, _, _, rfl, _⟩ := h; rfl) | (obtain ⟨_, _, _, _, _, _, rfl, _⟩ := h; rfl) | (obtain ⟨_, _, _, _, _, _, _, rfl, _⟩ := h; rfl) | (obtain ⟨_, _, _, _, _, _, _, _, rfl, _⟩ := h; rfl) | (obtain ⟨_, _, _, _, _, _, _, _, _, rfl, _⟩ := h; rfl) | (obtain ⟨_, _, _, _, _, _, _, _, _, _, rfl, _⟩ := h; rfl) | (obtain ⟨_, _, _, _, _, _, _, _, _, _, _, rfl, _⟩ := h; rfl) | (obtain ⟨_, _, _, _, _, _, _, _, _, _, _, _, rfl, _⟩ := h; rfl) | (obtain ⟨_, _, _, _, _, _, _, _, _, _, _, _, _, rfl, _⟩ := h; rfl) | (obtain ⟨_, _, _, _, _, _, _, _, _, _, _, _, _, _, rfl, _⟩ := h; rfl) | (obtain ⟨_, _, _, _, _, _, _, _, _, _, _, _, _, _, _, rfl, _⟩ := h; rfl)
  · have T := D.T
    have nd := sc_is_place.nd
    have hu := hr.units
    have hu1 := hu_of hr
    have hu0 := hr.units0
    obtain ⟨v, rfl, hv, hz, q⟩ := h
    refine ⟨_, pss_one (ps_ret (pe_or (pe_call (ok_is_name D) (hr.mono (by decide)) (by rfl) D.h_is_name.gl D.h_is_name.fn.kp D.h_is_name.bd .nil pass0 (pa_cons (pv 0) pa_nil)) (pe_one (pe_and (pe_callB call_isi (by rfl) T.isi (by decide +kernel) (pa_cons (pv 0) (pa_cons (pe_bltn (v := .ty "str") (by rfl) T.str (by decide +kernel) rfl) pa_nil))) (pe_one (pe_cmpR op_eq (pv 0) (pe_glob (v := .str (Str.ofString "")) (by rfl) D.g_ASHORE ⟨_, rfl⟩) (nomark _))))))), ?_⟩
    refine ⟨_, rfl, v, rfl, hv, hz, fun H1 s1 => ⟨_, rfl, ?_⟩⟩
    obtain ⟨t, ty, k1⟩ := (hv.mono s1).tyS (K := K)
    cases hv with
    | str z =>
      have q' : ∀ H', Same H H' → Q (.bl (nameB (.str z) || decide (z = Str.ofString ""))) H' := q
      cases hn : nameB (.str z) with
      | true =>
        rw [hn] at q'
        exact q' H1 s1
      | false =>
        rw [hn] at q'
        refine ⟨_, rfl, .str z, .ty "str", t, _, true, rfl, .ty _, ty, k1, _, rfl, ⟨_, rfl, rfl, ?_⟩⟩
        have e : decide (V.str z = V.str (Str.ofString "")) = decide (z = Str.ofString "") := by
          by_cases h : z = Str.ofString ""
          · rw [decide_eq_true h, decide_eq_true (by rw [h])]
          · rw [decide_eq_false h, decide_eq_false (fun e => h (V.str.inj e))]
        rw [e]
        exact q' H1 s1
    | _ => exact ⟨_, rfl, _, .ty "str", t, _, false, rfl, .ty _, ty, k1, _, rfl, q H1 s1⟩
theorem sc_check_day : FnScope ["thing"] ["thing"] (defScope s_check_day) := ⟨rfl, rfl, rfl, by decide +kernel, rfl, by decide +kernel, by decide +kernel⟩
theorem ok_check_day (D : All K P mg) : FnOk P w K mg base CX0 4 D.f_check_day D.d_check_day ["thing"] spCkDay := by
  refine D.h_check_day.fn.ok sc_check_day (fun vs H Q E h => ?_) (fun cdv A outer s H vs Q E hr h => ?_)
  · first | (obtain ⟨_, rfl, _⟩ := h; rfl) | (obtain ⟨_, _, rfl, _⟩ := h; rfl) | (obtain ⟨_, _, _, rfl, _⟩ := h; rfl) | (obtain ⟨_, _, _, _, rfl, _⟩ := h; rfl) | (obtain ⟨_, _, _, _, _, rfl, _⟩ := h; rfl) | (obtain ⟨_, _, _, _, _, _, rfl, _⟩ := h; rfl) | (obtain ⟨_, _, _, _, _, _, _, rfl, _⟩ := h; rfl) | (obtain ⟨_, _, _, _, _, _, _, _, rfl, _⟩ := h; rfl) | (obtain ⟨_, _, _, _, _, _, _, _, _, rfl, _⟩ := h; rfl) | (obtain ⟨_, _, _, _, _, _, _, _, _, _, rfl, _⟩ := h; rfl) | (obtain ⟨_, _, _, _, _, _, _, _, _, _, _, rfl, _⟩ := h; rfl) | (obtain ⟨_, _, _, _, _, _, _, _, _, _, _, _, rfl, _⟩ := h; rfl) | (obtain ⟨_, _, _, _, _, _, _, _, _, _, _, _, _, rfl, _⟩ := h; rfl) | (obtain ⟨_, _, _, _, _, _, _, _, _, _, _, _, _, _, rfl, _⟩ := h; rfl) | (obtain ⟨_, _, _, _, _, _, _, _, _, _, _, _, _, _, _, rfl, _⟩ := h; rfl)
  · have T := D.T
    have nd := sc_check_day.nd
    have hu := hr.units
    have hu1 := hu_of hr
    have hu0 := hr.units0
    obtain ⟨i, rfl, h0, q⟩ := h
    refine ⟨_, pss_one (ps_if (pt_not (pt_val (pe_call (ok_is_day D) (hr.mono (by decide)) (by rfl) D.h_is_day.gl D.h_is_day.fn.kp D.h_is_day.bd .nil pass0 (pa_cons (pv 0) pa_nil)))) (pss_one ps_never) pss_nil), ?_⟩
    refine ⟨_, rfl, .int i, rfl, .int i, _, rfl, ?_⟩
    have e : fromB (.int i) 0 = true := decide_eq_true h0
    rw [e]
    exact iteF q
theorem sc_check_known : FnScope ["thing"] ["thing"] (defScope s_check_known) := ⟨rfl, rfl, rfl, by decide +kernel, rfl, by decide +kernel, by decide +kernel⟩
theorem ok_check_known (D : All K P mg) : FnOk P w K mg base CX0 5 D.f_check_known D.d_check_known ["thing"] spCkKnown := by
  refine D.h_check_known.fn.ok sc_check_known (fun vs H Q E h => ?_) (fun cdv A outer s H vs Q E hr h => ?_)
  · first | (obtain ⟨_, rfl, _⟩ := h; rfl) | (obtain ⟨_, _, rfl, _⟩ := h; rfl) | (obtain ⟨_, _, _, rfl, _⟩ := h; rfl) | (obtain ⟨_, _, _, _, rfl, _⟩ := h; rfl) | (obtain ⟨_, _, _, _, _, rfl, _⟩ := h; rfl) | (obtain ⟨_, _, _, _, _, _, rfl, _⟩ := h; rfl) | (obtain ⟨_, _, _, _, _, _, _, rfl, _⟩ := h; rfl) | (obtain ⟨_, _, _, _, _, _, _, _, rfl, _⟩ := h; rfl) | (obtain ⟨_, _, _, _, _, _, _, _, _, rfl, _⟩ := h; rfl) | (obtain ⟨_, _, _, _, _, _, _, _, _, _, rfl, _⟩ := h; rfl) | (obtain ⟨_, _, _, _, _, _, _, _, _, _, _, rfl, _⟩ := h; rfl) | (obtain ⟨_, _, _, _, _, _, _, _, _, _, _, _, rfl, _⟩ := h; rfl) | (obtain ⟨_, _, _, _, _, _, _, _, _, _, _, _, _, rfl, _⟩ := h; rfl) | (obtain ⟨_, _, _, _, _, _, _, _, _, _, _, _, _, _, rfl, _⟩ := h; rfl) | (obtain ⟨_, _, _, _, _, _, _, _, _, _, _, _, _, _, _, rfl, _⟩ := h; rfl)
  · have T := D.T
    have nd := sc_check_known.nd
    have hu := hr.units
    have hu1 := hu_of hr
    have hu0 := hr.units0
    obtain ⟨kn, rfl, h0, q⟩ := h
    refine ⟨_, pss_one (ps_if (pt_cmpR op_notN (pv 0) pe_non (nomark _)) (pss_one (ps_expr (pe_call (ok_check_day D) (hr.mono (by decide)) (by rfl) D.h_check_day.gl D.h_check_day.fn.kp D.h_check_day.bd .nil pass0 (pa_cons (pv 0) pa_nil)))) pss_nil), ?_⟩
    refine ⟨_, rfl, rfl, _, rfl, ?_⟩
    cases kn with
    | none => exact iteF q
    | some k => exact iteT ⟨_, rfl, k, rfl, h0 k rfl, q⟩
theorem sc_check_days : FnScope ["day", "known"] ["day", "known"] (defScope s_check_days) := ⟨rfl, rfl, rfl, by decide +kernel, rfl, by decide +kernel, by decide +kernel⟩
theorem sc_check_light : FnScope ["thing"] ["thing"] (defScope s_check_light) := ⟨rfl, rfl, rfl, by decide +kernel, rfl, by decide +kernel, by decide +kernel⟩
theorem ok_check_light (D : All K P mg) : FnOk P w K mg base CX0 2 D.f_check_light D.d_check_light ["thing"] spCkLight := by
  refine D.h_check_light.fn.ok sc_check_light (fun vs H Q E h => ?_) (fun cdv A outer s H vs Q E hr h => ?_)
  · first | (obtain ⟨_, rfl, _⟩ := h; rfl) | (obtain ⟨_, _, rfl, _⟩ := h; rfl) | (obtain ⟨_, _, _, rfl, _⟩ := h; rfl) | (obtain ⟨_, _, _, _, rfl, _⟩ := h; rfl) | (obtain ⟨_, _, _, _, _, rfl, _⟩ := h; rfl) | (obtain ⟨_, _, _, _, _, _, rfl, _⟩ := h; rfl) | (obtain ⟨_, _, _, _, _, _, _, rfl, _⟩ := h; rfl) | (obtain ⟨_, _, _, _, _, _, _, _, rfl, _⟩ := h; rfl) | (obtain ⟨_, _, _, _, _, _, _, _, _, rfl, _⟩ := h; rfl) | (obtain ⟨_, _, _, _, _, _, _, _, _, _, rfl, _⟩ := h; rfl) | (obtain ⟨_, _, _, _, _, _, _, _, _, _, _, rfl, _⟩ := h; rfl) | (obtain ⟨_, _, _, _, _, _, _, _, _, _, _, _, rfl, _⟩ := h; rfl) | (obtain ⟨_, _, _, _, _, _, _, _, _, _, _, _, _, rfl, _⟩ := h; rfl) | (obtain ⟨_, _, _, _, _, _, _, _, _, _, _, _, _, _, rfl, _⟩ := h; rfl) | (obtain ⟨_, _, _, _, _, _, _, _, _, _, _, _, _, _, _, rfl, _⟩ := h; rfl)
  · have T := D.T
    have nd := sc_check_light.nd
    have hu := hr.units
    have hu1 := hu_of hr
    have hu0 := hr.units0
    obtain ⟨z, rfl, hz, q⟩ := h
    refine ⟨_, pss_one (ps_if (pt_not (pt_val (pe_call (ok_is_name D) (hr.mono (by decide)) (by rfl) D.h_is_name.gl D.h_is_name.fn.kp D.h_is_name.bd .nil pass0 (pa_cons (pv 0) pa_nil)))) (pss_one ps_never) pss_nil), ?_⟩
    have l8 := hz.l8
    refine ⟨_, rfl, .str z, rfl, .str z, fun y e => by cases e; rw [sizeLine_eq]; omega, fun H1 s1 => ⟨_, rfl, ?_⟩⟩
    rw [hz.b]
    exact iteF (q H1 s1)
theorem sc_check_place : FnScope ["thing"] ["thing"] (defScope s_check_place) := ⟨rfl, rfl, rfl, by decide +kernel, rfl, by decide +kernel, by decide +kernel⟩
theorem ok_check_place (D : All K P mg) : FnOk P w K mg base CX0 3 D.f_check_place D.d_check_place ["thing"] spCkPlace := by
  refine D.h_check_place.fn.ok sc_check_place (fun vs H Q E h => ?_) (fun cdv A outer s H vs Q E hr h => ?_)
  · first | (obtain ⟨_, rfl, _⟩ := h; rfl) | (obtain ⟨_, _, rfl, _⟩ := h; rfl) | (obtain ⟨_, _, _, rfl, _⟩ := h; rfl) | (obtain ⟨_, _, _, _, rfl, _⟩ := h; rfl) | (obtain ⟨_, _, _, _, _, rfl, _⟩ := h; rfl) | (obtain ⟨_, _, _, _, _, _, rfl, _⟩ := h; rfl) | (obtain ⟨_, _, _, _, _, _, _, rfl, _⟩ := h; rfl) | (obtain ⟨_, _, _, _, _, _, _, _, rfl, _⟩ := h; rfl) | (obtain ⟨_, _, _, _, _, _, _, _, _, rfl, _⟩ := h; rfl) | (obtain ⟨_, _, _, _, _, _, _, _, _, _, rfl, _⟩ := h; rfl) | (obtain ⟨_, _, _, _, _, _, _, _, _, _, _, rfl, _⟩ := h; rfl) | (obtain ⟨_, _, _, _, _, _, _, _, _, _, _, _, rfl, _⟩ := h; rfl) | (obtain ⟨_, _, _, _, _, _, _, _, _, _, _, _, _, rfl, _⟩ := h; rfl) | (obtain ⟨_, _, _, _, _, _, _, _, _, _, _, _, _, _, rfl, _⟩ := h; rfl) | (obtain ⟨_, _, _, _, _, _, _, _, _, _, _, _, _, _, _, rfl, _⟩ := h; rfl)
  · have T := D.T
    have nd := sc_check_place.nd
    have hu := hr.units
    have hu1 := hu_of hr
    have hu0 := hr.units0
    obtain ⟨z, rfl, hz, q⟩ := h
    refine ⟨_, pss_one (ps_if (pt_not (pt_val (pe_call (ok_is_place D) (hr.mono (by decide)) (by rfl) D.h_is_place.gl D.h_is_place.fn.kp D.h_is_place.bd .nil pass0 (pa_cons (pv 0) pa_nil)))) (pss_one ps_never) pss_nil), ?_⟩
    have l8 := pl_len hz
    refine ⟨_, rfl, .str z, rfl, .str z, fun y e => by cases e; rw [sizeLine_eq]; omega, fun H1 s1 => ⟨_, rfl, ?_⟩⟩
    rw [pl_b hz]
    exact iteF (q H1 s1)
theorem sc_check_number : FnScope ["thing", "least"] ["thing", "least"] (defScope s_check_number) := ⟨rfl, rfl, rfl, by decide +kernel, rfl, by decide +kernel, by decide +kernel⟩
theorem ok_check_number (D : All K P mg) : FnOk P w K mg base CX0 3 D.f_check_number D.d_check_number ["thing", "least"] spCkNumber := by
  refine D.h_check_number.fn.ok sc_check_number (fun vs H Q E h => ?_) (fun cdv A outer s H vs Q E hr h => ?_)
  · first | (obtain ⟨_, rfl, _⟩ := h; rfl) | (obtain ⟨_, _, rfl, _⟩ := h; rfl) | (obtain ⟨_, _, _, rfl, _⟩ := h; rfl) | (obtain ⟨_, _, _, _, rfl, _⟩ := h; rfl) | (obtain ⟨_, _, _, _, _, rfl, _⟩ := h; rfl) | (obtain ⟨_, _, _, _, _, _, rfl, _⟩ := h; rfl) | (obtain ⟨_, _, _, _, _, _, _, rfl, _⟩ := h; rfl) | (obtain ⟨_, _, _, _, _, _, _, _, rfl, _⟩ := h; rfl) | (obtain ⟨_, _, _, _, _, _, _, _, _, rfl, _⟩ := h; rfl) | (obtain ⟨_, _, _, _, _, _, _, _, _, _, rfl, _⟩ := h; rfl) | (obtain ⟨_, _, _, _, _, _, _, _, _, _, _, rfl, _⟩ := h; rfl) | (obtain ⟨_, _, _, _, _, _, _, _, _, _, _, _, rfl, _⟩ := h; rfl) | (obtain ⟨_, _, _, _, _, _, _, _, _, _, _, _, _, rfl, _⟩ := h; rfl) | (obtain ⟨_, _, _, _, _, _, _, _, _, _, _, _, _, _, rfl, _⟩ := h; rfl) | (obtain ⟨_, _, _, _, _, _, _, _, _, _, _, _, _, _, _, rfl, _⟩ := h; rfl)
  · have T := D.T
    have nd := sc_check_number.nd
    have hu := hr.units
    have hu1 := hu_of hr
    have hu0 := hr.units0
    obtain ⟨i, l, rfl, h0, q⟩ := h
    refine ⟨_, pss_one (ps_if (pt_not (pt_val (pe_call (ok_is_from D) (hr.mono (by decide)) (by rfl) D.h_is_from.gl D.h_is_from.fn.kp D.h_is_from.bd .nil pass0 (pa_cons (pv 0) (pa_cons (pv 1) pa_nil))))) (pss_one ps_never) pss_nil), ?_⟩
    refine ⟨_, rfl, _, rfl, .int i, l, rfl, .int i, _, rfl, ?_⟩
    have e : fromB (.int i) l = true := decide_eq_true h0
    rw [e]
    exact iteF q
theorem sc_History___init__ : FnScope ["self"] ["self"] (defScope s_History___init__) := ⟨rfl, rfl, rfl, by decide +kernel, rfl, by decide +kernel, by decide +kernel⟩
theorem ok_History___init__ (D : All K P mg) : FnOk P w K mg base CX0 1 D.f_History___init__ D.d_History___init__ ["self"] (spHInit D.C_History) := by
  refine D.h_History___init__.fn.ok sc_History___init__ (fun vs H Q E h => ?_) (fun cdv A outer s H vs Q E hr h => ?_)
  · first | (obtain ⟨_, rfl, _⟩ := h; rfl) | (obtain ⟨_, _, rfl, _⟩ := h; rfl) | (obtain ⟨_, _, _, rfl, _⟩ := h; rfl) | (obtain ⟨_, _, _, _, rfl, _⟩ := h; rfl) | (obtain ⟨_, _, _, _, _, rfl, _⟩ := h; rfl) | (obtain ⟨_, _, _, _, _, _, rfl, _⟩ := h; rfl) | (obtain ⟨_, _, _, _, _, _, _, rfl, _⟩ := h; rfl) | (obtain ⟨_, _, _, _, _, _, _, _, rfl, _⟩ := h; rfl) | (obtain ⟨_, _, _, _, _, _, _, _, _, rfl, _⟩ := h; rfl) | (obtain ⟨_, _, _, _, _, _, _, _, _, _, rfl, _⟩ := h; rfl) | (obtain ⟨_, _, _, _, _, _, _, _, _, _, _, rfl, _⟩ := h; rfl) | (obtain ⟨_, _, _, _, _, _, _, _, _, _, _, _, rfl, _⟩ := h; rfl) | (obtain ⟨_, _, _, _, _, _, _, _, _, _, _, _, _, rfl, _⟩ := h; rfl) | (obtain ⟨_, _, _, _, _, _, _, _, _, _, _, _, _, _, rfl, _⟩ := h; rfl) | (obtain ⟨_, _, _, _, _, _, _, _, _, _, _, _, _, _, _, rfl, _⟩ := h; rfl)
  · have T := D.T
    have nd := sc_History___init__.nd
    have hu := hr.units
    have hu1 := hu_of hr
    have hu0 := hr.units0
    obtain ⟨x, dx, rfl, hx, q⟩ := h
    refine ⟨_, pss_one (ps_fld (pv 0) pe_dnewK rfl), ?_⟩
    refine fun N nN => ?_
    have nx : x ≠ N := ne_of_none hx nN
    have s1 := same_upd (o := .dK []) nN
    have eN := upd_same (H := H) (a := N) (o := .dK [])
    generalize upd H N (.dK []) = H1 at *
    refine ⟨_, rfl, x, _, dx, _, rfl, s1 _ _ hx, D.Z_History.cl, D.n_History_by_day, by decide, ?_⟩
    refine q ⟨x, dx, N, [], []⟩ _ rfl rfl rfl nN ⟨upd_same, ?_, .nil, List.nodup_cons.mpr ⟨fun h => nx (List.mem_singleton.mp h), List.nodup_cons.mpr ⟨nofun, List.nodup_nil⟩⟩, List.nodup_nil⟩ (SameB.upd (SameB.of s1))
    show upd H1 x _ N = _
    rw [upd_ne nx.symm]
    exact eN
theorem sc_History_note : FnScope ["self", "known", "day", "worth", "told"] ["self", "known", "day", "worth"] (defScope s_History_note) := ⟨rfl, rfl, rfl, by decide +kernel, rfl, by decide +kernel, by decide +kernel⟩
theorem ok_History_note (D : All K P mg) : FnOk P w K mg base CX0 1 D.f_History_note D.d_History_note ["self", "known", "day", "worth"] (spNote D.C_History) := by
  refine D.h_History_note.fn.ok sc_History_note (fun vs H Q E h => ?_) (fun cdv A outer s H vs Q E hr h => ?_)
  · first | (obtain ⟨_, rfl, _⟩ := h; rfl) | (obtain ⟨_, _, rfl, _⟩ := h; rfl) | (obtain ⟨_, _, _, rfl, _⟩ := h; rfl) | (obtain ⟨_, _, _, _, rfl, _⟩ := h; rfl) | (obtain ⟨_, _, _, _, _, rfl, _⟩ := h; rfl) | (obtain ⟨_, _, _, _, _, _, rfl, _⟩ := h; rfl) | (obtain ⟨_, _, _, _, _, _, _, rfl, _⟩ := h; rfl) | (obtain ⟨_, _, _, _, _, _, _, _, rfl, _⟩ := h; rfl) | (obtain ⟨_, _, _, _, _, _, _, _, _, rfl, _⟩ := h; rfl) | (obtain ⟨_, _, _, _, _, _, _, _, _, _, rfl, _⟩ := h; rfl) | (obtain ⟨_, _, _, _, _, _, _, _, _, _, _, rfl, _⟩ := h; rfl) | (obtain ⟨_, _, _, _, _, _, _, _, _, _, _, _, rfl, _⟩ := h; rfl) | (obtain ⟨_, _, _, _, _, _, _, _, _, _, _, _, _, rfl, _⟩ := h; rfl) | (obtain ⟨_, _, _, _, _, _, _, _, _, _, _, _, _, _, rfl, _⟩ := h; rfl) | (obtain ⟨_, _, _, _, _, _, _, _, _, _, _, _, _, _, _, rfl, _⟩ := h; rfl)
  · have T := D.T
    have nd := sc_History_note.nd
    have hu := hr.units
    have hu1 := hu_of hr
    have hu0 := hr.units0
    obtain ⟨a, kn, d, w, rfl, W, ok, q⟩ := h
    refine ⟨_, pss_cons (ps_set (i := 4) nd rfl (.inl rfl) (pe_dsetd (pe_fld (pv 0) rfl) (pv 2) pe_dnewK ⟨rfl, rfl, rfl, rfl⟩))
      (pss_one (ps_dput hu1 (pv 4) (pv 1) (pv 3) rfl)), ?_⟩
    have gl := W.glen
    have gl2 := ok.1
    refine ⟨_, rfl, a.x, _, a.dx, _, _, rfl, W.ix, D.Z_History.cl, D.n_History_by_day, rfl, a.D, rfl, .inl ⟨_, .inl W.bd⟩, _, rfl, fun T nT => ?_⟩
    have s1 := same_upd (o := .dK []) nT
    have eT := upd_same (H := H) (a := T) (o := .dK [])
    generalize upd H T (.dK []) = H1 at *
    have W1 := W.mono s1
    refine ⟨dayK a.g, .inl d, W1.bd, rfl, by rw [day_len]; exact small2k (by omega), fun v hv => ?_, fun hn => ?_⟩
    · rw [day_val] at hv
      rcases paired_at (d := d) W1.ta with ⟨e, _⟩ | ⟨T0, t, e1, e2, e3⟩
      · rw [e] at hv
        cases hv
      · rw [e1] at hv
        cases hv
        have tl := ok.2 (d, t) (getA_mem e2)
        have tl : t.length ≤ 60 := tl
        refine ⟨_, rfl, _, rfl, _, rfl, _, _, rfl, DPut.k (k := Sum.inl kn) e3 (by rw [told_len]; exact small2k (by omega)), ?_⟩
        rw [told_put]
        have mT : T0 ∈ a.fp := List.mem_cons_of_mem _ (List.mem_cons_of_mem _ (List.mem_map.mpr ⟨_, getA_mem e1, rfl⟩))
        exact q { a with h := noteH a.h kn d w } _ rfl rfl (W1.note1 e1 e2 upd_same fun c n o e => by rw [upd_ne n]; exact e) (fun c hc => .inl hc) (SameL.upd mT (SameL.of s1))
    · rw [day_val] at hn
      rcases paired_at (d := d) W1.ta with ⟨e1, e2⟩ | ⟨T0, t, e1, e2, e3⟩
      · have nD : T ≠ a.D := fun z => by
          rw [z, W.bd] at nT
          cases nT
        have eT2 : upd H1 a.D (.dK (putK (dayK a.g) (Sum.inl d) (V.ref T))) T = some (.dK (toldK [])) := by rw [upd_ne nD]; exact eT
        refine ⟨_, rfl, _, rfl, _, rfl, _, _, rfl, DPut.k (k := Sum.inl kn) eT2 (by decide), ?_⟩
        rw [told_put, day_put, putA_new e1]
        have mD : a.D ∈ a.fp := List.mem_cons_of_mem _ List.mem_cons_self
        refine q { a with g := a.g ++ [(d, T)], h := noteH a.h kn d w } _ rfl rfl (W.note2 e1 e2 nT upd_same ?_ ?_) ?_ ?_
        · rw [upd_ne nD.symm]
          exact upd_same
        · intro c n1 n2 o e
          rw [upd_ne n1, upd_ne n2]
          exact s1 _ _ e
        · intro c hc
          rcases List.mem_cons.mp hc with rfl | hc
          · exact .inl List.mem_cons_self
          rcases List.mem_cons.mp hc with rfl | hc
          · exact .inl mD
          rw [List.map_append, List.mem_append] at hc
          rcases hc with hc | hc
          · exact .inl (List.mem_cons_of_mem _ (List.mem_cons_of_mem _ hc))
          · rw [List.mem_singleton.mp hc]
            exact .inr nT
        · intro c o n e
          rw [upd_ne (ne_of_none e nT), upd_ne (fun z : c = a.D => n (by rw [z]; exact mD))]
          exact s1 _ _ e
      · rw [e1] at hn
        cases hn
theorem sc_History_told_last : FnScope ["self", "day", "known", "told", "counting", "each"] ["self", "day", "known"] (defScope s_History_told_last) := ⟨rfl, rfl, rfl, by decide +kernel, rfl, by decide +kernel, by decide +kernel⟩
theorem ok_History_told_last (D : All K P mg) : FnOk P w K mg base CX0 1 D.f_History_told_last D.d_History_told_last ["self", "day", "known"] (spLast D.C_History) := by
  refine D.h_History_told_last.fn.ok sc_History_told_last (fun vs H Q E h => ?_) (fun cdv A outer s H vs Q E hr h => ?_)
  · first | (obtain ⟨_, rfl, _⟩ := h; rfl) | (obtain ⟨_, _, rfl, _⟩ := h; rfl) | (obtain ⟨_, _, _, rfl, _⟩ := h; rfl) | (obtain ⟨_, _, _, _, rfl, _⟩ := h; rfl) | (obtain ⟨_, _, _, _, _, rfl, _⟩ := h; rfl) | (obtain ⟨_, _, _, _, _, _, rfl, _⟩ := h; rfl) | (obtain ⟨_, _, _, _, _, _, _, rfl, _⟩ := h; rfl) | (obtain ⟨_, _, _, _, _, _, _, _, rfl, _⟩ := h; rfl) | (obtain ⟨_, _, _, _, _, _, _, _, _, rfl, _⟩ := h; rfl) | (obtain ⟨_, _, _, _, _, _, _, _, _, _, rfl, _⟩ := h; rfl) | (obtain ⟨_, _, _, _, _, _, _, _, _, _, _, rfl, _⟩ := h; rfl) | (obtain ⟨_, _, _, _, _, _, _, _, _, _, _, _, rfl, _⟩ := h; rfl) | (obtain ⟨_, _, _, _, _, _, _, _, _, _, _, _, _, rfl, _⟩ := h; rfl) | (obtain ⟨_, _, _, _, _, _, _, _, _, _, _, _, _, _, rfl, _⟩ := h; rfl) | (obtain ⟨_, _, _, _, _, _, _, _, _, _, _, _, _, _, _, rfl, _⟩ := h; rfl)
  · have T := D.T
    have nd := sc_History_told_last.nd
    have hu := hr.units
    have hu1 := hu_of hr
    have hu0 := hr.units0
    obtain ⟨a, d, kn, rfl, W, ok, q⟩ := h
    refine ⟨_, pss_cons (ps_set (i := 3) nd rfl (.inl rfl) (pe_dget2 hu1 (pe_fld (pv 0) rfl) (pv 1) pe_dnewK ⟨rfl, rfl, rfl, rfl⟩))
      (pss_cons (ps_lock (ps_setLc (i := 4) (own := [("each", 5)]) (g := gName 5) rfl nd rfl rfl (sw_true rfl rfl rfl (by decide +kernel)) (pi_keys (pv 3)) (blkOk_by (N := ["self", "day", "known", "told", "counting", "each"]) (sc := defScope s_History_told_last) (by decide +kernel)) (fun _ _ _ _ _ => (pg_name (i := 5) nd rfl (Or.inl rfl))) (fun _ _ _ _ _ => pts_one (PW.pt (pw_or (pt_cmpR op_isN (pv 2) pe_non (nomark _)) (pw_or1 (pt_cmpR op_le (pv 5) (pv 2) (nomark _)))))) (fun _ _ _ _ _ => (pv 5))))
      (pss_one (ps_ret (pe_ifExp (pt_truth (pv 4) (by intro _; rfl)) (pe_dget hu1 (pv 3) (pe_callB (cr_max rfl) (by rfl) T.max (by decide +kernel) (pa_cons (pv 4) pa_nil)) (fun _ _ => rfl)) pe_non)))), ?_⟩
    refine ⟨_, rfl, a.x, _, a.dx, _, _, rfl, W.ix, D.Z_History.cl, D.n_History_by_day, rfl, a.D, rfl, .inl ⟨_, .inl W.bd⟩, _, rfl, fun T nT => ?_⟩
    have s1 := same_upd (o := .dK []) nT
    have eT := upd_same (H := H) (a := T) (o := .dK [])
    generalize upd H T (.dK []) = H1 at *
    have W1 := W.mono s1
    refine ⟨_, DGet.k (k := Sum.inl d) W1.bd, ?_⟩
    have two : ∃ (c : Addr) (t : Told), (valV (dayK a.g) (Sum.inl d)).getD (.ref T) = .ref c ∧ H1 c = some (.dK (toldK t)) ∧ t = (getA a.h d).getD [] ∧ t.length ≤ 60 := by
      rw [day_val]
      rcases paired_at (d := d) W1.ta with ⟨e1, e2⟩ | ⟨T0, t, e1, e2, e3⟩
      · rw [e1, e2]
        exact ⟨T, [], rfl, eT, rfl, by decide⟩
      · rw [e1, e2]
        exact ⟨T0, t, rfl, e3, rfl, ok.2 (d, t) (getA_mem e2)⟩
    obtain ⟨c, t, ec, hc, et, tl⟩ := two
    rw [ec]
    rw [← et] at q
    refine ⟨c, _, hc, trivial, fun od => ?_⟩
    have ef := upd_same (H := H1) (a := c) (o := .frz od (.dK (toldK t)))
    refine ⟨_, rfl, c, od, rfl, .inl ⟨_, ef, fun F nF => ?_⟩⟩
    have nFc : F ≠ c := fun e => by rw [e, ef] at nF; cases nF
    refine lc_it walk_enk (fun i H' => Same (upd H1 c (.frz od (.dK (toldK t)))) H' ∧ H' F = some (.lst ((((t.take i).map (·.1)).filter (ctK kn)).map V.int))) ⟨same_upd nF, upd_same⟩ (fun i H' _ ⟨s, _⟩ => s _ _ ef) ?_ ?_
    · rintro i x H2 H3 hi ⟨s2, eF⟩ ⟨rfl, p, hp, rfl⟩
      have grow : ((t.take (i + 1)).map (·.1)).filter (ctK kn) = ((t.take i).map (·.1)).filter (ctK kn) ++ if ctK kn p.1 = true then [p.1] else [] := by
        rw [← take_more (·.1) hp, List.filter_append, List.filter_cons, List.filter_nil]
      have ln : (((((t.take i).map (·.1)).filter (ctK kn)).map V.int)).length < sizeLine := by
        rw [List.length_map]
        refine small2k (Nat.le_trans (List.length_filter_le _ _) ?_)
        rw [List.length_map, List.length_take]
        omega
      have keep : ctK kn p.1 = true → Same (upd H1 c (.frz od (.dK (toldK t)))) (upd H3 F (.lst ((((t.take i).map (·.1)).filter (ctK kn)).map V.int ++ [V.int p.1]))) ∧ upd H3 F (.lst ((((t.take i).map (·.1)).filter (ctK kn)).map V.int ++ [V.int p.1])) F = some (.lst ((((t.take (i + 1)).map (·.1)).filter (ctK kn)).map V.int)) := fun h => by
        refine ⟨same_app nF s2, ?_⟩
        rw [upd_same, grow, if_pos h, List.map_append]
        rfl
      refine ⟨rfl, _, rfl, rfl, _, rfl, ?_⟩
      cases kn with
      | none => exact ⟨_, rfl, _, eF, ln, keep rfl⟩
      | some k =>
        refine iteF ⟨_, rfl, _, rfl, _, _, rfl, rfl, _, rfl, ?_⟩
        by_cases hk : p.1 ≤ k
        · rw [decide_eq_true hk]
          exact ⟨_, rfl, _, eF, ln, keep (decide_eq_true hk)⟩
        · rw [decide_eq_false hk]
          refine ⟨s2, ?_⟩
          rw [eF, grow, if_neg (show ¬ ctK (some k) p.1 = true from fun h => hk (of_decide_eq_true h)), List.append_nil]
    · rintro H2 ⟨s2, eF⟩
      rw [List.take_length] at eF
      refine ⟨s2 _ _ ef, ?_⟩
      have s3 : Same H1 (upd H2 c (.dK (toldK t))) := lock_back hc s2
      have eF3 : upd H2 c (.dK (toldK t)) F = some (.lst (((t.map (·.1)).filter (ctK kn)).map V.int)) := by rw [upd_ne nFc]; exact eF
      have hc3 : upd H2 c (.dK (toldK t)) c = some (.dK (toldK t)) := upd_same
      generalize upd H2 c (.dK (toldK t)) = H3 at *
      refine ⟨_, rfl, _, .inl ⟨_, SqL.of eF3, rfl⟩, ?_⟩
      have s13 := s1.trans s3
      cases hn : (t.map (·.1)).filter (ctK kn) with
      | nil =>
        refine iteF (q .non H3 (.inl ⟨fun p hp => ?_, rfl⟩) s13)
        rw [List.filter_eq_nil_iff] at hn
        exact bool_false (hn p.1 (List.mem_map.mpr ⟨p, hp, rfl⟩))
      | cons n0 ns =>
        refine iteT ⟨_, rfl, _, rfl, F, n0 :: ns, rfl, by rw [← hn]; exact SqL.of eF3, by simp, fun m hm hle => ?_⟩
        rw [← hn] at hm hle
        obtain ⟨hm1, hm2⟩ := List.mem_filter.mp hm
        obtain ⟨p, hp, rfl⟩ := List.mem_map.mp hm1
        have hg : ∃ w, getA t p.1 = some w := by
          cases e : getA t p.1 with
          | none => exact absurd hm1 (getA_none_iff.mp e)
          | some w => exact ⟨w, rfl⟩
        obtain ⟨w, hw⟩ := hg
        have dg : DGet H3 c (.int p.1) (some w) := by
          have := DGet.k (k := Sum.inl p.1) hc3
          rw [told_val, hw] at this
          exact this
        exact ⟨c, _, rfl, dg, q w H3 (.inr ⟨p.1, hw, hm2, fun p' hp' hc' => hle _ (List.mem_filter.mpr ⟨List.mem_map.mpr ⟨p', hp', rfl⟩, hc'⟩)⟩) s13⟩
theorem sc_History_holding : FnScope ["self", "known", "rows", "day", "worth"] ["self", "known"] (defScope s_History_holding) := ⟨rfl, rfl, rfl, by decide +kernel, rfl, by decide +kernel, by decide +kernel⟩
theorem ok_History_holding (D : All K P mg) : FnOk P w K mg base CX0 2 D.f_History_holding D.d_History_holding ["self", "known"] (spHolding D.C_History) := by
  refine D.h_History_holding.fn.ok sc_History_holding (fun vs H Q E h => ?_) (fun cdv A outer s H vs Q E hr h => ?_)
  · first | (obtain ⟨_, rfl, _⟩ := h; rfl) | (obtain ⟨_, _, rfl, _⟩ := h; rfl) | (obtain ⟨_, _, _, rfl, _⟩ := h; rfl) | (obtain ⟨_, _, _, _, rfl, _⟩ := h; rfl) | (obtain ⟨_, _, _, _, _, rfl, _⟩ := h; rfl) | (obtain ⟨_, _, _, _, _, _, rfl, _⟩ := h; rfl) | (obtain ⟨_, _, _, _, _, _, _, rfl, _⟩ := h; rfl) | (obtain ⟨_, _, _, _, _, _, _, _, rfl, _⟩ := h; rfl) | (obtain ⟨_, _, _, _, _, _, _, _, _, rfl, _⟩ := h; rfl) | (obtain ⟨_, _, _, _, _, _, _, _, _, _, rfl, _⟩ := h; rfl) | (obtain ⟨_, _, _, _, _, _, _, _, _, _, _, rfl, _⟩ := h; rfl) | (obtain ⟨_, _, _, _, _, _, _, _, _, _, _, _, rfl, _⟩ := h; rfl) | (obtain ⟨_, _, _, _, _, _, _, _, _, _, _, _, _, rfl, _⟩ := h; rfl) | (obtain ⟨_, _, _, _, _, _, _, _, _, _, _, _, _, _, rfl, _⟩ := h; rfl) | (obtain ⟨_, _, _, _, _, _, _, _, _, _, _, _, _, _, _, rfl, _⟩ := h; rfl)
  · have T := D.T
    have nd := sc_History_holding.nd
    have hu := hr.units
    have hu1 := hu_of hr
    have hu0 := hr.units0
    obtain ⟨a, kn, rfl, W, ok, q⟩ := h
    refine ⟨_, pss_cons (ps_setLc (i := 2) (own := [("day", 3)]) (g := gName 3) (tt := tYes) rfl nd rfl rfl (sw_true rfl rfl rfl (by decide +kernel)) (pi_list (pe_callB (call_sortedDI rfl) (by rfl) T.sorted (by decide +kernel) (pa_cons (pe_fld (pv 0) rfl) pa_nil))) (blkOk_by (N := ["self", "known", "rows", "day", "worth"]) (sc := defScope s_History_holding) (by decide +kernel)) (fun _ _ _ _ _ => (pg_name (i := 3) nd rfl (Or.inl rfl))) (fun _ _ _ _ _ => pts_nil) (fun _ _ _ _ _ => (pe_tup (pa_cons (pv 3) (pa_cons (pe_meth (pv 0) D.Z_History.cl D.h_History_told_last.me (ok_History_told_last D) (hr.mono (by decide)) D.h_History_told_last.bd .nil pass0 (pa_cons (pv 3) (pa_cons (pv 1) pa_nil))) pa_nil)))))
      (pss_one (ps_ret (pe_lc (own := [("day", 3), ("worth", 4)]) (g := gTup K 2 (gCons (gName 3) (gCons (gName 4) gNil))) rfl nd (pi_list (pv 2)) (blkOk_by (N := ["self", "known", "rows", "day", "worth"]) (sc := defScope s_History_holding) (by decide +kernel)) (fun _ _ _ _ _ => (pg_tup rfl (pgs_cons (pg_name (i := 3) nd rfl (Or.inl rfl)) (pgs_cons (pg_name (i := 4) nd rfl (Or.inl rfl)) pgs_nil)))) (fun _ _ _ _ _ => pts_one (pt_cmpR op_notN (pv 4) pe_non (nomark _))) (fun _ _ _ _ _ => (pe_tup (pa_cons (pv 3) (pa_cons (pv 4) pa_nil))))))), ?_⟩
    have gl := W.glen
    have gl2 := ok.1
    refine ⟨_, rfl, a.x, _, a.dx, _, _, rfl, W.ix, D.Z_History.cl, D.n_History_by_day, rfl, a.D, _, a.g.map (·.1), rfl, .inl W.bd, dayK_keys _, by rw [List.length_map]; omega, fun ys Y perm up nY => ?_⟩
    have s1 := same_upd (o := .lst (ys.map V.int)) nY
    have eY := upd_same (H := H) (a := Y) (o := .lst (ys.map V.int))
    generalize upd H Y (.lst (ys.map V.int)) = H1 at *
    have W1 := W.mono s1
    have ylen : ys.length ≤ 60 := by rw [perm.length_eq, List.length_map]; omega
    refine ⟨Y, rfl, ⟨_, SqL.of eY⟩, fun F nF => ?_⟩
    refine lc_list (K := K) (a := Y) (xs := ys.map V.int) (fun i H' => Same H1 H' ∧ ∃ (ts : List Addr) (rs : List (Int × V)), H' F = some (.lst (ts.map V.ref)) ∧ RowsP H' ts rs ∧ rs.map (·.1) = ys.take i ∧ ∀ p ∈ rs, LastW ((getA a.h p.1).getD []) kn p.2)
      ⟨same_upd nF, [], [], upd_same, .nil, rfl, nofun⟩ (fun i H' _ ⟨s, _⟩ => SqL.of (s _ _ eY)) ?_ ?_
    · rintro i x H2 hx ⟨s2, ts, rs, eF, hp, ek, hl⟩
      rw [List.getElem?_map, Option.map_eq_some_iff] at hx
      obtain ⟨y, hy, rfl⟩ := hx
      have W2 := W1.mono s2
      refine ⟨rfl, _, rfl, _, rfl, a.x, a.dx, _, rfl, W2.ix, rfl, _, rfl, _, rfl, a, y, kn, rfl, W2, ok, fun w H3 lw s3 => ?_⟩
      refine ⟨by show 2 ≤ sizeLine; decide, fun t nt => ?_⟩
      have s4 := same_upd (o := .tup [V.int y, w]) nt
      have et := upd_same (H := H3) (a := t) (o := .tup [V.int y, w])
      generalize upd H3 t (.tup [V.int y, w]) = H4 at *
      have eF4 := s4 _ _ (s3 _ _ eF)
      have hl2 : ts.length = rs.length := Paired.length hp
      have hl3 : rs.length ≤ 60 := by
        have := congrArg List.length ek
        rw [List.length_map, List.length_take] at this
        omega
      refine ⟨_, eF4, by rw [List.length_map]; exact small2k (by omega), same_app nF (s2.trans (s3.trans s4)), ts ++ [t], rs ++ [(y, w)], ?_, ?_, ?_, ?_⟩
      · rw [upd_same, List.map_append]
        rfl
      · exact ((hp.mono (s3.trans s4)).snoc et).upd eF4
      · rw [List.map_append, ek, List.take_add_one, hy]
        rfl
      · intro p hp
        rcases List.mem_append.mp hp with hp | hp
        · exact hl p hp
        · rw [List.mem_singleton.mp hp]
          exact lw
    · rintro H2 ⟨s2, ts, rs, eF, hp, ek, hl⟩
      rw [List.length_map, List.take_length] at ek
      have hl2 : ts.length = rs.length := Paired.length hp
      have hl3 : rs.length = ys.length := by
        have := congrArg List.length ek
        rw [List.length_map] at this
        exact this
      refine ⟨_, rfl, F, rfl, ⟨_, SqL.of eF⟩, fun G nG => ?_⟩
      refine lc_list (K := K) (a := F) (xs := ts.map V.ref) (fun i H' => Same H2 H' ∧ ∃ (us : List Addr), H' G = some (.lst (us.map V.ref)) ∧ RowsP H' us ((rs.take i).filter fun p => !decide (p.2 = .non)))
        ⟨same_upd nG, [], upd_same, .nil⟩ (fun i H' _ ⟨s, _⟩ => SqL.of (s _ _ eF)) ?_ ?_
      · rintro i x H3 hx ⟨s3, us, eG, hu'⟩
        obtain ⟨t, p, rfl, hpi, ht⟩ := hp.at_ hx
        have ht3 := s3 _ _ ht
        have grow : ((rs.take (i + 1)).filter fun p => !decide (p.2 = .non)) = ((rs.take i).filter fun p => !decide (p.2 = .non)) ++ if (!decide (p.2 = .non)) = true then [p] else [] := by
          rw [List.take_add_one, hpi, List.filter_append]
          show _ ++ List.filter _ [p] = _
          rw [List.filter_cons, List.filter_nil]
        refine ⟨t, _, rfl, SqT.of ht3, rfl, _, _, rfl, _, _, rfl, rfl, rfl, _, rfl, rfl, _, rfl, ?_⟩
        cases hn : (!decide (p.2 = .non)) with
        | false =>
          rw [hn, if_neg (by nofun), List.append_nil] at grow
          refine ⟨s3, us, eG, ?_⟩
          rw [grow]
          exact hu'
        | true =>
          rw [hn, if_pos rfl] at grow
          refine ⟨_, rfl, _, rfl, by show 2 ≤ sizeLine; decide, fun u nu => ?_⟩
          have s4 := same_upd (o := .tup [V.int p.1, p.2]) nu
          have eu := upd_same (H := H3) (a := u) (o := .tup [V.int p.1, p.2])
          generalize upd H3 u (.tup [V.int p.1, p.2]) = H4 at *
          have eG4 := s4 _ _ eG
          have ul : us.length ≤ 60 := by
            rw [Paired.length hu']
            refine Nat.le_trans (List.length_filter_le _ _) ?_
            rw [List.length_take]
            omega
          refine ⟨_, eG4, by rw [List.length_map]; exact small2k (by omega), same_app nG (s3.trans s4), us ++ [u], ?_, ?_⟩
          · rw [upd_same, List.map_append]
            rfl
          · rw [grow]
            exact ((hu'.mono s4).snoc eu).upd eG4
      · rintro H3 ⟨s3, us, eG, hu'⟩
        rw [List.length_map, hl2, List.take_length] at hu'
        have gk : (a.g.map (·.1)).Nodup := by rw [paired_keys W.ta]; exact W.nk
        refine q G _ H3 (s1.trans s2 |>.free nG) ⟨us, eG, hu'⟩ (hold_of W.nk (by rw [← paired_keys W.ta]; exact perm) up ek hl) (s1.trans (s2.trans s3))
theorem sc_are_ranks : FnScope ["thing", "name", "rank"] ["thing"] (defScope s_are_ranks) := ⟨rfl, rfl, rfl, by decide +kernel, rfl, by decide +kernel, by decide +kernel⟩
theorem ok_are_ranks (D : All K P mg) : FnOk P w K mg base CX0 3 D.f_are_ranks D.d_are_ranks ["thing"] spRanks := by
  refine D.h_are_ranks.fn.ok sc_are_ranks (fun vs H Q E h => ?_) (fun cdv A outer s H vs Q E hr h => ?_)
  · first | (obtain ⟨_, rfl, _⟩ := h; rfl) | (obtain ⟨_, _, rfl, _⟩ := h; rfl) | (obtain ⟨_, _, _, rfl, _⟩ := h; rfl) | (obtain ⟨_, _, _, _, rfl, _⟩ := h; rfl) | (obtain ⟨_, _, _, _, _, rfl, _⟩ := h; rfl) | (obtain ⟨_, _, _, _, _, _, rfl, _⟩ := h; rfl) | (obtain ⟨_, _, _, _, _, _, _, rfl, _⟩ := h; rfl) | (obtain ⟨_, _, _, _, _, _, _, _, rfl, _⟩ := h; rfl) | (obtain ⟨_, _, _, _, _, _, _, _, _, rfl, _⟩ := h; rfl) | (obtain ⟨_, _, _, _, _, _, _, _, _, _, rfl, _⟩ := h; rfl) | (obtain ⟨_, _, _, _, _, _, _, _, _, _, _, rfl, _⟩ := h; rfl) | (obtain ⟨_, _, _, _, _, _, _, _, _, _, _, _, rfl, _⟩ := h; rfl) | (obtain ⟨_, _, _, _, _, _, _, _, _, _, _, _, _, rfl, _⟩ := h; rfl) | (obtain ⟨_, _, _, _, _, _, _, _, _, _, _, _, _, _, rfl, _⟩ := h; rfl) | (obtain ⟨_, _, _, _, _, _, _, _, _, _, _, _, _, _, _, rfl, _⟩ := h; rfl)
  · have T := D.T
    have nd := sc_are_ranks.nd
    have hu := hr.units
    have hu1 := hu_of hr
    have hu0 := hr.units0
    obtain ⟨r, rk, rfl, hr', k, q⟩ := h
    refine ⟨_, pss_cons (ps_if (PW.pt (pw_or (pt_not (pt_val (pe_callB call_isi (by rfl) T.isi (by decide +kernel) (pa_cons (pv 0) (pa_cons (pe_bltn (v := .ty "dict") (by rfl) T.dict (by decide +kernel) rfl) pa_nil))))) (pw_or1 (pt_cmpR op_gt (pe_callB call_lenD (by rfl) T.len PySem.boot_len (pa_cons (pv 0) pa_nil)) (pe_glob (v := .int (30)) (by rfl) D.g_MOST_KEEPERS ⟨_, rfl⟩) (nomark _))))) (pss_one (ps_ret pe_bl)) pss_nil)
      (pss_one (ps_ret (pe_callB (cr_all rfl) (by rfl) T.all (by decide +kernel) (pa_cons (pe_lock (pe_lc (own := [("name", 1), ("rank", 2)]) (g := gTup K 2 (gCons (gName 1) (gCons (gName 2) gNil))) (tt := tYes) rfl nd (pi_items (pv 0)) (blkOk_by (N := ["thing", "name", "rank"]) (sc := defScope s_are_ranks) (by decide +kernel)) (fun _ _ _ _ _ => (pg_tup rfl (pgs_cons (pg_name (i := 1) nd rfl (Or.inl rfl)) (pgs_cons (pg_name (i := 2) nd rfl (Or.inl rfl)) pgs_nil)))) (fun _ _ _ _ _ => pts_nil) (fun _ _ _ _ _ => (pe_and (pe_call (ok_is_name D) (hr.mono (by decide)) (by rfl) D.h_is_name.gl D.h_is_name.fn.kp D.h_is_name.bd .nil pass0 (pa_cons (pv 1) pa_nil)) (pe_one (pe_call (ok_is_within D) (hr.mono (by decide)) (by rfl) D.h_is_within.gl D.h_is_within.fn.kp D.h_is_within.bd .nil pass0 (pa_cons (pv 2) (pa_cons (pe_glob (v := .int (1)) (by rfl) D.g_HIGHEST_RANK ⟨_, rfl⟩) (pa_cons (pe_glob (v := .int (9)) (by rfl) D.g_LOWEST_RANK ⟨_, rfl⟩) pa_nil))))))))) pa_nil)))), ?_⟩
    have kl := k.ln
    refine ⟨_, rfl, .ref r, .ty "dict", _, _, true, rfl, .ty _, .base (.dK hr'), kit_ty (show kitB "dict" "dict" = some true by decide +kernel), _, rfl, ?_⟩
    refine iteF ⟨_, rfl, r, _, rfl, hr', _, _, rfl, rfl, _, rfl, ?_⟩
    rw [decide_eq_false (by rw [sd_len]; omega)]
    refine iteF ⟨r, _, hr', trivial, fun od => ?_⟩
    have ed := upd_same (H := H) (a := r) (o := .frz od (.dK (sd rk)))
    refine ⟨_, rfl, r, od, _, rfl, ed, fun F nF => ?_⟩
    have nFr : F ≠ r := fun e => by rw [e, ed] at nF; cases nF
    refine lc_it walk_rows (fun i H' => Same (upd H r (.frz od (.dK (sd rk)))) H' ∧ H' F = some (.lst ((List.replicate i true).map V.bl))) ⟨same_upd nF, upd_same⟩ (fun i H' _ ⟨s, _⟩ => s _ _ ed) ?_ ?_
    · rintro i x H1 H2 hi ⟨s1, eF⟩ ⟨T', p, hp, rfl, nT, rfl⟩
      have hm := List.mem_of_getElem? hp
      have hb := k.b1 p hm
      have hn := k.nm p hm
      have l8 := hn.l8
      refine ⟨T', _, rfl, SqT.of upd_same, rfl, _, _, rfl, _, _, rfl, rfl, rfl, ?_⟩
      have sT := same_upd (o := .tup [.str p.1, .int p.2]) nT
      refine ⟨_, rfl, .str p.1, rfl, .str _, fun z hz => by cases hz; rw [sizeLine_eq]; omega, fun H3 s3 => ⟨_, rfl, ?_⟩⟩
      rw [hn.b]
      refine ⟨_, rfl, .int p.2, 1, 9, rfl, .int _, ?_⟩
      have e : withinB (.int p.2) 1 9 = true := by
        show (decide (1 ≤ p.2) && decide (p.2 ≤ 9)) = true
        rw [decide_eq_true hb.1, decide_eq_true hb.2]
        rfl
      rw [e]
      refine ⟨_, s3 _ _ (sT _ _ eF), small2k (by rw [List.length_map, List.length_replicate]; omega), same_app nF (s1.trans (sT.trans s3)), ?_⟩
      rw [upd_same, ← rep_succ, List.map_append]
      rfl
    · rintro H1 ⟨s1, eF⟩
      refine ⟨s1 _ _ ed, F, List.replicate rk.length true, rfl, SqL.of ?_, ?_⟩
      · rw [upd_ne nFr]
        exact eF
      · rw [rep_all]
        exact q _ (lock_back hr' s1)
end
end K74
set_option Elab.async false
set_option linter.all false
set_option maxRecDepth 100000
set_option maxHeartbeats 1600000
set_option pp.maxSteps 300
namespace K74
open PySem PySem.Spec PyProof.Rows L2 LT NdefX LamX
section
variable {P : Program} {w : World} {K : PySem.W.Frag} {mg : Str → Option Value} {base : Heap}
theorem sc_Book___init__ : FnScope ["self", "ranks", "keeper"] ["self", "ranks"] (defScope s_Book___init__) := ⟨rfl, rfl, rfl, by decide +kernel, rfl, by decide +kernel, by decide +kernel⟩
theorem ok_Book___init__ (D : All K P mg) : FnOk P w K mg base CX0 4 D.f_Book___init__ D.d_Book___init__ ["self", "ranks"] (spBInit D.C_Book D.C_History) := by
  refine D.h_Book___init__.fn.ok sc_Book___init__ (fun vs H Q E h => ?_) (fun cdv A outer s H vs Q E hr h => ?_)
  · first | (obtain ⟨_, rfl, _⟩ := h; rfl) | (obtain ⟨_, _, rfl, _⟩ := h; rfl) | (obtain ⟨_, _, _, rfl, _⟩ := h; rfl) | (obtain ⟨_, _, _, _, rfl, _⟩ := h; rfl) | (obtain ⟨_, _, _, _, _, rfl, _⟩ := h; rfl) | (obtain ⟨_, _, _, _, _, _, rfl, _⟩ := h; rfl) | (obtain ⟨_, _, _, _, _, _, _, rfl, _⟩ := h; rfl) | (obtain ⟨_, _, _, _, _, _, _, _, rfl, _⟩ := h; rfl) | (obtain ⟨_, _, _, _, _, _, _, _, _, rfl, _⟩ := h; rfl) | (obtain ⟨_, _, _, _, _, _, _, _, _, _, rfl, _⟩ := h; rfl) | (obtain ⟨_, _, _, _, _, _, _, _, _, _, _, rfl, _⟩ := h; rfl) | (obtain ⟨_, _, _, _, _, _, _, _, _, _, _, _, rfl, _⟩ := h; rfl) | (obtain ⟨_, _, _, _, _, _, _, _, _, _, _, _, _, rfl, _⟩ := h; rfl) | (obtain ⟨_, _, _, _, _, _, _, _, _, _, _, _, _, _, rfl, _⟩ := h; rfl) | (obtain ⟨_, _, _, _, _, _, _, _, _, _, _, _, _, _, _, rfl, _⟩ := h; rfl)
  · have T := D.T
    have nd := sc_Book___init__.nd
    have hu := hr.units
    have hu1 := hu_of hr
    have hu0 := hr.units0
    obtain ⟨b, dx, r, rk, rfl, hb, hr', k, q⟩ := h
    refine ⟨_, pss_cons (ps_if (pt_not (pt_val (pe_call (ok_are_ranks D) (hr.mono (by decide)) (by rfl) D.h_are_ranks.gl D.h_are_ranks.fn.kp D.h_are_ranks.bd .nil pass0 (pa_cons (pv 1) pa_nil)))) (pss_one ps_never) pss_nil)
      (pss_cons (ps_fld (pv 0) (pe_callTy call_dictD (by rfl) T.dict (by decide +kernel) (pa_cons (pv 1) pa_nil)) rfl)
      (pss_cons (ps_fld (pv 0) (pe_lock (pe_dc (own := [("keeper", 2)]) (g := gName 2) (tt := tYes) rfl nd (pi_keys (pv 1)) (blkOk_by (N := ["self", "ranks", "keeper"]) (sc := defScope s_Book___init__) (by decide +kernel)) (fun _ _ _ _ _ => (pg_name (i := 2) nd rfl (Or.inl rfl))) (fun _ _ _ _ _ => pts_nil) (fun _ _ _ _ _ => (pv 2)) (fun _ _ _ _ _ => (pe_make0 D.M_History (ok_History___init__ D) (hr.mono (by decide)) (by rfl) D.Z_History.gl D.h_History___init__.bd .nil pass0)))) rfl)
      (pss_cons (ps_fld (pv 0) pe_dnewK rfl)
      (pss_one (ps_fld (pv 0) pe_non rfl))))), ?_⟩
    have kl := k.ln
    refine ⟨_, rfl, r, rk, rfl, hr', k, fun H1 s1 => ⟨_, rfl, iteF ?_⟩⟩
    refine ⟨_, rfl, r, _, rfl, .inl (s1 _ _ hr'), fun R nR => ?_⟩
    have s2 := same_upd (o := .dK (sd rk)) nR
    have eR := upd_same (H := H1) (a := R) (o := .dK (sd rk))
    generalize upd H1 R (.dK (sd rk)) = H2 at *
    have hb2 := s2 _ _ (s1 _ _ hb)
    have hr2 := s2 _ _ (s1 _ _ hr')
    have nbR : R ≠ b := fun e => by
      rw [e, s1 _ _ hb] at nR
      cases nR
    have nbr : r ≠ b := fun e => by
      rw [e, hb2] at hr2
      cases hr2
    refine ⟨_, rfl, b, _, dx, _, rfl, hb2, D.Z_Book.cl, D.n_Book_rank_of, by decide, ?_⟩
    have hb3 : upd H2 b (.ins D.C_Book dx [("rank_of", .ref R)]) b = some (.ins D.C_Book dx [("rank_of", .ref R)]) := upd_same
    have sb3 : SameB b H2 (upd H2 b (.ins D.C_Book dx [("rank_of", .ref R)])) := SameB.upd (SameB.of (Same.refl _))
    generalize hG3 : upd H2 b (.ins D.C_Book dx [("rank_of", .ref R)]) = H3 at *
    have hG3' : upd H2 b (.ins D.C_Book dx (putF "rank_of" (V.ref R) [])) = H3 := hG3
    rw [hG3']
    have hr3 := sb3 _ _ nbr hr2
    have eR3 := sb3 _ _ nbR eR
    refine ⟨r, _, hr3, trivial, fun od => ?_⟩
    have ef := upd_same (H := H3) (a := r) (o := .frz od (.dK (sd rk)))
    refine ⟨_, rfl, r, od, rfl, .inl ⟨_, ef, fun M nM => ?_⟩⟩
    have nMr : M ≠ r := fun e => by rw [e, ef] at nM; cases nM
    have nM3 : H3 M = none := by rw [upd_ne nMr] at nM; exact nM
    refine dc_it walk_rowk (fun i H' => Same (upd H3 r (.frz od (.dK (sd rk)))) H' ∧ ∃ mv : List (Str × HA), mv.map (·.1) = (rk.take i).map (·.1) ∧ H' M = some (.dK (hsK mv)) ∧
        (∀ e ∈ mv, HistAt D.C_History H' e.2 ∧ e.2.h = []) ∧ (hsfp mv).Nodup ∧ ∀ c ∈ hsfp mv, upd H3 r (.frz od (.dK (sd rk))) c = none ∧ c ≠ M)
      ⟨same_upd nM, [], rfl, upd_same, nofun, List.nodup_nil, nofun⟩ (fun i H' _ ⟨s, _⟩ => s _ _ ef) ?_ ?_
    · rintro i x H4 H5 hi ⟨s4, mv, ek, eM, hm, hnd, hfr⟩ ⟨rfl, p, hp, rfl⟩
      refine ⟨rfl, _, rfl, fun x dx nx ndx nex => ?_⟩
      have sm := same_made (C := D.C_History) (o := .ins D.C_History dx []) nx ndx
      refine ⟨x, dx, rfl, upd_same, fun a H6 ex eh eg nD Ha sb => ⟨rfl, ?_⟩⟩
      subst ex
      have s56 := sameB_new nx sm sb
      have nMx : M ≠ a.x := ne_of_none eM nx
      have nMD : M ≠ a.D := fun e => by
        rw [← e, sm _ _ eM] at nD
        cases nD
      have nD5 : H5 a.D = none := sm.free nD
      have efp : a.fp = [a.x, a.D] := by
        unfold HA.fp
        rw [eg]
        rfl
      have mvl : mv.length ≤ 30 := by
        have := congrArg List.length ek
        rw [List.length_map, List.length_map, List.length_take] at this
        omega
      have hnew : getA mv p.1 = none := by
        rw [getA_none_iff, ek]
        have nd := k.nd
        have hil := (List.getElem?_eq_some_iff.mp hp).1
        intro hm
        rw [← List.take_append_drop i rk, List.map_append, List.nodup_append] at nd
        refine nd.2.2 _ hm p.1 ?_ rfl
        rw [List.drop_eq_getElem_cons hil]
        rw [(List.getElem?_eq_some_iff.mp hp).2]
        exact List.mem_cons_self
      refine ⟨hsK mv, Sum.inr p.1, rfl, s56 _ _ eM, by rw [hsK_len]; exact small2k (by omega), same_app nM (s4.trans s56), mv ++ [(p.1, a)], ?_, ?_, ?_, ?_, ?_⟩
      · rw [List.map_append, ek, take_snoc hp, List.map_append]
        rfl
      · rw [upd_same, hsK_put, putA_new hnew]
      · intro e he
        rcases List.mem_append.mp he with he | he
        · refine ⟨((hm e he).1.mono s56).by fun c hc o eo => ?_, (hm e he).2⟩
          rw [upd_ne (hfr c (hsfp_mem.mpr ⟨e, he, hc⟩)).2]
          exact eo
        · rw [List.mem_singleton.mp he]
          refine ⟨Ha.by fun c hc o eo => ?_, eh⟩
          rw [efp] at hc
          rw [upd_ne (fun z => ?_)]
          · exact eo
          · rcases List.mem_cons.mp hc with e | hc
            · exact nMx (z.symm.trans e)
            · exact nMD (z.symm.trans (List.mem_singleton.mp hc))
      · rw [hsfp_app, show hsfp [(p.1, a)] = a.fp from List.append_nil _, List.nodup_append]
        refine ⟨hnd, Ha.nd, fun c hc c' hc' e => ?_⟩
        subst e
        obtain ⟨e, he, hc⟩ := hsfp_mem.mp hc
        obtain ⟨o, ho⟩ := (hm e he).1.ex c hc
        rw [efp] at hc'
        rcases List.mem_cons.mp hc' with e | hc'
        · rw [e, nx] at ho
          cases ho
        · rw [List.mem_singleton.mp hc', nD5] at ho
          cases ho
      · intro c hc
        rw [hsfp_app, show hsfp [(p.1, a)] = a.fp from List.append_nil _] at hc
        rcases List.mem_append.mp hc with hc | hc
        · exact hfr c hc
        · rw [efp] at hc
          rcases List.mem_cons.mp hc with e | hc
          · rw [e]
            exact ⟨s4.free nx, nMx.symm⟩
          · rw [List.mem_singleton.mp hc]
            exact ⟨s4.free nD5, nMD.symm⟩
    · rintro H4 ⟨s4, mv, ek, eM, hm, hnd, hfr⟩
      rw [List.take_length] at ek
      refine ⟨s4 _ _ ef, ?_⟩
      have fr : ∀ c ∈ hsfp mv, H3 c = none ∧ c ≠ M := fun c hc => by
        obtain ⟨f1, f2⟩ := hfr c hc
        refine ⟨?_, f2⟩
        rw [upd_ne (fun z => by rw [z, ef] at f1; cases f1)] at f1
        exact f1
      have s34 : Same H3 (upd H4 r (.dK (sd rk))) := lock_back hr3 s4
      have eM5 : upd H4 r (.dK (sd rk)) M = some (.dK (hsK mv)) := by rw [upd_ne nMr]; exact eM
      have hm5 : ∀ e ∈ mv, HistAt D.C_History (upd H4 r (.dK (sd rk))) e.2 ∧ e.2.h = [] := fun e he => ⟨(hm e he).1.by fun c hc o eo => by
        rw [upd_ne (fun z => by have := (fr c (hsfp_mem.mpr ⟨e, he, hc⟩)).1; rw [z, hr3] at this; cases this)]
        exact eo, (hm e he).2⟩
      generalize upd H4 r (.dK (sd rk)) = H5 at *
      have nbM : M ≠ b := fun e => by rw [e, hb3] at nM3; cases nM3
      refine ⟨_, rfl, b, _, dx, _, rfl, s34 _ _ hb3, D.Z_Book.cl, D.n_Book_moves, by show 1 < 1000; decide, ?_⟩
      have hb6 : upd H5 b (.ins D.C_Book dx [("rank_of", .ref R), ("moves", .ref M)]) b = some (.ins D.C_Book dx [("rank_of", .ref R), ("moves", .ref M)]) := upd_same
      have sb6 : SameB b H5 (upd H5 b (.ins D.C_Book dx [("rank_of", .ref R), ("moves", .ref M)])) := SameB.upd (SameB.of (Same.refl _))
      generalize hG6 : upd H5 b (.ins D.C_Book dx [("rank_of", .ref R), ("moves", .ref M)]) = H6 at *
      have hG6' : upd H5 b (.ins D.C_Book dx (putF "moves" (V.ref M) [("rank_of", V.ref R)])) = H6 := hG6
      rw [hG6']
      refine fun L nL => ?_
      have s7 := same_upd (o := .dK []) nL
      have eL := upd_same (H := H6) (a := L) (o := .dK [])
      generalize upd H6 L (.dK []) = H7 at *
      refine ⟨_, rfl, b, _, dx, _, rfl, s7 _ _ hb6, D.Z_Book.cl, D.n_Book_landings, by show 2 < 1000; decide, ?_⟩
      have nbL : L ≠ b := fun e => by rw [e, hb6] at nL; cases nL
      have hb8 : upd H7 b (.ins D.C_Book dx [("rank_of", .ref R), ("moves", .ref M), ("landings", .ref L)]) b = some (.ins D.C_Book dx [("rank_of", .ref R), ("moves", .ref M), ("landings", .ref L)]) := upd_same
      have sb8 : SameB b H7 (upd H7 b (.ins D.C_Book dx [("rank_of", .ref R), ("moves", .ref M), ("landings", .ref L)])) := SameB.upd (SameB.of (Same.refl _))
      generalize hG8 : upd H7 b (.ins D.C_Book dx [("rank_of", .ref R), ("moves", .ref M), ("landings", .ref L)]) = H8 at *
      have hG8' : upd H7 b (.ins D.C_Book dx (putF "landings" (V.ref L) [("rank_of", V.ref R), ("moves", V.ref M)])) = H8 := hG8
      rw [hG8']
      refine ⟨_, rfl, b, _, dx, _, rfl, hb8, D.Z_Book.cl, D.n_Book_latest_known, by show 3 < 1000; decide, ?_⟩
      have hb9 : upd H8 b (.ins D.C_Book dx [("rank_of", .ref R), ("moves", .ref M), ("landings", .ref L), ("latest_known", .non)]) b = some (.ins D.C_Book dx [("rank_of", .ref R), ("moves", .ref M), ("landings", .ref L), ("latest_known", .non)]) := upd_same
      have sb9 : SameB b H8 (upd H8 b (.ins D.C_Book dx [("rank_of", .ref R), ("moves", .ref M), ("landings", .ref L), ("latest_known", .non)])) := SameB.upd (SameB.of (Same.refl _))
      generalize hG9 : upd H8 b (.ins D.C_Book dx [("rank_of", .ref R), ("moves", .ref M), ("landings", .ref L), ("latest_known", .non)]) = H9 at *
      have hG9' : upd H8 b (.ins D.C_Book dx (putF "latest_known" V.non [("rank_of", V.ref R), ("moves", V.ref M), ("landings", V.ref L)])) = H9 := hG9
      rw [hG9']
      have t79 : SameB b H7 H9 := sb8.trans sb9
      have t59 : SameB b H5 H9 := sb6.trans ((SameB.of s7).trans t79)
      have t39 : SameB b H3 H9 := (SameB.of s34).trans t59
      have t09 : SameB b H H9 := (SameB.of (s1.trans s2)).trans (sb3.trans t39)
      have bh : BkH D.C_Book D.C_History H9 ⟨b, dx, R, M, L, mv, [], rk, []⟩ .non := by
        refine ⟨hb9, t39 _ _ nbR eR3, t59 _ _ nbM eM5, t79 _ _ nbL eL, ?_, nofun, ?_⟩
        · intro e he
          refine (hm5 e he).1.by fun c hc o eo => t59 _ _ (fun z => ?_) eo
          have := (fr c (hsfp_mem.mpr ⟨e, he, hc⟩)).1
          rw [z, hb3] at this
          cases this
        · have fL : ∀ {c : Addr}, (∃ o, H5 c = some o) → c ≠ b → c ≠ L := fun ⟨o, ho⟩ n z => by
            have := sb6 _ _ n ho
            rw [z, nL] at this
            cases this
          have fM : ∀ {c : Addr}, (∃ o, H3 c = some o) → c ≠ M := fun ⟨o, ho⟩ z => by
            rw [z, nM3] at ho
            cases ho
          have fh : ∀ {c : Addr}, (∃ o, H3 c = some o) → c ∉ hsfp mv := fun ⟨o, ho⟩ z => by
            rw [(fr _ z).1] at ho
            cases ho
          show (b :: R :: M :: L :: (hsfp mv ++ [])).Nodup
          rw [List.append_nil]
          refine List.nodup_cons.mpr ⟨fun h => ?_, List.nodup_cons.mpr ⟨fun h => ?_, List.nodup_cons.mpr ⟨fun h => ?_, List.nodup_cons.mpr ⟨fun h => ?_, hnd⟩⟩⟩⟩
          · rcases List.mem_cons.mp h with h | h
            · exact nbR h.symm
            rcases List.mem_cons.mp h with h | h
            · exact nbM h.symm
            rcases List.mem_cons.mp h with h | h
            · exact nbL h.symm
            · exact fh ⟨_, hb3⟩ h
          · rcases List.mem_cons.mp h with h | h
            · exact fM ⟨_, eR3⟩ h
            rcases List.mem_cons.mp h with h | h
            · exact fL ⟨_, s34 _ _ eR3⟩ nbR h
            · exact fh ⟨_, eR3⟩ h
          · rcases List.mem_cons.mp h with h | h
            · exact fL ⟨_, eM5⟩ nbM h
            · exact (fr _ h).2 rfl
          · obtain ⟨e, he, hc⟩ := hsfp_mem.mp h
            obtain ⟨o, ho⟩ := (hm5 e he).1.ex L hc
            exact fL ⟨o, ho⟩ nbL rfl
      have bp : BkP ⟨b, dx, R, M, L, mv, [], rk, []⟩ := ⟨k, ek, List.nodup_nil, fun e he => (hm5 e he).2, nofun, nofun, List.Pairwise.nil, nofun⟩
      refine q _ H9 ⟨_, rfl, rfl, rfl, rfl, bh, bp, Nat.le_refl _⟩ (fun c hc => ?_) t09
      have f3 : ∀ {c : Addr}, H3 c = none → c = b ∨ H c = none := fun {c} h => by
        by_cases z : c = b
        · exact .inl z
        · refine .inr (s1.free (s2.free ?_))
          cases e : H2 c with
          | none => rfl
          | some o =>
            rw [sb3 _ _ z e] at h
            cases h
      rcases List.mem_cons.mp hc with h | hc
      · exact .inl h
      rcases List.mem_cons.mp hc with h | hc
      · rw [h]
        exact .inr (s1.free nR)
      rcases List.mem_cons.mp hc with h | hc
      · rw [h]
        exact f3 nM3
      rcases List.mem_cons.mp hc with h | hc
      · rw [h]
        refine f3 (s34.free ?_)
        cases e : H5 L with
        | none => rfl
        | some o =>
          rw [sb6 _ _ nbL e] at nL
          cases nL
      · have hc : c ∈ hsfp mv := by
          rcases List.mem_append.mp hc with h | h
          · exact h
          · exact nomatch h
        exact f3 (fr c hc).1
theorem sc_check_keeper : FnScope ["book", "thing"] ["book", "thing"] (defScope s_check_keeper) := ⟨rfl, rfl, rfl, by decide +kernel, rfl, by decide +kernel, by decide +kernel⟩
theorem ok_check_keeper (D : All K P mg) : FnOk P w K mg base CX0 2 D.f_check_keeper D.d_check_keeper ["book", "thing"] (spCkKeeper D.C_Book D.C_History) := by
  refine D.h_check_keeper.fn.ok sc_check_keeper (fun vs H Q E h => ?_) (fun cdv A outer s H vs Q E hr h => ?_)
  · first | (obtain ⟨_, rfl, _⟩ := h; rfl) | (obtain ⟨_, _, rfl, _⟩ := h; rfl) | (obtain ⟨_, _, _, rfl, _⟩ := h; rfl) | (obtain ⟨_, _, _, _, rfl, _⟩ := h; rfl) | (obtain ⟨_, _, _, _, _, rfl, _⟩ := h; rfl) | (obtain ⟨_, _, _, _, _, _, rfl, _⟩ := h; rfl) | (obtain ⟨_, _, _, _, _, _, _, rfl, _⟩ := h; rfl) | (obtain ⟨_, _, _, _, _, _, _, _, rfl, _⟩ := h; rfl) | (obtain ⟨_, _, _, _, _, _, _, _, _, rfl, _⟩ := h; rfl) | (obtain ⟨_, _, _, _, _, _, _, _, _, _, rfl, _⟩ := h; rfl) | (obtain ⟨_, _, _, _, _, _, _, _, _, _, _, rfl, _⟩ := h; rfl) | (obtain ⟨_, _, _, _, _, _, _, _, _, _, _, _, rfl, _⟩ := h; rfl) | (obtain ⟨_, _, _, _, _, _, _, _, _, _, _, _, _, rfl, _⟩ := h; rfl) | (obtain ⟨_, _, _, _, _, _, _, _, _, _, _, _, _, _, rfl, _⟩ := h; rfl) | (obtain ⟨_, _, _, _, _, _, _, _, _, _, _, _, _, _, _, rfl, _⟩ := h; rfl)
  · have T := D.T
    have nd := sc_check_keeper.nd
    have hu := hr.units
    have hu1 := hu_of hr
    have hu0 := hr.units0
    obtain ⟨_, rk, es, fp, z, rfl, ⟨B, rfl, rfl, rfl, rfl, bh, bp, bl⟩, hz, q⟩ := h
    refine ⟨_, pss_one (ps_if (PW.pt (pw_or (pt_not (pt_val (pe_call (ok_is_name D) (hr.mono (by decide)) (by rfl) D.h_is_name.gl D.h_is_name.fn.kp D.h_is_name.bd .nil pass0 (pa_cons (pv 1) pa_nil)))) (pw_or1 (pt_cmp (pc_dnotin hu1 (pv 1) (pe_fld (pv 0) rfl)))))) (pss_one ps_never) pss_nil), ?_⟩
    obtain ⟨i, hi⟩ := get_key hz
    have hn : Nm z := bp.rk.nm _ (getA_mem hi)
    have l8 := hn.l8
    refine ⟨_, rfl, .str z, rfl, .str z, fun y e => by cases e; rw [sizeLine_eq]; omega, fun H1 s1 => ⟨_, rfl, ?_⟩⟩
    rw [hn.b]
    refine iteF ⟨_, rfl, _, rfl, B.b, _, B.dx, _, _, rfl, s1 _ _ bh.ix, D.Z_Book.cl, D.n_Book_rank_of, rfl, B.R, _, rfl, dget_sd (s1 _ _ bh.rd) hi, _, rfl, iteF (q H1 s1)⟩
theorem sc_check_not_early : FnScope ["book", "known"] ["book", "known"] (defScope s_check_not_early) := ⟨rfl, rfl, rfl, by decide +kernel, rfl, by decide +kernel, by decide +kernel⟩
theorem ok_check_not_early (D : All K P mg) : FnOk P w K mg base CX0 1 D.f_check_not_early D.d_check_not_early ["book", "known"] (spNotEarly D.C_Book D.C_History) := by
  refine D.h_check_not_early.fn.ok sc_check_not_early (fun vs H Q E h => ?_) (fun cdv A outer s H vs Q E hr h => ?_)
  · first | (obtain ⟨_, rfl, _⟩ := h; rfl) | (obtain ⟨_, _, rfl, _⟩ := h; rfl) | (obtain ⟨_, _, _, rfl, _⟩ := h; rfl) | (obtain ⟨_, _, _, _, rfl, _⟩ := h; rfl) | (obtain ⟨_, _, _, _, _, rfl, _⟩ := h; rfl) | (obtain ⟨_, _, _, _, _, _, rfl, _⟩ := h; rfl) | (obtain ⟨_, _, _, _, _, _, _, rfl, _⟩ := h; rfl) | (obtain ⟨_, _, _, _, _, _, _, _, rfl, _⟩ := h; rfl) | (obtain ⟨_, _, _, _, _, _, _, _, _, rfl, _⟩ := h; rfl) | (obtain ⟨_, _, _, _, _, _, _, _, _, _, rfl, _⟩ := h; rfl) | (obtain ⟨_, _, _, _, _, _, _, _, _, _, _, rfl, _⟩ := h; rfl) | (obtain ⟨_, _, _, _, _, _, _, _, _, _, _, _, rfl, _⟩ := h; rfl) | (obtain ⟨_, _, _, _, _, _, _, _, _, _, _, _, _, rfl, _⟩ := h; rfl) | (obtain ⟨_, _, _, _, _, _, _, _, _, _, _, _, _, _, rfl, _⟩ := h; rfl) | (obtain ⟨_, _, _, _, _, _, _, _, _, _, _, _, _, _, _, rfl, _⟩ := h; rfl)
  · have T := D.T
    have nd := sc_check_not_early.nd
    have hu := hr.units
    have hu1 := hu_of hr
    have hu0 := hr.units0
    obtain ⟨_, rk, es, fp, kn, rfl, ⟨B, rfl, rfl, rfl, rfl, bh, bp, bl⟩, hk, q⟩ := h
    refine ⟨_, pss_one (ps_if (PW.pt (pw_and (pt_cmpR op_notN (pe_fld (pv 0) rfl) pe_non (nomark _)) (pw_and1 (pt_cmpR op_lt (pv 1) (pe_fld (pv 0) rfl) (nomark _))))) (pss_one ps_never) pss_nil), ?_⟩
    refine ⟨_, rfl, B.b, _, B.dx, _, _, rfl, bh.ix, D.Z_Book.cl, D.n_Book_latest_known, rfl, rfl, _, rfl, ?_⟩
    rcases late_le hk with e | ⟨l, e, hl⟩
    · rw [e]
      exact iteF q
    · rw [e]
      refine iteT ⟨_, rfl, _, rfl, B.b, _, B.dx, _, _, rfl, bh.ix, D.Z_Book.cl, D.n_Book_latest_known, rfl, kn, l, rfl, e, _, rfl, ?_⟩
      rw [decide_eq_false (by omega)]
      exact iteF q
theorem sc_Book_tell : FnScope ["self", "known", "keeper", "day", "place"] ["self", "known", "keeper", "day", "place"] (defScope s_Book_tell) := ⟨rfl, rfl, rfl, by decide +kernel, rfl, by decide +kernel, by decide +kernel⟩
theorem ok_Book_tell (D : All K P mg) : FnOk P w K mg base CX0 5 D.f_Book_tell D.d_Book_tell ["self", "known", "keeper", "day", "place"] (spTell D.C_Book D.C_History) := by
  refine D.h_Book_tell.fn.ok sc_Book_tell (fun vs H Q E h => ?_) (fun cdv A outer s H vs Q E hr h => ?_)
  · first | (obtain ⟨_, rfl, _⟩ := h; rfl) | (obtain ⟨_, _, rfl, _⟩ := h; rfl) | (obtain ⟨_, _, _, rfl, _⟩ := h; rfl) | (obtain ⟨_, _, _, _, rfl, _⟩ := h; rfl) | (obtain ⟨_, _, _, _, _, rfl, _⟩ := h; rfl) | (obtain ⟨_, _, _, _, _, _, rfl, _⟩ := h; rfl) | (obtain ⟨_, _, _, _, _, _, _, rfl, _⟩ := h; rfl) | (obtain ⟨_, _, _, _, _, _, _, _, rfl, _⟩ := h; rfl) | (obtain ⟨_, _, _, _, _, _, _, _, _, rfl, _⟩ := h; rfl) | (obtain ⟨_, _, _, _, _, _, _, _, _, _, rfl, _⟩ := h; rfl) | (obtain ⟨_, _, _, _, _, _, _, _, _, _, _, rfl, _⟩ := h; rfl) | (obtain ⟨_, _, _, _, _, _, _, _, _, _, _, _, rfl, _⟩ := h; rfl) | (obtain ⟨_, _, _, _, _, _, _, _, _, _, _, _, _, rfl, _⟩ := h; rfl) | (obtain ⟨_, _, _, _, _, _, _, _, _, _, _, _, _, _, rfl, _⟩ := h; rfl) | (obtain ⟨_, _, _, _, _, _, _, _, _, _, _, _, _, _, _, rfl, _⟩ := h; rfl)
  · have T := D.T
    have nd := sc_Book_tell.nd
    have hu := hr.units
    have hu1 := hu_of hr
    have hu0 := hr.units0
    obtain ⟨b, rk, es, fp, kn, d, z, w, rfl, W, ok, hk, hl, q⟩ := h
    refine ⟨_, pss_cons (ps_expr (pe_call (ok_check_day D) (hr.mono (by decide)) (by rfl) D.h_check_day.gl D.h_check_day.fn.kp D.h_check_day.bd .nil pass0 (pa_cons (pv 1) pa_nil)))
      (pss_cons (ps_expr (pe_call (ok_check_day D) (hr.mono (by decide)) (by rfl) D.h_check_day.gl D.h_check_day.fn.kp D.h_check_day.bd .nil pass0 (pa_cons (pv 3) pa_nil)))
      (pss_cons (ps_expr (pe_call (ok_check_keeper D) (hr.mono (by decide)) (by rfl) D.h_check_keeper.gl D.h_check_keeper.fn.kp D.h_check_keeper.bd .nil pass0 (pa_cons (pv 0) (pa_cons (pv 2) pa_nil))))
      (pss_cons (ps_if (pt_cmpR op_notN (pv 4) pe_non (nomark _)) (pss_one (ps_expr (pe_call (ok_check_place D) (hr.mono (by decide)) (by rfl) D.h_check_place.gl D.h_check_place.fn.kp D.h_check_place.bd .nil pass0 (pa_cons (pv 4) pa_nil)))) pss_nil)
      (pss_cons (ps_expr (pe_call (ok_check_not_early D) (hr.mono (by decide)) (by rfl) D.h_check_not_early.gl D.h_check_not_early.fn.kp D.h_check_not_early.bd .nil pass0 (pa_cons (pv 0) (pa_cons (pv 1) pa_nil))))
      (pss_cons (ps_expr (pe_meth (pe_dget hu1 (pe_fld (pv 0) rfl) (pv 2) (fun _ _ => rfl)) D.Z_History.cl D.h_History_note.me (ok_History_note D) (hr.mono (by decide)) D.h_History_note.bd .nil pass0 (pa_cons (pv 1) (pa_cons (pv 3) (pa_cons (pv 4) pa_nil)))))
      (pss_one (ps_fld (pv 0) (pv 1) rfl))))))), ?_⟩
    obtain ⟨hzk, hw⟩ := ok.mw rfl
    refine ⟨_, rfl, kn, rfl, ok.k0, _, rfl, d, rfl, ok.d0, ?_⟩
    refine ⟨_, rfl, _, rfl, b, rk, es, fp, z, rfl, W, hzk, fun H1 s1 => ?_⟩
    apply joinA (α := Unit) (J := fun _ Hx => Same H Hx) (sl := fun _ => [some (.ref b), some (.int kn), some (.str z), some (.int d), some w])
    · intro h
      refine ⟨_, rfl, rfl, _, rfl, ?_⟩
      have hw : w = .non ∨ ∃ z, w = .str z ∧ Pl z := hw
      rcases hw with e | ⟨y, e, hy⟩
      · rw [decide_eq_true e]
        exact iteF (h () H1 s1)
      · rw [decide_eq_false (by rw [e]; nofun)]
        exact iteT ⟨_, rfl, y, congrArg (fun v => [v]) e, hy, fun H2 s2 => h () H2 (s1.trans s2)⟩
    rintro _ H2 s2
    refine ⟨_, rfl, _, rfl, b, rk, es, fp, kn, rfl, W.mono s2, hk, ?_⟩
    obtain ⟨B, rfl, rfl, rfl, rfl, bh, bp, bl⟩ := W
    have bh2 := bh.by (H' := H2) fun c _ o e => s2 c o e
    obtain ⟨a, ha⟩ := get_key (kvs := B.mv) (z := z) (by rw [bp.km]; exact hzk)
    obtain ⟨l1, l2, el, _⟩ := get_split ha
    have hmem : (z, a) ∈ B.mv := by rw [el]; exact List.mem_append_right _ List.mem_cons_self
    have Ha := bh2.hm _ hmem
    refine ⟨_, rfl, B.b, _, B.dx, _, _, rfl, bh2.ix, D.Z_Book.cl, D.n_Book_moves, rfl, _, rfl, B.M, _, rfl, dget_hs bh2.md ha, a.x, a.dx, _, rfl, Ha.ix, rfl, _, rfl, _, rfl, _, rfl, a, kn, d, w, rfl, Ha, OKH.of (bp.hm _ hmem) (by omega), fun a' H3 ex eh Ha' fr s3 => ?_⟩
    obtain ⟨bh3, fr3, s3'⟩ := bh2.setM el Ha' ex fr s3
    have bp3 := bp.tell el eh hk ok
    refine ⟨_, rfl, _, rfl, B.b, _, B.dx, _, rfl, bh3.ix, D.Z_Book.cl, D.n_Book_latest_known, by show 4 < 1000; decide, ?_⟩
    have mb : B.b ∈ B.fp := List.mem_cons_self
    refine q _ _ ⟨{ B with mv := l1 ++ (z, a') :: l2, es := B.es ++ [⟨true, kn, z, d, w⟩] }, rfl, rfl, rfl, rfl, ?_, bp3, by show B.ld.length ≤ (B.es ++ _).length; rw [List.length_append]; omega⟩ (fun c hc => (fr3 c hc).imp id fun h => s2.free h) (SameL.upd mb ((SameL.of s2).trans s3'))
    rw [lateV_snoc]
    have := bh3.late (.int kn)
    exact ⟨this.ix, this.rd, this.md, this.ldd, this.hm, this.hl, this.nd⟩
theorem sc_Book_land : FnScope ["self", "known", "light", "day", "weight"] ["self", "known", "light", "day", "weight"] (defScope s_Book_land) := ⟨rfl, rfl, rfl, by decide +kernel, rfl, by decide +kernel, by decide +kernel⟩
theorem ok_Book_land (D : All K P mg) : FnOk P w K mg base CX0 5 D.f_Book_land D.d_Book_land ["self", "known", "light", "day", "weight"] (spLand D.C_Book D.C_History) := by
  refine D.h_Book_land.fn.ok sc_Book_land (fun vs H Q E h => ?_) (fun cdv A outer s H vs Q E hr h => ?_)
  · first | (obtain ⟨_, rfl, _⟩ := h; rfl) | (obtain ⟨_, _, rfl, _⟩ := h; rfl) | (obtain ⟨_, _, _, rfl, _⟩ := h; rfl) | (obtain ⟨_, _, _, _, rfl, _⟩ := h; rfl) | (obtain ⟨_, _, _, _, _, rfl, _⟩ := h; rfl) | (obtain ⟨_, _, _, _, _, _, rfl, _⟩ := h; rfl) | (obtain ⟨_, _, _, _, _, _, _, rfl, _⟩ := h; rfl) | (obtain ⟨_, _, _, _, _, _, _, _, rfl, _⟩ := h; rfl) | (obtain ⟨_, _, _, _, _, _, _, _, _, rfl, _⟩ := h; rfl) | (obtain ⟨_, _, _, _, _, _, _, _, _, _, rfl, _⟩ := h; rfl) | (obtain ⟨_, _, _, _, _, _, _, _, _, _, _, rfl, _⟩ := h; rfl) | (obtain ⟨_, _, _, _, _, _, _, _, _, _, _, _, rfl, _⟩ := h; rfl) | (obtain ⟨_, _, _, _, _, _, _, _, _, _, _, _, _, rfl, _⟩ := h; rfl) | (obtain ⟨_, _, _, _, _, _, _, _, _, _, _, _, _, _, rfl, _⟩ := h; rfl) | (obtain ⟨_, _, _, _, _, _, _, _, _, _, _, _, _, _, _, rfl, _⟩ := h; rfl)
  · have T := D.T
    have nd := sc_Book_land.nd
    have hu := hr.units
    have hu1 := hu_of hr
    have hu0 := hr.units0
    obtain ⟨b, rk, es, fp, kn, d, z, w, rfl, W, ok, hk, hl, q⟩ := h
    refine ⟨_, pss_cons (ps_expr (pe_call (ok_check_day D) (hr.mono (by decide)) (by rfl) D.h_check_day.gl D.h_check_day.fn.kp D.h_check_day.bd .nil pass0 (pa_cons (pv 1) pa_nil)))
      (pss_cons (ps_expr (pe_call (ok_check_day D) (hr.mono (by decide)) (by rfl) D.h_check_day.gl D.h_check_day.fn.kp D.h_check_day.bd .nil pass0 (pa_cons (pv 3) pa_nil)))
      (pss_cons (ps_expr (pe_call (ok_check_light D) (hr.mono (by decide)) (by rfl) D.h_check_light.gl D.h_check_light.fn.kp D.h_check_light.bd .nil pass0 (pa_cons (pv 2) pa_nil)))
      (pss_cons (ps_expr (pe_call (ok_check_number D) (hr.mono (by decide)) (by rfl) D.h_check_number.gl D.h_check_number.fn.kp D.h_check_number.bd .nil pass0 (pa_cons (pv 4) (pa_cons pe_int pa_nil))))
      (pss_cons (ps_expr (pe_call (ok_check_not_early D) (hr.mono (by decide)) (by rfl) D.h_check_not_early.gl D.h_check_not_early.fn.kp D.h_check_not_early.bd .nil pass0 (pa_cons (pv 0) (pa_cons (pv 1) pa_nil))))
      (pss_cons (ps_if (pt_cmp (pc_dnotin hu1 (pv 2) (pe_fld (pv 0) rfl))) (pss_one (ps_dput hu1 (pe_fld (pv 0) rfl) (pv 2) (pe_make0 D.M_History (ok_History___init__ D) (hr.mono (by decide)) (by rfl) D.Z_History.gl D.h_History___init__.bd .nil pass0) rfl)) pss_nil)
      (pss_cons (ps_expr (pe_meth (pe_dget hu1 (pe_fld (pv 0) rfl) (pv 2) (fun _ _ => rfl)) D.Z_History.cl D.h_History_note.me (ok_History_note D) (hr.mono (by decide)) D.h_History_note.bd .nil pass0 (pa_cons (pv 1) (pa_cons (pv 3) (pa_cons (pv 4) pa_nil)))))
      (pss_one (ps_fld (pv 0) (pv 1) rfl)))))))), ?_⟩
    obtain ⟨hz, n, rfl, n0, _⟩ := ok.lw rfl
    refine ⟨_, rfl, kn, rfl, ok.k0, _, rfl, d, rfl, ok.d0, ?_⟩
    refine ⟨_, rfl, z, rfl, hz, fun H2 s2 => ?_⟩
    refine ⟨_, rfl, n, 0, rfl, n0, _, rfl, _, rfl, b, rk, es, fp, kn, rfl, W.mono s2, hk, ?_⟩
    obtain ⟨B, rfl, rfl, rfl, rfl, bh, bp, bl⟩ := W
    have bh2 := bh.by (H' := H2) fun c _ o e => s2 c o e
    apply joinA (α := BA) (J := fun B' Hx => B'.b = B.b ∧ B'.rk = B.rk ∧ B'.es = B.es ∧ BkH D.C_Book D.C_History Hx B' (lateV B.es) ∧ BkP B' ∧ (∃ a, getA B'.ld z = some a) ∧ (∀ c ∈ B'.fp, c ∈ B.fp ∨ H2 c = none) ∧ SameL B.fp H2 Hx ∧ B'.ld.length ≤ B.es.length + 1)
      (sl := fun _ => [some (.ref B.b), some (.int kn), some (.str z), some (.int d), some (.int n)])
    · intro h
      refine ⟨_, rfl, _, rfl, B.b, _, B.dx, _, _, rfl, bh2.ix, D.Z_Book.cl, D.n_Book_landings, rfl, ?_⟩
      cases hg : getA B.ld z with
      | some a => exact ⟨B.L, _, rfl, dget_hs bh2.ldd hg, _, rfl, iteF (h B H2 ⟨rfl, rfl, rfl, bh2, bp, ⟨a, hg⟩, fun c hc => .inl hc, .of (Same.refl _), Nat.le_succ_of_le bl⟩)⟩
      | none =>
        refine ⟨B.L, _, rfl, dget_no bh2.ldd hg, _, rfl, iteT fun x dx nx ndx nex => ?_⟩
        have sm := same_made (C := D.C_History) (o := .ins D.C_History dx []) nx ndx
        refine ⟨x, dx, rfl, upd_same, fun a H3 ex eh eg nD Ha sb => ⟨rfl, ?_⟩⟩
        subst ex
        have s3 := sameB_new nx sm sb
        have bh3 := bh2.by (H' := H3) fun c _ o e => s3 c o e
        have efp : a.fp = [a.x, a.D] := by
          unfold HA.fp
          rw [eg]
          rfl
        refine ⟨_, rfl, B.b, _, B.dx, _, _, rfl, bh3.ix, D.Z_Book.cl, D.n_Book_landings, rfl, _, rfl, _, _, rfl, DPut.k (k := Sum.inr z) bh3.ldd (by rw [hsK_len]; exact small2k (by omega)), ?_⟩
        rw [hsK_put, putA_new hg]
        have frA : ∀ c ∈ a.fp, H2 c = none := fun c hc => by
          rw [efp] at hc
          rcases List.mem_cons.mp hc with e | hc
          · rw [e]
            exact nx
          · rw [List.mem_singleton.mp hc]
            exact sm.free nD
        obtain ⟨n1, n2, n3⟩ := bh2.newL (H' := upd H3 B.L (.dK (hsK (B.ld ++ [(z, a)])))) (z := z) s3 Ha frA upd_same (SameB.upd (SameB.of (Same.refl _)))
        refine h { B with ld := B.ld ++ [(z, a)] } _ ⟨rfl, rfl, rfl, n1, bp.newL (getA_none_iff.mp hg) eh, ⟨a, ?_⟩, n2, n3, by show (B.ld ++ _).length ≤ _; rw [List.length_append]; exact Nat.succ_le_succ bl⟩
        show getA (B.ld ++ [(z, a)]) z = some a
        rw [getA_app (getA_none_iff.mp hg)]
        exact getA_pos rfl
    rintro B' Hx ⟨eb, erk, ees, bhx, bpx, ⟨a, ha⟩, frx, sx, blx⟩
    obtain ⟨l1, l2, el, _⟩ := get_split ha
    have hmem : (z, a) ∈ B'.ld := by rw [el]; exact List.mem_append_right _ List.mem_cons_self
    have Ha := bhx.hl _ hmem
    have ix : Hx B.b = some (.ins D.C_Book B'.dx [("rank_of", .ref B'.R), ("moves", .ref B'.M), ("landings", .ref B'.L), ("latest_known", lateV B.es)]) := by rw [← eb]; exact bhx.ix
    refine ⟨_, rfl, B.b, _, B'.dx, _, _, rfl, ix, D.Z_Book.cl, D.n_Book_landings, rfl, _, rfl, B'.L, _, rfl, dget_hs bhx.ldd ha, a.x, a.dx, _, rfl, Ha.ix, rfl, _, rfl, _, rfl, _, rfl, a, kn, d, .int n, rfl, Ha, OKH.of (bpx.hl _ hmem) (by rw [ees]; omega), fun a' H3 ex eh Ha' fr s3 => ?_⟩
    obtain ⟨bh3, fr3, s3'⟩ := bhx.setL el Ha' ex fr s3
    have bp3 := bpx.land el eh (by rw [ees]; exact hk) (by rw [erk]; exact ok)
    refine ⟨_, rfl, _, rfl, B.b, _, B'.dx, _, rfl, (congrArg H3 eb).symm.trans bh3.ix, D.Z_Book.cl, D.n_Book_latest_known, by show 4 < 1000; decide, ?_⟩
    have mb : B.b ∈ B.fp := List.mem_cons_self
    rw [← eb]
    refine q _ _ ⟨{ B' with ld := l1 ++ (z, a') :: l2, es := B'.es ++ [⟨false, kn, z, d, .int n⟩] }, eb, erk, by show B'.es ++ _ = _; rw [ees], rfl, ?_, bp3, ?_⟩ ?_ ?_
    · rw [lateV_snoc]
      have := bh3.late (.int kn)
      exact ⟨this.ix, this.rd, this.md, this.ldd, this.hm, this.hl, this.nd⟩
    · show (l1 ++ (z, a') :: l2).length ≤ (B'.es ++ _).length
      have e2 := congrArg List.length el
      rw [List.length_append, List.length_cons] at e2
      rw [List.length_append, List.length_append, List.length_cons, List.length_singleton, ees]
      omega
    · intro c hc
      rcases fr3 c hc with h | h
      · exact (frx c h).imp id fun h => s2.free h
      · by_cases hf : c ∈ B.fp
        · exact .inl hf
        · exact .inr (s2.free (sx.free h hf))
    · refine SameL.upd (by rw [eb]; exact mb) ((SameL.of s2).trans (sx.fresh s3' frx))
theorem sc_Book_moves_known : FnScope ["self", "keeper", "known"] ["self", "keeper", "known"] (defScope s_Book_moves_known) := ⟨rfl, rfl, rfl, by decide +kernel, rfl, by decide +kernel, by decide +kernel⟩
theorem ok_Book_moves_known (D : All K P mg) : FnOk P w K mg base CX0 3 D.f_Book_moves_known D.d_Book_moves_known ["self", "keeper", "known"] (spMKn D.C_Book D.C_History) := by
  refine D.h_Book_moves_known.fn.ok sc_Book_moves_known (fun vs H Q E h => ?_) (fun cdv A outer s H vs Q E hr h => ?_)
  · first | (obtain ⟨_, rfl, _⟩ := h; rfl) | (obtain ⟨_, _, rfl, _⟩ := h; rfl) | (obtain ⟨_, _, _, rfl, _⟩ := h; rfl) | (obtain ⟨_, _, _, _, rfl, _⟩ := h; rfl) | (obtain ⟨_, _, _, _, _, rfl, _⟩ := h; rfl) | (obtain ⟨_, _, _, _, _, _, rfl, _⟩ := h; rfl) | (obtain ⟨_, _, _, _, _, _, _, rfl, _⟩ := h; rfl) | (obtain ⟨_, _, _, _, _, _, _, _, rfl, _⟩ := h; rfl) | (obtain ⟨_, _, _, _, _, _, _, _, _, rfl, _⟩ := h; rfl) | (obtain ⟨_, _, _, _, _, _, _, _, _, _, rfl, _⟩ := h; rfl) | (obtain ⟨_, _, _, _, _, _, _, _, _, _, _, rfl, _⟩ := h; rfl) | (obtain ⟨_, _, _, _, _, _, _, _, _, _, _, _, rfl, _⟩ := h; rfl) | (obtain ⟨_, _, _, _, _, _, _, _, _, _, _, _, _, rfl, _⟩ := h; rfl) | (obtain ⟨_, _, _, _, _, _, _, _, _, _, _, _, _, _, rfl, _⟩ := h; rfl) | (obtain ⟨_, _, _, _, _, _, _, _, _, _, _, _, _, _, _, rfl, _⟩ := h; rfl)
  · have T := D.T
    have nd := sc_Book_moves_known.nd
    have hu := hr.units
    have hu1 := hu_of hr
    have hu0 := hr.units0
    obtain ⟨_, rk, es, fp, z, kn, rfl, ⟨B, rfl, rfl, rfl, rfl, bh, bp, bl⟩, hz, hl, q⟩ := h
    refine ⟨_, pss_one (ps_ret (pe_meth (pe_dget hu1 (pe_fld (pv 0) rfl) (pv 1) (fun _ _ => rfl)) D.Z_History.cl D.h_History_holding.me (ok_History_holding D) (hr.mono (by decide)) D.h_History_holding.bd .nil pass0 (pa_cons (pv 2) pa_nil))), ?_⟩
    obtain ⟨a, ha⟩ := get_key (kvs := B.mv) (z := z) (by rw [bp.km]; exact hz)
    have hmem := getA_mem ha
    have Ha := bh.hm _ hmem
    refine ⟨_, rfl, B.b, _, B.dx, _, _, rfl, bh.ix, D.Z_Book.cl, D.n_Book_moves, rfl, _, rfl, B.M, _, rfl, dget_hs bh.md ha, a.x, a.dx, _, rfl, Ha.ix, rfl, _, rfl, a, kn, rfl, Ha, OKH.of (bp.hm _ hmem) hl, fun l L H' nl rl hh s1 => ?_⟩
    rw [show a.h = _ from bp.hm _ hmem] at hh
    obtain ⟨h1, h2⟩ := hh.held bp.up
    exact q l L H' nl rl h1 h2 s1
end
end K74
set_option Elab.async false
set_option linter.all false
set_option maxRecDepth 100000
set_option maxHeartbeats 1600000
set_option pp.maxSteps 300
namespace K74
open PySem PySem.Spec PyProof.Rows L2 LT NdefX LamX
section
variable {P : Program} {w : World} {K : PySem.W.Frag} {mg : Str → Option Value} {base : Heap}
theorem sc_Stretch___init__ : FnScope ["self", "first", "last"] ["self", "first", "last"] (defScope s_Stretch___init__) := ⟨rfl, rfl, rfl, by decide +kernel, rfl, by decide +kernel, by decide +kernel⟩
theorem ok_Stretch___init__ (D : All K P mg) : FnOk P w K mg base CX0 4 D.f_Stretch___init__ D.d_Stretch___init__ ["self", "first", "last"] (spSInit D.C_Stretch) := by
  refine D.q_Stretch___init__.ok sc_Stretch___init__ (fun vs H Q E h => ?_) (fun cdv A outer s H vs Q E hr h => ?_)
  · first | (obtain ⟨_, rfl, _⟩ := h; rfl) | (obtain ⟨_, _, rfl, _⟩ := h; rfl) | (obtain ⟨_, _, _, rfl, _⟩ := h; rfl) | (obtain ⟨_, _, _, _, rfl, _⟩ := h; rfl) | (obtain ⟨_, _, _, _, _, rfl, _⟩ := h; rfl) | (obtain ⟨_, _, _, _, _, _, rfl, _⟩ := h; rfl) | (obtain ⟨_, _, _, _, _, _, _, rfl, _⟩ := h; rfl) | (obtain ⟨_, _, _, _, _, _, _, _, rfl, _⟩ := h; rfl) | (obtain ⟨_, _, _, _, _, _, _, _, _, rfl, _⟩ := h; rfl) | (obtain ⟨_, _, _, _, _, _, _, _, _, _, rfl, _⟩ := h; rfl) | (obtain ⟨_, _, _, _, _, _, _, _, _, _, _, rfl, _⟩ := h; rfl) | (obtain ⟨_, _, _, _, _, _, _, _, _, _, _, _, rfl, _⟩ := h; rfl) | (obtain ⟨_, _, _, _, _, _, _, _, _, _, _, _, _, rfl, _⟩ := h; rfl) | (obtain ⟨_, _, _, _, _, _, _, _, _, _, _, _, _, _, rfl, _⟩ := h; rfl) | (obtain ⟨_, _, _, _, _, _, _, _, _, _, _, _, _, _, _, rfl, _⟩ := h; rfl)
  · have T := D.T
    have nd := sc_Stretch___init__.nd
    have hu := hr.units
    have hu1 := hu_of hr
    have hu0 := hr.units0
    obtain ⟨x, dx, f, la, rfl, hx, h0, hl, q⟩ := h
    refine ⟨_, pss_cons (ps_if (pt_not (pt_val (pe_call (ok_is_day D) (hr.mono (by decide)) (by rfl) D.h_is_day.gl D.h_is_day.fn.kp D.h_is_day.bd .nil pass0 (pa_cons (pv 1) pa_nil)))) (pss_one ps_never) pss_nil)
      (pss_cons (ps_if (PW.pt (pw_and (pt_cmpR op_notN (pv 2) pe_non (nomark _)) (pw_and1 (pt_not (pt_val (pe_call (ok_is_day D) (hr.mono (by decide)) (by rfl) D.h_is_day.gl D.h_is_day.fn.kp D.h_is_day.bd .nil pass0 (pa_cons (pv 2) pa_nil))))))) (pss_one ps_never) pss_nil)
      (pss_cons (ps_if (PW.pt (pw_and (pt_cmpR op_notN (pv 2) pe_non (nomark _)) (pw_and1 (pt_cmpR op_lt (pv 2) (pv 1) (nomark _))))) (pss_one ps_never) pss_nil)
      (pss_cons (ps_fld (pv 0) (pv 1) rfl)
      (pss_one (ps_fld (pv 0) (pv 2) rfl))))), ?_⟩
    refine ⟨_, rfl, .int f, rfl, .int f, _, rfl, ?_⟩
    rw [show fromB (.int f) 0 = true from decide_eq_true h0]
    refine iteF ?_
    cases la with
    | none =>
      refine ⟨_, rfl, rfl, _, rfl, iteF (iteF ?_)⟩
      refine ⟨_, rfl, rfl, _, rfl, iteF (iteF ?_)⟩
      refine ⟨_, rfl, _, rfl, x, _, dx, _, rfl, hx, D.Z_Stretch.cl, D.n_Stretch_first_day, by decide, ?_⟩
      refine ⟨_, rfl, _, rfl, x, _, dx, _, rfl, upd_same, D.Z_Stretch.cl, D.n_Stretch_last_day, by show 1 < 1000; decide, ?_⟩
      exact q _ ⟨dx, upd_same⟩ (SameB.upd (SameB.upd (SameB.of (Same.refl _))))
    | some e =>
      have he := hl e rfl
      refine ⟨_, rfl, rfl, _, rfl, iteT ⟨_, rfl, .int e, rfl, .int e, _, rfl, ?_⟩⟩
      rw [show fromB (.int e) 0 = true from decide_eq_true (by omega)]
      refine iteF ?_
      refine ⟨_, rfl, rfl, _, rfl, iteT ⟨_, rfl, _, rfl, e, f, rfl, rfl, _, rfl, ?_⟩⟩
      rw [decide_eq_false (by omega : ¬ e < f)]
      refine iteF ?_
      refine ⟨_, rfl, _, rfl, x, _, dx, _, rfl, hx, D.Z_Stretch.cl, D.n_Stretch_first_day, by decide, ?_⟩
      refine ⟨_, rfl, _, rfl, x, _, dx, _, rfl, upd_same, D.Z_Stretch.cl, D.n_Stretch_last_day, by show 1 < 1000; decide, ?_⟩
      exact q _ ⟨dx, upd_same⟩ (SameB.upd (SameB.upd (SameB.of (Same.refl _))))
theorem sc_Stretch_first : FnScope ["self"] ["self"] (defScope s_Stretch_first) := ⟨rfl, rfl, rfl, by decide +kernel, rfl, by decide +kernel, by decide +kernel⟩
theorem ok_Stretch_first (D : All K P mg) : FnOk P w K mg base CX0 1 D.f_Stretch_first D.d_Stretch_first ["self"] (spSFirst D.C_Stretch) := by
  refine D.h_Stretch_first.fn.ok sc_Stretch_first (fun vs H Q E h => ?_) (fun cdv A outer s H vs Q E hr h => ?_)
  · first | (obtain ⟨_, rfl, _⟩ := h; rfl) | (obtain ⟨_, _, rfl, _⟩ := h; rfl) | (obtain ⟨_, _, _, rfl, _⟩ := h; rfl) | (obtain ⟨_, _, _, _, rfl, _⟩ := h; rfl) | (obtain ⟨_, _, _, _, _, rfl, _⟩ := h; rfl) | (obtain ⟨_, _, _, _, _, _, rfl, _⟩ := h; rfl) | (obtain ⟨_, _, _, _, _, _, _, rfl, _⟩ := h; rfl) | (obtain ⟨_, _, _, _, _, _, _, _, rfl, _⟩ := h; rfl) | (obtain ⟨_, _, _, _, _, _, _, _, _, rfl, _⟩ := h; rfl) | (obtain ⟨_, _, _, _, _, _, _, _, _, _, rfl, _⟩ := h; rfl) | (obtain ⟨_, _, _, _, _, _, _, _, _, _, _, rfl, _⟩ := h; rfl) | (obtain ⟨_, _, _, _, _, _, _, _, _, _, _, _, rfl, _⟩ := h; rfl) | (obtain ⟨_, _, _, _, _, _, _, _, _, _, _, _, _, rfl, _⟩ := h; rfl) | (obtain ⟨_, _, _, _, _, _, _, _, _, _, _, _, _, _, rfl, _⟩ := h; rfl) | (obtain ⟨_, _, _, _, _, _, _, _, _, _, _, _, _, _, _, rfl, _⟩ := h; rfl)
  · have T := D.T
    have nd := sc_Stretch_first.nd
    have hu := hr.units
    have hu1 := hu_of hr
    have hu0 := hr.units0
    obtain ⟨x, f, la, rfl, ⟨dx, hx⟩, q⟩ := h
    refine ⟨_, pss_one (ps_ret (pe_fld (pv 0) rfl)), ?_⟩
    exact ⟨_, rfl, x, _, dx, _, _, rfl, hx, D.Z_Stretch.cl, D.n_Stretch_first_day, rfl, q⟩
theorem sc_Stretch_last : FnScope ["self"] ["self"] (defScope s_Stretch_last) := ⟨rfl, rfl, rfl, by decide +kernel, rfl, by decide +kernel, by decide +kernel⟩
theorem ok_Stretch_last (D : All K P mg) : FnOk P w K mg base CX0 1 D.f_Stretch_last D.d_Stretch_last ["self"] (spSLast D.C_Stretch) := by
  refine D.h_Stretch_last.fn.ok sc_Stretch_last (fun vs H Q E h => ?_) (fun cdv A outer s H vs Q E hr h => ?_)
  · first | (obtain ⟨_, rfl, _⟩ := h; rfl) | (obtain ⟨_, _, rfl, _⟩ := h; rfl) | (obtain ⟨_, _, _, rfl, _⟩ := h; rfl) | (obtain ⟨_, _, _, _, rfl, _⟩ := h; rfl) | (obtain ⟨_, _, _, _, _, rfl, _⟩ := h; rfl) | (obtain ⟨_, _, _, _, _, _, rfl, _⟩ := h; rfl) | (obtain ⟨_, _, _, _, _, _, _, rfl, _⟩ := h; rfl) | (obtain ⟨_, _, _, _, _, _, _, _, rfl, _⟩ := h; rfl) | (obtain ⟨_, _, _, _, _, _, _, _, _, rfl, _⟩ := h; rfl) | (obtain ⟨_, _, _, _, _, _, _, _, _, _, rfl, _⟩ := h; rfl) | (obtain ⟨_, _, _, _, _, _, _, _, _, _, _, rfl, _⟩ := h; rfl) | (obtain ⟨_, _, _, _, _, _, _, _, _, _, _, _, rfl, _⟩ := h; rfl) | (obtain ⟨_, _, _, _, _, _, _, _, _, _, _, _, _, rfl, _⟩ := h; rfl) | (obtain ⟨_, _, _, _, _, _, _, _, _, _, _, _, _, _, rfl, _⟩ := h; rfl) | (obtain ⟨_, _, _, _, _, _, _, _, _, _, _, _, _, _, _, rfl, _⟩ := h; rfl)
  · have T := D.T
    have nd := sc_Stretch_last.nd
    have hu := hr.units
    have hu1 := hu_of hr
    have hu0 := hr.units0
    obtain ⟨x, f, la, rfl, ⟨dx, hx⟩, q⟩ := h
    refine ⟨_, pss_one (ps_ret (pe_fld (pv 0) rfl)), ?_⟩
    exact ⟨_, rfl, x, _, dx, _, _, rfl, hx, D.Z_Stretch.cl, D.n_Stretch_last_day, rfl, q⟩
theorem sc_runs_of : FnScope ["start", "changes", "begins", "day", "what", "lasts", "last"] ["start", "changes"] (defScope s_runs_of) := ⟨rfl, rfl, rfl, by decide +kernel, rfl, by decide +kernel, by decide +kernel⟩
theorem ok_runs_of (D : All K P mg) : FnOk P w K mg base CX0 6 D.f_runs_of D.d_runs_of ["start", "changes"] (spRunsA D.C_Stretch) := by
  refine D.h_runs_of.fn.ok sc_runs_of (fun vs H Q E h => ?_) (fun cdv A outer s H vs Q E hr h => ?_)
  · first | (obtain ⟨_, rfl, _⟩ := h; rfl) | (obtain ⟨_, _, rfl, _⟩ := h; rfl) | (obtain ⟨_, _, _, rfl, _⟩ := h; rfl) | (obtain ⟨_, _, _, _, rfl, _⟩ := h; rfl) | (obtain ⟨_, _, _, _, _, rfl, _⟩ := h; rfl) | (obtain ⟨_, _, _, _, _, _, rfl, _⟩ := h; rfl) | (obtain ⟨_, _, _, _, _, _, _, rfl, _⟩ := h; rfl) | (obtain ⟨_, _, _, _, _, _, _, _, rfl, _⟩ := h; rfl) | (obtain ⟨_, _, _, _, _, _, _, _, _, rfl, _⟩ := h; rfl) | (obtain ⟨_, _, _, _, _, _, _, _, _, _, rfl, _⟩ := h; rfl) | (obtain ⟨_, _, _, _, _, _, _, _, _, _, _, rfl, _⟩ := h; rfl) | (obtain ⟨_, _, _, _, _, _, _, _, _, _, _, _, rfl, _⟩ := h; rfl) | (obtain ⟨_, _, _, _, _, _, _, _, _, _, _, _, _, rfl, _⟩ := h; rfl) | (obtain ⟨_, _, _, _, _, _, _, _, _, _, _, _, _, _, rfl, _⟩ := h; rfl) | (obtain ⟨_, _, _, _, _, _, _, _, _, _, _, _, _, _, _, rfl, _⟩ := h; rfl)
  · have T := D.T
    have nd := sc_runs_of.nd
    have hu := hr.units
    have hu1 := hu_of hr
    have hu0 := hr.units0
    obtain ⟨s, l, ch, rfl, ⟨ts, el, hts⟩, up, h0, hs, hl, q⟩ := h
    obtain ⟨_, v3_Stretch___init__, b3_Stretch___init__⟩ := D.q_Stretch___init__.binds1 (ps := ["self", "first", "last"]) 3 1 (by simp) (by rfl) (fun _ _ _ _ _ _ _ us its h1 h2 => match us, its, h1, h2 with | [_, _, _], [_], _, _ => ⟨_, rfl, rfl⟩)
    refine ⟨_, pss_cons (ps_set (i := 2) nd rfl (.inl rfl) (pe_lst (pa_cons (pe_tup (pa_cons pe_int (pa_cons (pv 0) pa_nil))) pa_nil)))
      (pss_cons (ps_for PassesOwn.never rfl (pi_list (pv 1)) (pg_tup rfl (pgs_cons (pg_name (i := 3) nd rfl (Or.inl rfl)) (pgs_cons (pg_name (i := 4) nd rfl (Or.inl rfl)) pgs_nil))) (pss_one (ps_if (pt_cmpR op_eq (pv 3) pe_int (nomark _)) (pss_one (ps_set (i := 2) nd rfl (.inl rfl) (pe_lst (pa_cons (pe_tup (pa_cons pe_int (pa_cons (pv 4) pa_nil))) pa_nil)))) (pss_one (ps_if (pt_cmpR op_ne (pv 4) (pe_ix ix_tup (pe_ix ix_list (pv 2) (pe_un un_neg pe_int) (fun _ _ => rfl)) pe_int (fun _ _ => rfl)) (nomark _)) (pss_one (ps_expr (pe_bm PySem.F.plainAttrs_list PySem.F.slot_list_append PySem.F.type_list_append mt_append (pv 2) (pa_cons (pe_tup (pa_cons (pv 3) (pa_cons (pv 4) pa_nil))) pa_nil)))) pss_nil)))))
      (pss_cons (ps_set (i := 5) nd rfl (.inl rfl) (pe_op op_cat (pe_lc (own := [("day", 3), ("what", 4)]) (g := gTup K 2 (gCons (gName 3) (gCons (gName 4) gNil))) (tt := tYes) rfl nd (pi_list (pe_slice sl_list (pv 2) (po_some pe_int) po_none)) (blkOk_by (N := ["start", "changes", "begins", "day", "what", "lasts", "last"]) (sc := defScope s_runs_of) (by decide +kernel)) (fun _ _ _ _ _ => (pg_tup rfl (pgs_cons (pg_name (i := 3) nd rfl (Or.inl rfl)) (pgs_cons (pg_name (i := 4) nd rfl (Or.inl rfl)) pgs_nil)))) (fun _ _ _ _ _ => pts_nil) (fun _ _ _ _ _ => (pe_op op_sub (pv 3) pe_int))) (pe_lst (pa_cons pe_non pa_nil))))
      (pss_one (ps_ret (pe_lc (own := [("day", 3), ("what", 4), ("last", 6)]) (g := gTup K 2 (gCons (gTup K 2 (gCons (gName 3) (gCons (gName 4) gNil))) (gCons (gName 6) gNil))) (tt := tYes) rfl nd (RZ.pi_zipA (by rfl) T.zip (pa_cons (pv 2) (pa_cons (pv 5) pa_nil))) (blkOk_by (N := ["start", "changes", "begins", "day", "what", "lasts", "last"]) (sc := defScope s_runs_of) (by decide +kernel)) (fun _ _ _ _ _ => (pg_tup rfl (pgs_cons (pg_tup rfl (pgs_cons (pg_name (i := 3) nd rfl (Or.inl rfl)) (pgs_cons (pg_name (i := 4) nd rfl (Or.inl rfl)) pgs_nil))) (pgs_cons (pg_name (i := 6) nd rfl (Or.inl rfl)) pgs_nil)))) (fun _ _ _ _ _ => pts_nil) (fun _ _ _ _ _ => (pe_tup (pa_cons (pv 4) (pa_cons (pe_make D.M_Stretch (ok_Stretch___init__ D) (hr.mono (by decide)) (by rfl) D.Z_Stretch.gl b3_Stretch___init__ v3_Stretch___init__ pass0 (pa_cons (pv 3) (pa_cons (pv 6) pa_nil))) pa_nil))))))))), ?_⟩
    refine ⟨_, rfl, by show 2 ≤ sizeLine; decide, fun t0 n0 => ?_⟩
    have s1 := same_upd (o := .tup [V.int 0, s]) n0
    have et0 := upd_same (H := H) (a := t0) (o := .tup [V.int 0, s])
    generalize upd H t0 (.tup [V.int 0, s]) = H1 at *
    refine ⟨by show 1 ≤ sizeLine; decide, fun b0 nb0 => ?_⟩
    have s2 := same_upd (o := .lst [V.ref t0]) nb0
    have eb0 := upd_same (H := H1) (a := b0) (o := .lst [V.ref t0])
    generalize upd H1 b0 (.lst [V.ref t0]) = H2 at *
    refine ⟨_, rfl, l, rfl, ⟨_, SqL.of (s2 _ _ (s1 _ _ el))⟩, for_list (xs := ts.map V.ref) (fun i σ H' => ∃ (b : Addr) (bs : List Addr) (x3 x4 x5 x6 : Option V), σ = [some s, some (.ref l), some (.ref b), x3, x4, x5, x6] ∧ Same H H' ∧ H b = none ∧ H' b = some (.lst (bs.map V.ref)) ∧ RowsP H' bs (begF s (ch.take i)))
      ⟨b0, [t0], none, none, none, none, rfl, s1.trans s2, s1.free nb0, eb0, .cons (s2 _ _ et0) .nil⟩ (fun i σ H' _ ⟨_, _, _, _, _, _, _, sm, _⟩ => SqL.of (sm _ _ el)) ?_ ?_⟩
    · rintro i y σ H3 hy ⟨b, bs, x3, x4, x5, x6, rfl, s3, nb, eb, hbs⟩
      obtain ⟨t, p, rfl, hp, ht⟩ := pick_at hts hy
      refine ⟨t, _, rfl, SqT.of (s3 _ _ ht), rfl, _, _, rfl, _, _, rfl, rfl, ?_⟩
      have gb := begF_snoc s (ch.take i) p
      rw [← take_snoc hp] at gb
      have hb0 : ∀ {z : Addr} {xs : List Addr}, H3 b = some (.lst (xs.map V.ref)) → z = b → H z = none := fun _ e => by rw [e]; exact nb
      refine ⟨_, rfl, rfl, _, rfl, ite2 (fun h => ?_) (fun h => ?_)⟩
      · have hz : p.1 = 0 := V.int.inj (of_decide_eq_true h)
        refine ⟨_, rfl, by show 2 ≤ sizeLine; decide, fun t1 n1 => ?_⟩
        have s4 := same_upd (o := .tup [V.int 0, p.2]) n1
        have et1 := upd_same (H := H3) (a := t1) (o := .tup [V.int 0, p.2])
        generalize upd H3 t1 (.tup [V.int 0, p.2]) = H4 at *
        refine ⟨by show 1 ≤ sizeLine; decide, fun b1 nb1 => ?_⟩
        have s5 := same_upd (o := .lst [V.ref t1]) nb1
        have eb1 := upd_same (H := H4) (a := b1) (o := .lst [V.ref t1])
        generalize upd H4 b1 (.lst [V.ref t1]) = H5 at *
        refine ⟨b1, [t1], some (.int p.1), some p.2, x5, x6, rfl, s3.trans (s4.trans s5), (s3.trans s4).free nb1, eb1, ?_⟩
        rw [gb]
        unfold begS
        rw [if_pos hz]
        exact .cons (s5 _ _ et1) .nil
      · have hz : ¬ p.1 = 0 := fun e => h (decide_eq_true (by rw [e]))
        obtain ⟨tl, pl, e1, e2, e3, e4⟩ := rows_last hbs (begF_ne s _)
        have sc : scal p.2 pl.2 = true := by
          refine hs _ (List.mem_cons_of_mem _ (List.mem_map.mpr ⟨p, List.mem_of_getElem? hp, rfl⟩)) _ ?_
          rcases begF_vals _ _ e3 with e | ⟨x, hx, e⟩
          · rw [e]
            exact List.mem_cons_self
          · rw [← e]
            exact List.mem_cons_of_mem _ (List.mem_map.mpr ⟨x, List.mem_of_mem_take hx, rfl⟩)
        refine ⟨_, rfl, _, rfl, 1, rfl, b, _, -1, _, rfl, rfl, SqL.of eb, e1, tl, _, 1, _, rfl, rfl, SqT.of e2, atI_nat (j := 1) rfl, sc, _, rfl, ?_⟩
        by_cases hw : p.2 = pl.2
        · rw [decide_eq_true hw]
          refine iteF ⟨b, bs, some (.int p.1), some p.2, x5, x6, rfl, s3, nb, eb, ?_⟩
          rw [gb]
          unfold begS
          rw [if_neg hz, if_pos (hw.trans e4.symm)]
          exact hbs
        · rw [decide_eq_false hw]
          refine iteT ⟨_, rfl, .inl ⟨rfl, _, SqL.of eb⟩, _, rfl, _, rfl, by show 2 ≤ sizeLine; decide, fun t1 n1 => ?_⟩
          have s4 := same_upd (o := .tup [V.int p.1, p.2]) n1
          have et1 := upd_same (H := H3) (a := t1) (o := .tup [V.int p.1, p.2])
          generalize upd H3 t1 (.tup [V.int p.1, p.2]) = H4 at *
          have eb4 := s4 _ _ eb
          have bl : bs.length ≤ 1001 := by
            have h1 := Paired.length hbs
            have h2 := turns_len (L := ch.take i) (s := s)
            rw [runF_len, List.length_take] at h2
            omega
          refine ⟨b, _, _, rfl, rfl, eb4, by rw [List.length_map]; exact small2k (by omega), ?_⟩
          refine ⟨b, bs ++ [t1], some (.int p.1), some p.2, x5, x6, rfl, same_put nb (s3.trans s4), nb, ?_, ?_⟩
          · rw [upd_same, List.map_append]
            rfl
          · rw [gb]
            unfold begS
            rw [if_neg hz, if_neg (fun e => hw (e.trans e4))]
            exact ((hbs.mono s4).snoc et1).upd eb4
    · rintro σ H3 ⟨b, bs, x3, x4, x5, x6, rfl, s3, nb, eb, hbs⟩
      have tl : ts.length = ch.length := Paired.length hts
      rw [List.length_map, tl, List.take_length] at hbs
      have blen : bs.length ≤ 1001 ∧ bs.length = (begF s ch).length := by
        have h1 := Paired.length hbs
        have h2 := turns_len (L := ch) (s := s)
        rw [runF_len] at h2
        omega
      have Bg : Begs s (dd ch) (begF s ch) := by
        rw [begF_dd]
        exact begs_of s (dd ch) (dd_up up) fun x hx => h0 x (dd_mem.mp hx)
      have Bne := begF_ne s ch
      have B0 : ∀ p ∈ begF s ch, 0 ≤ p.1 := fun p hp => by
        rcases Bg.le p hp with h | ⟨y, hy, h⟩
        · omega
        · have := h0 y (dd_mem.mp hy)
          omega
      generalize hB : begF s ch = B at *
      refine ⟨_, rfl, 1, rfl, b, _, rfl, SqL.of eb, fun c nc => ?_⟩
      have ec0 : cutV (bs.map V.ref) (some 1) none = (bs.drop 1).map V.ref := cut_drop _ _ (by decide)
      rw [ec0]
      have s4 := same_upd (o := .lst ((bs.drop 1).map V.ref)) nc
      have ec := upd_same (H := H3) (a := c) (o := .lst ((bs.drop 1).map V.ref))
      generalize upd H3 c (.lst ((bs.drop 1).map V.ref)) = H4 at *
      have hd1 : RowsP H4 (bs.drop 1) (B.drop 1) := by
        have := hbs.mono s4
        cases this with
        | nil => exact .nil
        | cons _ r => exact r
      refine ⟨c, rfl, ⟨_, SqL.of ec⟩, fun F nF => ?_⟩
      refine lc_list (K := K) (a := c) (xs := (bs.drop 1).map V.ref) (fun i H' => Same H4 H' ∧ H' F = some (.lst (((B.drop 1).take i).map fun p => V.int (p.1 - 1)))) ⟨same_upd nF, upd_same⟩ (fun i H' _ ⟨s, _⟩ => SqL.of (s _ _ ec)) ?_ ?_
      · rintro i x H5 hx ⟨s5, eF⟩
        obtain ⟨t, p, rfl, hp, ht⟩ := pick_at hd1 hx
        have il := (List.getElem?_eq_some_iff.mp hp).1
        rw [List.length_drop] at il
        refine ⟨t, _, rfl, SqT.of (s5 _ _ ht), rfl, _, _, rfl, _, _, rfl, rfl, rfl, ?_⟩
        refine ⟨_, rfl, _, _, rfl, rfl, _, eF, by rw [List.length_map, List.length_take]; exact small2k (by omega), same_put nF s5, ?_⟩
        rw [upd_same, take_snoc hp, List.map_append]
        rfl
      · rintro H5 ⟨s5, eF⟩
        have dl : (bs.drop 1).length = (B.drop 1).length := Paired.length hd1
        rw [List.length_map, dl, List.take_length] at eF
        refine ⟨by show 1 ≤ sizeLine; decide, fun M nM => ?_⟩
        have s6 := same_upd (o := .lst [V.non]) nM
        have eM := upd_same (H := H5) (a := M) (o := .lst [V.non])
        generalize upd H5 M (.lst [V.non]) = H6 at *
        refine ⟨F, M, _, _, rfl, rfl, s6 _ _ eF, eM, ?_, fun N nN => ?_⟩
        · rw [List.length_map, ← dl, List.length_drop]
          exact Nat.le_of_lt (small2k (by show bs.length - 1 + 1 ≤ 2000; omega))
        have s7 := same_upd (o := .lst ((B.drop 1).map (fun p => V.int (p.1 - 1)) ++ [V.non])) nN
        have eN := upd_same (H := H6) (a := N) (o := .lst ((B.drop 1).map (fun p => V.int (p.1 - 1)) ++ [V.non]))
        generalize upd H6 N (.lst ((B.drop 1).map (fun p => V.int (p.1 - 1)) ++ [V.non])) = H7 at *
        have eN : H7 N = some (.lst (lastsV B .non)) := eN
        have s37 := s4.trans (s5.trans (s6.trans s7))
        have eb7 := s37 _ _ eb
        have hb7 := hbs.mono s37
        have lB : (lastsV B V.non).length = B.length := lasts_len Bne
        refine ⟨_, rfl, _, rfl, b, N, bs.map V.ref, lastsV B .non, rfl, .inl ⟨SqL.of eb7, SqL.of eN, fun G nG => ?_⟩⟩
        refine lc_zip (K := K) (a := b) (b := N) (xs := bs.map V.ref) (ys := lastsV B .non) (by rw [List.length_map, lB]; exact blen.2) (fun i H' => Same H7 H' ∧ ∃ us : List Addr, H' G = some (.lst (us.map V.ref)) ∧ Paired (RunT D.C_Stretch H') us ((runF B).take i))
          ⟨same_upd nG, [], upd_same, .nil⟩ (fun i H' _ h => ⟨h.1.seq (SqL.of eb7), h.1.seq (SqL.of eN)⟩) ?_ ?_
        · rintro i x y H8 T hx hy ⟨s8, us, eG, hus⟩ nT
          obtain ⟨t, p, rfl, hp, ht⟩ := pick_at hb7 hx
          have il := (List.getElem?_eq_some_iff.mp hp).1
          rw [lasts_get il] at hy
          cases hy
          have sT := same_upd (o := .tup [V.ref t, knV ((B[i + 1]?).map fun q => q.1 - 1)]) nT
          have eT := upd_same (H := H8) (a := T) (o := .tup [V.ref t, knV ((B[i + 1]?).map fun q => q.1 - 1)])
          generalize upd H8 T (.tup [V.ref t, knV ((B[i + 1]?).map fun q => q.1 - 1)]) = H9 at *
          have ht9 := sT _ _ (s8 _ _ ht)
          refine ⟨T, _, rfl, SqT.of eT, rfl, _, _, rfl, ⟨t, _, rfl, SqT.of ht9, rfl, _, _, rfl, _, _, rfl, rfl, _, _, rfl, rfl, rfl, ?_⟩⟩
          have hla : ∀ e, ((B[i + 1]?).map fun q => q.1 - 1) = some e → p.1 ≤ e := fun e he => by
            cases hq : B[i + 1]? with
            | none => rw [hq] at he; cases he
            | some q =>
              rw [hq] at he
              have he : q.1 - 1 = e := Option.some.inj he
              have := List.pairwise_iff_getElem.mp Bg.up i (i + 1) il (List.getElem?_eq_some_iff.mp hq).1 (by omega)
              rw [(List.getElem?_eq_some_iff.mp hp).2, (List.getElem?_eq_some_iff.mp hq).2] at this
              omega
          refine ⟨_, rfl, _, rfl, _, rfl, fun x dx nx ndx nex => ?_⟩
          have sm := same_made (C := D.C_Stretch) (o := .ins D.C_Stretch dx []) nx ndx
          refine ⟨x, dx, p.1, _, rfl, upd_same, B0 p (List.mem_of_getElem? hp), hla, fun H10 st sb => ⟨rfl, ?_⟩⟩
          have s910 := sameB_new nx sm sb
          refine ⟨by show 2 ≤ sizeLine; decide, fun t2 n2 => ?_⟩
          have s11 := same_upd (o := .tup [p.2, V.ref x]) n2
          have et2 := upd_same (H := H10) (a := t2) (o := .tup [p.2, V.ref x])
          generalize upd H10 t2 (.tup [p.2, V.ref x]) = H11 at *
          have s811 := sT.trans (s910.trans s11)
          have eG11 := s811 _ _ eG
          have ul : us.length ≤ 1001 := by
            have h1 := Paired.length hus
            rw [List.length_take] at h1
            have h2 := (List.getElem?_eq_some_iff.mp hx).1
            rw [List.length_map] at h2
            omega
          have gr : (runF B)[i]? = some (p.2, p.1, (B[i + 1]?).map fun q => q.1 - 1) := runF_get _ _ _ hp
          refine ⟨_, eG11, by rw [List.length_map]; exact small2k (by omega), same_put nG (s8.trans s811), us ++ [t2], ?_, ?_⟩
          · rw [upd_same, List.map_append]
            rfl
          · rw [take_snoc gr]
            exact paired_snoc' (paired_imp (fun _ _ h => (h.mono s811).upd eG11) hus) (RunT.upd ⟨x, et2, st.mono s11⟩ eG11)
        · rintro H8 ⟨s8, us, eG, hus⟩
          rw [List.length_map, List.take_of_length_le (by rw [runF_len]; omega)] at hus
          exact q G H8 (by
            cases e : H G with
            | none => rfl
            | some o =>
              have := s37 _ _ (s3 _ _ e)
              rw [nG] at this
              cases this) ⟨us, eG, hus⟩ (s3.trans (s37.trans s8))
theorem sc_turns : FnScope ["book", "keeper", "known"] ["book", "keeper", "known"] (defScope s_turns) := ⟨rfl, rfl, rfl, by decide +kernel, rfl, by decide +kernel, by decide +kernel⟩
theorem ok_turns (D : All K P mg) : FnOk P w K mg base CX0 7 D.f_turns D.d_turns ["book", "keeper", "known"] (spTurns D.C_Book D.C_History D.C_Stretch) := by
  refine D.q_turns.ok sc_turns (fun vs H Q E h => ?_) (fun cdv A outer s H vs Q E hr h => ?_)
  · first | (obtain ⟨_, rfl, _⟩ := h; rfl) | (obtain ⟨_, _, rfl, _⟩ := h; rfl) | (obtain ⟨_, _, _, rfl, _⟩ := h; rfl) | (obtain ⟨_, _, _, _, rfl, _⟩ := h; rfl) | (obtain ⟨_, _, _, _, _, rfl, _⟩ := h; rfl) | (obtain ⟨_, _, _, _, _, _, rfl, _⟩ := h; rfl) | (obtain ⟨_, _, _, _, _, _, _, rfl, _⟩ := h; rfl) | (obtain ⟨_, _, _, _, _, _, _, _, rfl, _⟩ := h; rfl) | (obtain ⟨_, _, _, _, _, _, _, _, _, rfl, _⟩ := h; rfl) | (obtain ⟨_, _, _, _, _, _, _, _, _, _, rfl, _⟩ := h; rfl) | (obtain ⟨_, _, _, _, _, _, _, _, _, _, _, rfl, _⟩ := h; rfl) | (obtain ⟨_, _, _, _, _, _, _, _, _, _, _, _, rfl, _⟩ := h; rfl) | (obtain ⟨_, _, _, _, _, _, _, _, _, _, _, _, _, rfl, _⟩ := h; rfl) | (obtain ⟨_, _, _, _, _, _, _, _, _, _, _, _, _, _, rfl, _⟩ := h; rfl) | (obtain ⟨_, _, _, _, _, _, _, _, _, _, _, _, _, _, _, rfl, _⟩ := h; rfl)
  · have T := D.T
    have nd := sc_turns.nd
    have hu := hr.units
    have hu1 := hu_of hr
    have hu0 := hr.units0
    obtain ⟨b, rk, es, fp, z, kn, rfl, W, hz, hl, hk, q⟩ := h
    refine ⟨_, pss_cons (ps_expr (pe_call (ok_check_keeper D) (hr.mono (by decide)) (by rfl) D.h_check_keeper.gl D.h_check_keeper.fn.kp D.h_check_keeper.bd .nil pass0 (pa_cons (pv 0) (pa_cons (pv 1) pa_nil))))
      (pss_cons (ps_expr (pe_call (ok_check_known D) (hr.mono (by decide)) (by rfl) D.h_check_known.gl D.h_check_known.fn.kp D.h_check_known.bd .nil pass0 (pa_cons (pv 2) pa_nil)))
      (pss_one (ps_ret (pe_call (ok_runs_of D) (hr.mono (by decide)) (by rfl) D.h_runs_of.gl D.h_runs_of.fn.kp D.h_runs_of.bd .nil pass0 (pa_cons (pe_glob (v := .str (Str.ofString "")) (by rfl) D.g_ASHORE ⟨_, rfl⟩) (pa_cons (pe_meth (pv 0) D.Z_Book.cl D.h_Book_moves_known.me (ok_Book_moves_known D) (hr.mono (by decide)) D.h_Book_moves_known.bd .nil pass0 (pa_cons (pv 1) (pa_cons (pv 2) pa_nil))) pa_nil)))))), ?_⟩
    have ok := W.ev.2.2
    refine ⟨_, rfl, _, rfl, b, rk, es, fp, z, rfl, W, hz, fun H1 s1 => ?_⟩
    have W1 := W.mono s1
    obtain ⟨dx, R, M, L, v, ix⟩ := W1.ix
    refine ⟨_, rfl, kn, rfl, hk, ?_⟩
    refine ⟨_, rfl, b, dx, _, rfl, ix, rfl, _, rfl, _, rfl, b, rk, es, fp, z, kn, rfl, W1, hz, hl, fun l L H2 nl hr hh hL s2 => ?_⟩
    refine ⟨_, l, L, rfl, hr, hh.up.imp Or.inl, fun p hp => (hold_d0 ok hh p hp).1, scal_str ⟨_, rfl⟩ fun p hp => (hold_str ok hh p hp).imp fun _ h => h.1, by omega, fun l' H3 nl' ra s3 => ?_⟩
    exact q l' L H3 ((s1.trans s2).free nl') hh hL ra (s1.trans (s2.trans s3))
theorem sc_earlier_end : FnScope ["one", "other"] ["one", "other"] (defScope s_earlier_end) := ⟨rfl, rfl, rfl, by decide +kernel, rfl, by decide +kernel, by decide +kernel⟩
theorem ok_earlier_end (D : All K P mg) : FnOk P w K mg base CX0 1 D.f_earlier_end D.d_earlier_end ["one", "other"] spEarlier := by
  refine D.h_earlier_end.fn.ok sc_earlier_end (fun vs H Q E h => ?_) (fun cdv A outer s H vs Q E hr h => ?_)
  · first | (obtain ⟨_, rfl, _⟩ := h; rfl) | (obtain ⟨_, _, rfl, _⟩ := h; rfl) | (obtain ⟨_, _, _, rfl, _⟩ := h; rfl) | (obtain ⟨_, _, _, _, rfl, _⟩ := h; rfl) | (obtain ⟨_, _, _, _, _, rfl, _⟩ := h; rfl) | (obtain ⟨_, _, _, _, _, _, rfl, _⟩ := h; rfl) | (obtain ⟨_, _, _, _, _, _, _, rfl, _⟩ := h; rfl) | (obtain ⟨_, _, _, _, _, _, _, _, rfl, _⟩ := h; rfl) | (obtain ⟨_, _, _, _, _, _, _, _, _, rfl, _⟩ := h; rfl) | (obtain ⟨_, _, _, _, _, _, _, _, _, _, rfl, _⟩ := h; rfl) | (obtain ⟨_, _, _, _, _, _, _, _, _, _, _, rfl, _⟩ := h; rfl) | (obtain ⟨_, _, _, _, _, _, _, _, _, _, _, _, rfl, _⟩ := h; rfl) | (obtain ⟨_, _, _, _, _, _, _, _, _, _, _, _, _, rfl, _⟩ := h; rfl) | (obtain ⟨_, _, _, _, _, _, _, _, _, _, _, _, _, _, rfl, _⟩ := h; rfl) | (obtain ⟨_, _, _, _, _, _, _, _, _, _, _, _, _, _, _, rfl, _⟩ := h; rfl)
  · have T := D.T
    have nd := sc_earlier_end.nd
    have hu := hr.units
    have hu1 := hu_of hr
    have hu0 := hr.units0
    obtain ⟨x, y, rfl, q⟩ := h
    refine ⟨_, pss_cons (ps_if (pt_cmpR op_isN (pv 0) pe_non (nomark _)) (pss_one (ps_ret (pv 1))) pss_nil)
      (pss_cons (ps_if (pt_cmpR op_isN (pv 1) pe_non (nomark _)) (pss_one (ps_ret (pv 0))) pss_nil)
      (pss_one (ps_ret (pe_callB (call_min2 rfl) (by rfl) T.min (by decide +kernel) (pa_cons (pv 0) (pa_cons (pv 1) pa_nil)))))), ?_⟩
    refine ⟨_, rfl, rfl, _, rfl, ?_⟩
    cases x with
    | none => exact iteT ⟨_, rfl, q⟩
    | some a =>
      refine iteF ⟨_, rfl, rfl, _, rfl, ?_⟩
      cases y with
      | none => exact iteT ⟨_, rfl, q⟩
      | some b => exact iteF ⟨_, rfl, _, rfl, a, b, rfl, q⟩
end
end K74
set_option Elab.async false
set_option linter.all false
set_option maxRecDepth 100000
set_option maxHeartbeats 1600000
set_option pp.maxSteps 300
namespace K74
open PySem PySem.Spec PyProof.Rows L2 LT NdefX LamX
section
variable {P : Program} {w : World} {K : PySem.W.Frag} {mg : Str → Option Value} {base : Heap}
theorem sc__law_cell : FnScope ["_law_script", "_law_k"] ["_law_script", "_law_k"] (defScope s__law_cell) := ⟨rfl, rfl, rfl, by decide +kernel, rfl, by decide +kernel, by decide +kernel⟩
theorem ok__law_cell (D : All K P mg) : FnOk P w K mg base CX0 1 D.f__law_cell D.d__law_cell ["_law_script", "_law_k"] (spCellK K) := by
  refine D.h__law_cell.fn.ok sc__law_cell (fun vs H Q E h => ?_) (fun cdv A outer s H vs Q E hr h => ?_)
  · first | (obtain ⟨_, rfl, _⟩ := h; rfl) | (obtain ⟨_, _, rfl, _⟩ := h; rfl) | (obtain ⟨_, _, _, rfl, _⟩ := h; rfl) | (obtain ⟨_, _, _, _, rfl, _⟩ := h; rfl) | (obtain ⟨_, _, _, _, _, rfl, _⟩ := h; rfl) | (obtain ⟨_, _, _, _, _, _, rfl, _⟩ := h; rfl) | (obtain ⟨_, _, _, _, _, _, _, rfl, _⟩ := h; rfl) | (obtain ⟨_, _, _, _, _, _, _, _, rfl, _⟩ := h; rfl) | (obtain ⟨_, _, _, _, _, _, _, _, _, rfl, _⟩ := h; rfl) | (obtain ⟨_, _, _, _, _, _, _, _, _, _, rfl, _⟩ := h; rfl) | (obtain ⟨_, _, _, _, _, _, _, _, _, _, _, rfl, _⟩ := h; rfl) | (obtain ⟨_, _, _, _, _, _, _, _, _, _, _, _, rfl, _⟩ := h; rfl) | (obtain ⟨_, _, _, _, _, _, _, _, _, _, _, _, _, rfl, _⟩ := h; rfl) | (obtain ⟨_, _, _, _, _, _, _, _, _, _, _, _, _, _, rfl, _⟩ := h; rfl) | (obtain ⟨_, _, _, _, _, _, _, _, _, _, _, _, _, _, _, rfl, _⟩ := h; rfl)
  · have T := D.T
    have nd := sc__law_cell.nd
    have hu := hr.units
    have hu1 := hu_of hr
    have hu0 := hr.units0
    obtain ⟨a, ns, k, rfl, hS, q⟩ := h
    refine ⟨_, pss_cons (ps_if (pt_cmpR op_lt (pv 1) (pe_callB call_len_seq (by rfl) T.len PySem.boot_len (pa_cons (pv 0) pa_nil)) (nomark _)) (pss_one (ps_ret (pe_ix ix_list (pv 0) (pv 1) (fun _ _ => rfl)))) pss_nil)
      (pss_one (ps_ret pe_int)), ?_⟩
    refine ⟨_, rfl, _, rfl, a, _, rfl, .inl hS, _, _, rfl, rfl, _, rfl, ?_⟩
    refine ite2 (fun hlt => ?_) (fun _ => q _)
    have hlt := of_decide_eq_true hlt
    rw [List.length_map] at hlt
    have hlt : k < ns.length := by omega
    exact ⟨_, rfl, _, rfl, a, _, (k : Nat), .int ns[k], rfl, rfl, hS, atI_nat (by rw [List.getElem?_map, List.getElem?_eq_getElem hlt]; rfl), q _⟩
theorem sc__law_pot : FnScope ["_law_script", "_law_k", "_law_cell_here"] ["_law_script", "_law_k"] (defScope s__law_pot) := ⟨rfl, rfl, rfl, by decide +kernel, rfl, by decide +kernel, by decide +kernel⟩
theorem ok__law_pot (D : All K P mg) : FnOk P w K mg base CX0 2 D.f__law_pot D.d__law_pot ["_law_script", "_law_k"] (spPot K) := by
  refine D.h__law_pot.fn.ok sc__law_pot (fun vs H Q E h => ?_) (fun cdv A outer s H vs Q E hr h => ?_)
  · first | (obtain ⟨_, rfl, _⟩ := h; rfl) | (obtain ⟨_, _, rfl, _⟩ := h; rfl) | (obtain ⟨_, _, _, rfl, _⟩ := h; rfl) | (obtain ⟨_, _, _, _, rfl, _⟩ := h; rfl) | (obtain ⟨_, _, _, _, _, rfl, _⟩ := h; rfl) | (obtain ⟨_, _, _, _, _, _, rfl, _⟩ := h; rfl) | (obtain ⟨_, _, _, _, _, _, _, rfl, _⟩ := h; rfl) | (obtain ⟨_, _, _, _, _, _, _, _, rfl, _⟩ := h; rfl) | (obtain ⟨_, _, _, _, _, _, _, _, _, rfl, _⟩ := h; rfl) | (obtain ⟨_, _, _, _, _, _, _, _, _, _, rfl, _⟩ := h; rfl) | (obtain ⟨_, _, _, _, _, _, _, _, _, _, _, rfl, _⟩ := h; rfl) | (obtain ⟨_, _, _, _, _, _, _, _, _, _, _, _, rfl, _⟩ := h; rfl) | (obtain ⟨_, _, _, _, _, _, _, _, _, _, _, _, _, rfl, _⟩ := h; rfl) | (obtain ⟨_, _, _, _, _, _, _, _, _, _, _, _, _, _, rfl, _⟩ := h; rfl) | (obtain ⟨_, _, _, _, _, _, _, _, _, _, _, _, _, _, _, rfl, _⟩ := h; rfl)
  · have T := D.T
    have nd := sc__law_pot.nd
    have hu := hr.units
    have hu1 := hu_of hr
    have hu0 := hr.units0
    obtain ⟨a, ns, k, rfl, hS, hk, q⟩ := h
    refine ⟨_, pss_cons (ps_set (i := 2) nd rfl (.inl rfl) (pe_call (ok__law_cell D) (hr.mono (by decide)) (by rfl) D.h__law_cell.gl D.h__law_cell.fn.kp D.h__law_cell.bd .nil pass0 (pa_cons (pv 0) (pa_cons (pv 1) pa_nil))))
      (pss_one (ps_ret (pe_lst (pa_cons (pe_callB (call_max2 rfl) (by rfl) T.max (by decide +kernel) (pa_cons pe_int (pa_cons (pe_op op_sub (pv 2) (pe_op op_pow pe_int pe_int)) pa_nil))) (pa_cons (pe_op op_mod (pe_op op_add (pe_op op_mod (pe_callB call_abs (by rfl) T.abs (by decide +kernel) (pa_cons (pv 2) pa_nil)) pe_int) (pe_op op_mul pe_int (pe_op op_add (pv 1) pe_int))) pe_int) pa_nil))))), ?_⟩
    refine ⟨_, rfl, _, rfl, a, ns, k, rfl, hS, fun z => ?_⟩
    refine ⟨_, rfl, _, _, rfl, rfl, ⟨by decide, by decide, by decide⟩, _, _, rfl, rfl, 0, _, rfl, ?_⟩
    refine ⟨_, rfl, z, rfl, _, _, rfl, rfl, by show (0 : Int) < 2147483629; decide, ?_⟩
    generalize hA : (if z < 0 then -z else z) = za
    have m0 := Int.emod_nonneg za (show (2147483629 : Int) ≠ 0 by decide)
    have m1 := Int.emod_lt_of_pos za (show (0 : Int) < 2147483629 by decide)
    refine ⟨_, rfl, _, _, rfl, rfl, _, _, rfl, rfl, .inl ⟨by omega, by omega⟩, _, _, rfl, rfl, _, _, rfl, rfl, by show (0 : Int) < 2147483629; decide, by show 2 ≤ sizeLine; decide, fun l nl => ?_⟩
    refine q l _ nl (same_upd nl) ⟨_, _, upd_same, by split <;> omega, ?_, ?_⟩
    · have := Int.emod_nonneg (za % 2147483629 + 48271 * ((k : Nat) + 1)) (show (2147483629 : Int) ≠ 0 by decide)
      omega
    · have := Int.emod_lt_of_pos (za % 2147483629 + 48271 * ((k : Nat) + 1)) (show (0 : Int) < 2147483629 by decide)
      omega
theorem sc__law_take : FnScope ["_law_pot_here", "_law_many", "_law_digit"] ["_law_pot_here", "_law_many"] (defScope s__law_take) := ⟨rfl, rfl, rfl, by decide +kernel, rfl, by decide +kernel, by decide +kernel⟩
theorem ok__law_take (D : All K P mg) : FnOk P w K mg base CX0 1 D.f__law_take D.d__law_take ["_law_pot_here", "_law_many"] spTakeW := by
  refine D.h__law_take.fn.ok sc__law_take (fun vs H Q E h => ?_) (fun cdv A outer s H vs Q E hr h => ?_)
  · first | (obtain ⟨_, rfl, _⟩ := h; rfl) | (obtain ⟨_, _, rfl, _⟩ := h; rfl) | (obtain ⟨_, _, _, rfl, _⟩ := h; rfl) | (obtain ⟨_, _, _, _, rfl, _⟩ := h; rfl) | (obtain ⟨_, _, _, _, _, rfl, _⟩ := h; rfl) | (obtain ⟨_, _, _, _, _, _, rfl, _⟩ := h; rfl) | (obtain ⟨_, _, _, _, _, _, _, rfl, _⟩ := h; rfl) | (obtain ⟨_, _, _, _, _, _, _, _, rfl, _⟩ := h; rfl) | (obtain ⟨_, _, _, _, _, _, _, _, _, rfl, _⟩ := h; rfl) | (obtain ⟨_, _, _, _, _, _, _, _, _, _, rfl, _⟩ := h; rfl) | (obtain ⟨_, _, _, _, _, _, _, _, _, _, _, rfl, _⟩ := h; rfl) | (obtain ⟨_, _, _, _, _, _, _, _, _, _, _, _, rfl, _⟩ := h; rfl) | (obtain ⟨_, _, _, _, _, _, _, _, _, _, _, _, _, rfl, _⟩ := h; rfl) | (obtain ⟨_, _, _, _, _, _, _, _, _, _, _, _, _, _, rfl, _⟩ := h; rfl) | (obtain ⟨_, _, _, _, _, _, _, _, _, _, _, _, _, _, _, rfl, _⟩ := h; rfl)
  · have T := D.T
    have nd := sc__law_take.nd
    have hu := hr.units
    have hu1 := hu_of hr
    have hu0 := hr.units0
    obtain ⟨p, r, rfl, ⟨a, b, hp, a0, b0, bB⟩, r0, r1, q⟩ := h
    refine ⟨_, pss_cons (ps_if (pt_cmpR op_gt (pe_ix ix_list (pv 0) pe_int (fun _ _ => rfl)) pe_int (nomark _)) (pss_cons (ps_asg (pe_callB call_divmodW (by rfl) T.divmod (by decide +kernel) (pa_cons (pe_ix ix_list (pv 0) pe_int (fun _ _ => rfl)) (pa_cons (pv 1) pa_nil))) (pg_tup rfl (pgs_cons (pg_sub (pv 0) pe_int set_list) (pgs_cons (pg_name (i := 2) nd rfl (Or.inl rfl)) pgs_nil))))
      (pss_one (ps_ret (pv 2)))) pss_nil)
      (pss_cons (ps_asg (pe_op op_mod (pe_op op_add (pe_op op_mul (pe_ix ix_list (pv 0) pe_int (fun _ _ => rfl)) pe_int) pe_int) pe_int) (pg_sub (pv 0) pe_int set_list))
      (pss_one (ps_ret (pe_op op_mod (pe_op op_fdiv (pe_op op_mod (pe_op op_mul (pe_ix ix_list (pv 0) pe_int (fun _ _ => rfl)) (pe_ix ix_list (pv 0) pe_int (fun _ _ => rfl))) pe_int) pe_int) (pv 1))))), ?_⟩
    refine ⟨_, rfl, p, _, 0, _, rfl, rfl, SqL.of hp, atI_nat (j := 0) rfl, _, _, rfl, rfl, _, rfl, ite2 (fun h => ?_) (fun h => ?_)⟩
    · have ha : 0 < a := of_decide_eq_true h
      refine ⟨_, rfl, p, _, 0, _, rfl, rfl, SqL.of hp, atI_nat (j := 0) rfl, _, rfl, a, r, rfl, ⟨r0, nopy61 r0 r1⟩, fun t nt => ?_⟩
      have npt : p ≠ t := ne_of_none hp nt
      have hp2 : (upd H t (.tup [.int (a / r), .int (a % r)])) p = some (.lst [.int a, .int b]) := by
        rw [upd_ne npt]
        exact hp
      refine ⟨t, _, rfl, SqT.of upd_same, rfl, _, _, rfl, ?_⟩
      refine ⟨_, rfl, p, _, 0, 0, rfl, rfl, hp2, rfl, _, _, rfl, rfl, ?_⟩
      refine ⟨_, rfl, q _ _ (Int.emod_nonneg _ (by omega)) (Int.emod_lt_of_pos _ r0) ⟨_, _, upd_same, Int.ediv_nonneg a0 (by omega), b0, bB⟩ (SameB.upd (SameB.new nt (SameB.of (Same.refl H))))⟩
    · refine ⟨_, rfl, p, _, 1, _, rfl, rfl, SqL.of hp, atI_nat (j := 1) rfl, _, _, rfl, rfl, .inl ⟨by omega, by omega⟩, _, _, rfl, rfl, _, _, rfl, rfl, by show (0 : Int) < 2147483647; decide, ?_⟩
      refine ⟨_, rfl, p, _, 1, 1, rfl, rfl, hp, rfl, ?_⟩
      have n0 := Int.emod_nonneg (b * 39373 + 10007) (show (2147483647 : Int) ≠ 0 by decide)
      have n1 := Int.emod_lt_of_pos (b * 39373 + 10007) (show (0 : Int) < 2147483647 by decide)
      refine ⟨_, rfl, p, _, 1, _, rfl, rfl, SqL.of upd_same, atI_nat (j := 1) rfl, _, rfl, p, _, 1, _, rfl, rfl, SqL.of upd_same, atI_nat (j := 1) rfl, _, _, rfl, rfl, .inl ⟨by omega, by omega⟩, ?_⟩
      refine ⟨_, _, rfl, rfl, by show (0 : Int) < 2147483587; decide, _, _, rfl, rfl, ⟨by decide, by decide⟩, _, rfl, _, _, rfl, rfl, r0, ?_⟩
      exact q _ _ (Int.emod_nonneg _ (by omega)) (Int.emod_lt_of_pos _ r0) ⟨_, _, upd_same, a0, n0, by omega⟩ (SameB.upd (SameB.of (Same.refl H)))
theorem sc__law_names : FnScope ["_law_pot_here", "_law_many", "_law_letters", "_law_names_here", "_law_k", "_law_way", "_law_name", "_law_j", "_law_letter"] ["_law_pot_here", "_law_many"] (defScope s__law_names) := ⟨rfl, rfl, rfl, by decide +kernel, rfl, by decide +kernel, by decide +kernel⟩
theorem ok__law_names (D : All K P mg) : FnOk P w K mg base CX0 2 D.f__law_names D.d__law_names ["_law_pot_here", "_law_many"] spNamesE := by
  refine D.h__law_names.fn.ok sc__law_names (fun vs H Q E h => ?_) (fun cdv A outer s H vs Q E hr h => ?_)
  · first | (obtain ⟨_, rfl, _⟩ := h; rfl) | (obtain ⟨_, _, rfl, _⟩ := h; rfl) | (obtain ⟨_, _, _, rfl, _⟩ := h; rfl) | (obtain ⟨_, _, _, _, rfl, _⟩ := h; rfl) | (obtain ⟨_, _, _, _, _, rfl, _⟩ := h; rfl) | (obtain ⟨_, _, _, _, _, _, rfl, _⟩ := h; rfl) | (obtain ⟨_, _, _, _, _, _, _, rfl, _⟩ := h; rfl) | (obtain ⟨_, _, _, _, _, _, _, _, rfl, _⟩ := h; rfl) | (obtain ⟨_, _, _, _, _, _, _, _, _, rfl, _⟩ := h; rfl) | (obtain ⟨_, _, _, _, _, _, _, _, _, _, rfl, _⟩ := h; rfl) | (obtain ⟨_, _, _, _, _, _, _, _, _, _, _, rfl, _⟩ := h; rfl) | (obtain ⟨_, _, _, _, _, _, _, _, _, _, _, _, rfl, _⟩ := h; rfl) | (obtain ⟨_, _, _, _, _, _, _, _, _, _, _, _, _, rfl, _⟩ := h; rfl) | (obtain ⟨_, _, _, _, _, _, _, _, _, _, _, _, _, _, rfl, _⟩ := h; rfl) | (obtain ⟨_, _, _, _, _, _, _, _, _, _, _, _, _, _, _, rfl, _⟩ := h; rfl)
  · have T := D.T
    have nd := sc__law_names.nd
    have hu := hr.units
    have hu1 := hu_of hr
    have hu0 := hr.units0
    obtain ⟨p, m, rfl, hp, m0, m1, q⟩ := h
    refine ⟨_, pss_cons (ps_set (i := 2) nd rfl (.inr rfl) pe_str)
      (pss_cons (ps_set (i := 3) nd rfl (.inr rfl) (pe_lst pa_nil))
      (pss_cons (ps_for PassesOwn.never rfl (pi_range1 (by rfl) T.range (pa_cons (pv 1) pa_nil)) (pg_name (i := 4) nd rfl (Or.inl rfl)) (pss_cons (ps_set (i := 5) nd rfl (.inl rfl) (pe_call (ok__law_take D) (hr.mono (by decide)) (by rfl) D.h__law_take.gl D.h__law_take.fn.kp D.h__law_take.bd .nil pass0 (pa_cons (pv 0) (pa_cons pe_int pa_nil))))
      (pss_cons (ps_set (i := 6) nd rfl (.inl rfl) (pe_join pe_str (pe_lc (own := [("_law_j", 7)]) (g := gName 7) (tt := tYes) rfl nd (pi_range1 (by rfl) T.range (pa_cons (pe_op op_add pe_int (pe_call (ok__law_take D) (hr.mono (by decide)) (by rfl) D.h__law_take.gl D.h__law_take.fn.kp D.h__law_take.bd .nil pass0 (pa_cons (pv 0) (pa_cons (pe_ix ix_list (pe_lst (pa_cons pe_int (pa_cons pe_int pa_nil))) (pe_call (ok__law_take D) (hr.mono (by decide)) (by rfl) D.h__law_take.gl D.h__law_take.fn.kp D.h__law_take.bd .nil pass0 (pa_cons (pv 0) (pa_cons pe_int pa_nil))) (fun _ _ => rfl)) pa_nil)))) pa_nil)) (blkOk_by (N := ["_law_pot_here", "_law_many", "_law_letters", "_law_names_here", "_law_k", "_law_way", "_law_name", "_law_j", "_law_letter"]) (sc := defScope s__law_names) (by decide +kernel)) (fun _ _ _ _ _ => (pg_name (i := 7) nd rfl (Or.inl rfl))) (fun _ _ _ _ _ => pts_nil) (fun _ _ _ _ _ => (pe_ix ix_str (pv 2) (pe_call (ok__law_take D) (hr.mono (by decide)) (by rfl) D.h__law_take.gl D.h__law_take.fn.kp D.h__law_take.bd .nil pass0 (pa_cons (pv 0) (pa_cons pe_int pa_nil))) (fun _ _ => rfl))))))
      (pss_cons (ps_if (PW.pt (pw_and (pt_cmpR op_eq (pv 5) pe_int (nomark _)) (pw_and1 (pt_cmpR (op_neNil hu) (pv 3) (pe_lst pa_nil) (nomark _))))) (pss_one (ps_set (i := 6) nd rfl (.inl rfl) (pe_op op_add_str (pe_slice sl_str (pe_ix ix_list (pv 3) pe_int (fun _ _ => rfl)) po_none (po_some pe_int)) (pe_ix ix_str (pv 2) (pe_call (ok__law_take D) (hr.mono (by decide)) (by rfl) D.h__law_take.gl D.h__law_take.fn.kp D.h__law_take.bd .nil pass0 (pa_cons (pv 0) (pa_cons pe_int pa_nil))) (fun _ _ => rfl))))) pss_nil)
      (pss_cons (ps_if (pt_cmpR op_in_seq (pv 6) (pv 3) (by rfl)) (pss_one (ps_set (i := 6) nd rfl (.inl rfl) (pe_ix ix_list (pe_lc (own := [("_law_letter", 8)]) (g := gName 8) rfl nd (pi_str (pv 2)) (blkOk_by (N := ["_law_pot_here", "_law_many", "_law_letters", "_law_names_here", "_law_k", "_law_way", "_law_name", "_law_j", "_law_letter"]) (sc := defScope s__law_names) (by decide +kernel)) (fun _ _ _ _ _ => (pg_name (i := 8) nd rfl (Or.inl rfl))) (fun _ _ _ _ _ => pts_one (pt_cmpR (show OpR _ (compareOp .NotIn) (rIn K true) from op_notIn_seq) (pe_op op_add_str (pv 8) pe_str) (pv 3) (by rfl))) (fun _ _ _ _ _ => (pe_op op_add_str (pv 8) pe_str))) pe_int (fun _ _ => rfl)))) pss_nil)
      (pss_one (ps_expr (pe_bm PySem.F.plainAttrs_list PySem.F.slot_list_append PySem.F.type_list_append mt_append (pv 3) (pa_cons (pv 6) pa_nil)))))))))
      (pss_one (ps_ret (pv 3))))), ?_⟩
    have le0 : (Str.ofString "").length = 0 := by decide +kernel
    refine ⟨by show 0 ≤ sizeLine; decide, fun L nL => ?_⟩
    have nLp := hp.ne nL
    have hp1 := hp.upd (o := .lst []) nLp
    have eL1 := upd_same (H := H) (a := L) (o := .lst [])
    have s1 : SameB p H (L2.upd H L (.lst [])) := SameB.of (same_upd nL)
    generalize L2.upd H L (.lst []) = H1 at *
    refine ⟨_, rfl, m, rfl, by omega, by omega, for_range (lo := 0) (n := m.toNat) (fun i σ H' => ∃ (zs : List Str) (x4 x5 x6 x7 x8 : Option V), σ = [some (.ref p), some (.int m), some (.str (Str.ofString "abcdefghijklmnopqrstuvwxyz")), some (.ref L), x4, x5, x6, x7, x8] ∧ zs.length = i ∧ Names zs ∧ H' L = some (.lst (zs.map V.str)) ∧ Pot H' p ∧ SameB p H H')
      ⟨[], none, none, none, none, none, rfl, rfl, Names.nil, eL1, hp1, s1⟩ ?_ ?_⟩
    · rintro i σ H2 hi ⟨zs, x4, x5, x6, x7, x8, rfl, hzl, hzs, eL2, hp2, s2⟩
      refine ⟨_, rfl, p, 4, rfl, hp2, by decide, by decide, fun w0 H2a w00 w01 hp2a s2a => ?_⟩
      have s22 := s2.trans s2a
      refine ⟨⟨_, rfl⟩, _, rfl, by show 2 ≤ sizeLine; decide, fun K1 nK1 => ?_⟩
      have nK1p := hp2a.ne nK1
      have eK1 := upd_same (H := H2a) (a := K1) (o := .lst [V.int 3, .int 8])
      have hp2b := hp2a.upd (o := .lst [V.int 3, .int 8]) nK1p
      have s2b := SameB.new (o := .lst [V.int 3, .int 8]) (s22.none hp2a nK1) s22
      have eL2b : L2.upd H2a K1 (.lst [V.int 3, .int 8]) L = some (.lst (zs.map V.str)) := by
        have := s2a _ _ nLp eL2
        rw [upd_ne (ne_of_none this nK1)]
        exact this
      generalize L2.upd H2a K1 (.lst [V.int 3, .int 8]) = H2b at *
      refine ⟨_, rfl, p, 2, rfl, hp2b, by decide, by decide, fun e H2c e0 e1 hp2c s2c => ?_⟩
      have pick : ∃ y : Int, 1 ≤ y ∧ y ≤ 8 ∧ atI [V.int 3, .int 8] e = some (.int y) := by
        have he : e = 0 ∨ e = 1 := by omega
        rcases he with rfl | rfl
        · exact ⟨3, by decide, by decide, atI_nat (j := 0) rfl⟩
        · exact ⟨8, by decide, by decide, atI_nat (j := 1) rfl⟩
      obtain ⟨y, y1, y8, ey⟩ := pick
      refine ⟨K1, _, e, .int y, rfl, rfl, SqL.of (s2c _ _ nK1p eK1), ey, p, y, rfl, hp2c, by omega, by omega, fun d H3 d0 d1 hp3 s3 => ?_⟩
      refine ⟨1, d, rfl, rfl, 1 + d, rfl, by omega, by omega, fun F nF => ?_⟩
      have nFp := hp3.ne nF
      have eL3 := s3 L _ nLp (s2c L _ nLp eL2b)
      have nLF : L ≠ F := ne_of_none eL3 nF
      have s23 := s2b.trans (s2c.trans s3)
      refine lc_range (lo := 0) (n := (1 + d).toNat) (fun i H' => Pot H' p ∧ SameB p H H' ∧ H' L = some (.lst (zs.map V.str)) ∧ ∃ ys : List Str, ys.length = i ∧ (∀ y ∈ ys, y.length = 1 ∧ ∀ c ∈ y.cps.toList, small c = true) ∧ H' F = some (.lst (ys.map V.str)))
        ⟨hp3.upd nFp, SameB.new (s23.none hp3 nF) s23, by rw [upd_ne nLF]; exact eL3, [], rfl, fun y hy => absurd hy List.not_mem_nil, upd_same⟩ ?_ ?_
      · rintro j H4 hj ⟨hp4, s4, eL4, ys, hl, hy, eF⟩
        refine ⟨rfl, ?_⟩
        refine ⟨_, rfl, _, rfl, p, 26, rfl, hp4, by decide, by decide, fun e H5 e0 e1 hp5 s5 => ?_⟩
        obtain ⟨c, hc, lc, _⟩ := at_small26 e0 e1
        have eF5 := s5 F _ nFp eF
        refine ⟨_, e, c, rfl, rfl, by decide +kernel, hc, _, eF5, ?_, hp5.upd nFp, SameB.new (s23.none hp3 nF) (s4.trans s5), ?_, ys ++ [⟨#[c]⟩], ?_, ?_, ?_⟩
        · rw [List.length_map, hl]
          exact small2k (by omega)
        · rw [upd_ne nLF]
          exact s5 _ _ nLp eL4
        · rw [List.length_append, hl]
          rfl
        · intro y hm
          rcases List.mem_append.mp hm with h | h
          · exact hy y h
          · obtain rfl := List.mem_singleton.mp h
            refine ⟨rfl, fun x hx => ?_⟩
            obtain rfl : x = c := by simpa using hx
            exact lc
        · rw [upd_same, List.map_append]
          rfl
      · rintro H4 ⟨hp4, s4, eL4, ys, hl, hy, eF⟩
        have h1 : ∀ y ∈ ys, y.length = 1 := fun y h => (hy y h).1
        have ec := join_codes ys
        have el : (Txt.join (Str.ofString "") ys).length = (1 + d).toNat := by
          show (Txt.join (Str.ofString "") ys).cps.size = _
          rw [← Array.length_toList, ec, flat_len ys h1, hl]
        have hnm : Nm (Txt.join (Str.ofString "") ys) := by
          refine ⟨by omega, by omega, fun c hc => ?_⟩
          rw [ec] at hc
          obtain ⟨l, h2, h3⟩ := List.mem_flatten.mp hc
          obtain ⟨y, h4, rfl⟩ := List.mem_map.mp h2
          exact (hy y h4).2 c h3
        refine ⟨_, F, ys, rfl, rfl, .inl (SqL.of eF), ?_, ?_⟩
        · rw [sum_len ys h1, hl, le0]
          omega
        generalize Txt.join (Str.ofString "") ys = z at hnm
        apply joinA (α := Str) (J := fun a Hx => Nm a ∧ Pot Hx p ∧ SameB p H Hx ∧ Hx L = some (.lst (zs.map V.str)))
          (sl := fun a => [some (.ref p), some (.int m), some (.str (Str.ofString "abcdefghijklmnopqrstuvwxyz")), some (.ref L), some (.int (0 + (i : Nat))), some (.int w0), some (.str a), x7, x8])
        · intro h
          refine ⟨_, rfl, rfl, _, rfl, ?_⟩
          by_cases hw : w0 = 0
          · rw [decide_eq_true (show V.int w0 = V.int 0 by rw [hw])]
            refine iteT ⟨_, rfl, by show 0 ≤ sizeLine; decide, fun k nk => ?_⟩
            have nkp := hp4.ne nk
            have nLk : L ≠ k := ne_of_none eL4 nk
            have hp5 := hp4.upd (o := .lst []) nkp
            have s5 : SameB p H (L2.upd H4 k (.lst [])) := SameB.new (s4.none hp4 nk) s4
            have eL5 : L2.upd H4 k (.lst []) L = some (.lst (zs.map V.str)) := by rw [upd_ne nLk]; exact eL4
            have ek5 := upd_same (H := H4) (a := k) (o := .lst [])
            generalize L2.upd H4 k (.lst []) = H5 at *
            refine ⟨L, k, _, rfl, rfl, eL5, ek5, _, rfl, ?_⟩
            cases hz0l : zs[0]? with
            | none =>
              have e : (!(zs.map V.str).isEmpty) = false := by
                rw [List.getElem?_eq_none_iff] at hz0l
                rw [List.length_eq_zero_iff.mp (Nat.le_zero.mp hz0l)]
                rfl
              rw [e]
              exact iteF (h z H5 ⟨hnm, hp5, s5, eL5⟩)
            | some z0 =>
              have e : (!(zs.map V.str).isEmpty) = true := by
                have := (List.getElem?_eq_some_iff.mp hz0l).1
                rw [Bool.not_eq_true', List.isEmpty_eq_false_iff]
                intro e
                rw [List.map_eq_nil_iff] at e
                rw [e] at this
                cases this
              rw [e]
              have hz0 := hzs.nm z0 (List.mem_of_getElem? hz0l)
              have z8 := hz0.l8
              have z1 := hz0.l1
              have hat : atI (zs.map V.str) 0 = some (.str z0) := atI_nat (j := 0) (by rw [List.getElem?_map, hz0l]; rfl)
              refine iteT ⟨_, rfl, L, _, 0, .str z0, rfl, rfl, SqL.of eL5, hat, 7, rfl, z0, rfl, small_txt (by omega), ?_⟩
              refine ⟨_, rfl, _, rfl, p, 26, rfl, hp5, by decide, by decide, fun e H6 e0 e1 hp6 s6 => ?_⟩
              obtain ⟨c, hc, lc, _⟩ := at_small26 e0 e1
              have c1 := cutS_length z0 none (some 7)
              have l1 : (⟨#[c]⟩ : Str).length = 1 := rfl
              refine ⟨_, e, c, rfl, rfl, by decide +kernel, hc, _, _, rfl, rfl, small_txt (by omega), ?_⟩
              exact h _ H6 ⟨cut7_nm hz0 lc, hp6, s5.trans s6, s6 _ _ nLp eL5⟩
          · rw [decide_eq_false (show ¬ V.int w0 = V.int 0 from fun z => hw (V.int.inj z))]
            exact iteF (iteF (h z H4 ⟨hnm, hp4, s4, eL4⟩))
        rintro z' H5 ⟨hnm5, hp5, s5, eL5⟩
        apply joinA (α := Str) (J := fun a Hx => Nm a ∧ a ∉ zs ∧ Pot Hx p ∧ SameB p H Hx ∧ Hx L = some (.lst (zs.map V.str)))
          (sl := fun a => [some (.ref p), some (.int m), some (.str (Str.ofString "abcdefghijklmnopqrstuvwxyz")), some (.ref L), some (.int (0 + (i : Nat))), some (.int w0), some (.str a), x7, x8])
        · intro h
          refine ⟨_, rfl, _, rfl, L, _, rfl, .inl (SqL.of eL5), rfl, strs_flat zs, _, rfl, ?_⟩
          rw [inV_dec]
          refine ite2 (fun hm => ?_) (fun hm => ?_)
          · have zl25 : zs.length ≤ 25 := by omega
            refine ⟨_, rfl, abc, rfl, fun D nD => ?_⟩
            have nLD : L ≠ D := ne_of_none eL5 nD
            refine lc_it walk_str (fun i H' => Same H5 H' ∧ H' D = some (.lst (((abc.cps.toList.take i).filter fun c => !decide (cand4 c ∈ zs)).map fun c => V.str (cand4 c)))) ⟨same_upd nD, upd_same⟩ (fun _ _ _ _ => trivial) ?_ ?_
            · rintro j x H6 H7 hj ⟨s6, eD⟩ ⟨rfl, c, hc, rfl⟩
              have hc' : abc.cps.toList[j]? = some c := by rw [Array.getElem?_toList]; exact hc
              have grow : ((abc.cps.toList.take (j + 1)).filter fun c => !decide (cand4 c ∈ zs)) = ((abc.cps.toList.take j).filter fun c => !decide (cand4 c ∈ zs)) ++ if decide (cand4 c ∈ zs) = true then [] else [c] := by
                rw [take_snoc hc', List.filter_append, List.filter_cons, List.filter_nil]
                cases decide (cand4 c ∈ zs) <;> rfl
              have l1 : (⟨#[c]⟩ : Str).length = 1 := rfl
              have l3 : (Str.ofString "xyx").length = 3 := by decide +kernel
              have jl := (List.getElem?_eq_some_iff.mp hc').1
              rw [abc_len] at jl
              refine ⟨rfl, _, rfl, _, _, rfl, rfl, small_txt (by omega), _, rfl, L, _, rfl, .inl (SqL.of (s6 _ _ eL5)), rfl, strs_flat zs, _, rfl, ?_⟩
              have ein : inV (.str ((⟨#[c]⟩ : Str) ++ Str.ofString "xyx")) (zs.map V.str) = decide (cand4 c ∈ zs) := inV_dec _ _
              by_cases hm2 : cand4 c ∈ zs
              · rw [ein, decide_eq_true hm2]
                rw [decide_eq_true hm2, if_pos rfl, List.append_nil] at grow
                refine iteF ⟨s6, ?_⟩
                rw [grow]
                exact eD
              · rw [ein, decide_eq_false hm2]
                rw [decide_eq_false hm2, if_neg (by nofun)] at grow
                refine iteT ⟨_, rfl, _, _, rfl, rfl, small_txt (by omega), _, eD, ?_, same_app nD s6, ?_⟩
                · rw [List.length_map]
                  refine small2k (Nat.le_trans (List.length_filter_le _ _) ?_)
                  rw [List.length_take]
                  omega
                · rw [upd_same, grow, List.map_append]
                  rfl
            · rintro H6 ⟨s6, eD⟩
              rw [← Array.length_toList, List.take_length] at eD
              have ne := cand4_left zl25
              have mm := fun c (hc : c ∈ abc.cps.toList.filter fun c => !decide (cand4 c ∈ zs)) => List.mem_filter.mp hc
              generalize abc.cps.toList.filter (fun c => !decide (cand4 c ∈ zs)) = cs at *
              cases cs with
              | nil => exact absurd rfl ne
              | cons c0 cr =>
                obtain ⟨q1, q2⟩ := mm c0 List.mem_cons_self
                exact ⟨D, _, 0, .str (cand4 c0), rfl, rfl, SqL.of eD, atI_nat (j := 0) rfl, h _ H6 ⟨cand4_nm (abc_small c0 q1), by simpa using q2, hp5.mono s6, s5.trans (SameB.of s6), s6 _ _ eL5⟩⟩
          · exact h z' H5 ⟨hnm5, fun hin => absurd (decide_eq_true hin) hm, hp5, s5, eL5⟩
        rintro y' H6 ⟨hnm6, hout, hp6, s6, eL6⟩
        refine ⟨_, rfl, .inl ⟨rfl, _, SqL.of eL6⟩, _, rfl, L, _, _, rfl, rfl, eL6, by rw [List.length_map]; exact small2k (by omega), ?_⟩
        refine ⟨zs ++ [y'], _, _, _, _, _, rfl, by rw [List.length_append, hzl]; rfl, hzs.snoc hnm6 hout, ?_, hp6.upd nLp, SameB.new nL s6⟩
        rw [upd_same, List.map_append]
        rfl
    · rintro σ H2 ⟨zs, x4, x5, x6, x7, x8, rfl, hzl, hzs, eL2, hp2, s2⟩
      exact ⟨_, rfl, q L zs H2 nL eL2 hzs hzl hp2 s2⟩
end
end K74
set_option Elab.async false
set_option linter.all false
set_option maxRecDepth 100000
set_option maxHeartbeats 1600000
set_option pp.maxSteps 300
namespace K74
open PySem PySem.Spec PyProof.Rows L2 LT NdefX LamX
section
variable {P : Program} {w : World} {K : PySem.W.Frag} {mg : Str → Option Value} {base : Heap}
theorem sc__law_moves : FnScope ["_law_pot_here", "_law_names_here", "_law_lights", "_law_rows", "_law_known", "_law_k", "_law_step", "_law_way", "_law_name", "_law_day", "_law_place"] ["_law_pot_here", "_law_names_here", "_law_lights"] (defScope s__law_moves) := ⟨rfl, rfl, rfl, by decide +kernel, rfl, by decide +kernel, by decide +kernel⟩
theorem ok__law_moves (D : All K P mg) : FnOk P w K mg base CX0 2 D.f__law_moves D.d__law_moves ["_law_pot_here", "_law_names_here", "_law_lights"] spMoves := by
  refine D.h__law_moves.fn.ok sc__law_moves (fun vs H Q E h => ?_) (fun cdv A outer s H vs Q E hr h => ?_)
  · first | (obtain ⟨_, rfl, _⟩ := h; rfl) | (obtain ⟨_, _, rfl, _⟩ := h; rfl) | (obtain ⟨_, _, _, rfl, _⟩ := h; rfl) | (obtain ⟨_, _, _, _, rfl, _⟩ := h; rfl) | (obtain ⟨_, _, _, _, _, rfl, _⟩ := h; rfl) | (obtain ⟨_, _, _, _, _, _, rfl, _⟩ := h; rfl) | (obtain ⟨_, _, _, _, _, _, _, rfl, _⟩ := h; rfl) | (obtain ⟨_, _, _, _, _, _, _, _, rfl, _⟩ := h; rfl) | (obtain ⟨_, _, _, _, _, _, _, _, _, rfl, _⟩ := h; rfl) | (obtain ⟨_, _, _, _, _, _, _, _, _, _, rfl, _⟩ := h; rfl) | (obtain ⟨_, _, _, _, _, _, _, _, _, _, _, rfl, _⟩ := h; rfl) | (obtain ⟨_, _, _, _, _, _, _, _, _, _, _, _, rfl, _⟩ := h; rfl) | (obtain ⟨_, _, _, _, _, _, _, _, _, _, _, _, _, rfl, _⟩ := h; rfl) | (obtain ⟨_, _, _, _, _, _, _, _, _, _, _, _, _, _, rfl, _⟩ := h; rfl) | (obtain ⟨_, _, _, _, _, _, _, _, _, _, _, _, _, _, _, rfl, _⟩ := h; rfl)
  · have T := D.T
    have nd := sc__law_moves.nd
    have hu := hr.units
    have hu1 := hu_of hr
    have hu0 := hr.units0
    obtain ⟨p, n, l, zs, ls, rfl, hp, en, el, hzs, hls, z0, z1, l0, l1, q⟩ := h
    refine ⟨_, pss_cons (ps_set (i := 3) nd rfl (.inl rfl) (pe_lst pa_nil))
      (pss_cons (ps_set (i := 4) nd rfl (.inl rfl) (pe_call (ok__law_take D) (hr.mono (by decide)) (by rfl) D.h__law_take.gl D.h__law_take.fn.kp D.h__law_take.bd .nil pass0 (pa_cons (pv 0) (pa_cons pe_int pa_nil))))
      (pss_cons (ps_for PassesOwn.never rfl (pi_range1 (by rfl) T.range (pa_cons (pe_op op_add pe_int (pe_call (ok__law_take D) (hr.mono (by decide)) (by rfl) D.h__law_take.gl D.h__law_take.fn.kp D.h__law_take.bd .nil pass0 (pa_cons (pv 0) (pa_cons pe_int pa_nil)))) pa_nil)) (pg_name (i := 5) nd rfl (Or.inl rfl)) (pss_cons (ps_set (i := 6) nd rfl (.inl rfl) (pe_call (ok__law_take D) (hr.mono (by decide)) (by rfl) D.h__law_take.gl D.h__law_take.fn.kp D.h__law_take.bd .nil pass0 (pa_cons (pv 0) (pa_cons pe_int pa_nil))))
      (pss_cons (ps_set (i := 4) nd rfl (.inl rfl) (pe_op op_add (pv 4) (pe_ix ix_list (pe_lst (pa_cons pe_int (pa_cons pe_int (pa_cons pe_int (pa_cons (pe_op op_add pe_int (pe_call (ok__law_take D) (hr.mono (by decide)) (by rfl) D.h__law_take.gl D.h__law_take.fn.kp D.h__law_take.bd .nil pass0 (pa_cons (pv 0) (pa_cons pe_int pa_nil)))) pa_nil))))) (pv 6) (fun _ _ => rfl))))
      (pss_cons (ps_set (i := 7) nd rfl (.inl rfl) (pe_call (ok__law_take D) (hr.mono (by decide)) (by rfl) D.h__law_take.gl D.h__law_take.fn.kp D.h__law_take.bd .nil pass0 (pa_cons (pv 0) (pa_cons pe_int pa_nil))))
      (pss_cons (ps_set (i := 8) nd rfl (.inl rfl) (pe_ix ix_list (pv 1) (pe_call (ok__law_take D) (hr.mono (by decide)) (by rfl) D.h__law_take.gl D.h__law_take.fn.kp D.h__law_take.bd .nil pass0 (pa_cons (pv 0) (pa_cons (pe_callB call_len_seq (by rfl) T.len PySem.boot_len (pa_cons (pv 1) pa_nil)) pa_nil))) (fun _ _ => rfl)))
      (pss_cons (ps_set (i := 9) nd rfl (.inl rfl) (pe_call (ok__law_take D) (hr.mono (by decide)) (by rfl) D.h__law_take.gl D.h__law_take.fn.kp D.h__law_take.bd .nil pass0 (pa_cons (pv 0) (pa_cons pe_int pa_nil))))
      (pss_cons (ps_if (PW.pt (pw_and (pt_cmpR op_eq (pv 7) pe_int (nomark _)) (pw_and1 (pt_cmpR (op_neNil hu) (pv 3) (pe_lst pa_nil) (nomark _))))) (pss_one (ps_asg (pe_slice sl_tup (pe_ix ix_list (pv 3) (pe_call (ok__law_take D) (hr.mono (by decide)) (by rfl) D.h__law_take.gl D.h__law_take.fn.kp D.h__law_take.bd .nil pass0 (pa_cons (pv 0) (pa_cons (pe_callB call_len_seq (by rfl) T.len PySem.boot_len (pa_cons (pv 3) pa_nil)) pa_nil))) (fun _ _ => rfl)) (po_some pe_int) (po_some pe_int)) (pg_tup rfl (pgs_cons (pg_name (i := 8) nd rfl (Or.inl rfl)) (pgs_cons (pg_name (i := 9) nd rfl (Or.inl rfl)) pgs_nil))))) pss_nil)
      (pss_cons (ps_set (i := 10) nd rfl (.inl rfl) (pe_ix ix_list (pv 2) (pe_call (ok__law_take D) (hr.mono (by decide)) (by rfl) D.h__law_take.gl D.h__law_take.fn.kp D.h__law_take.bd .nil pass0 (pa_cons (pv 0) (pa_cons (pe_callB call_len_seq (by rfl) T.len PySem.boot_len (pa_cons (pv 2) pa_nil)) pa_nil))) (fun _ _ => rfl)))
      (pss_cons (ps_if (pt_cmpR op_gt (pv 7) pe_int (nomark _)) (pss_one (ps_set (i := 10) nd rfl (.inl rfl) pe_str)) pss_nil)
      (pss_cons (ps_if (PW.pt (pw_or (pt_cmpR op_eq (pv 7) pe_int (nomark _)) (pw_or1 (PW.pt (pw_and (pt_cmpR op_eq (pv 7) pe_int (nomark _)) (pw_and1 (pt_cmpR op_eq (pe_call (ok__law_take D) (hr.mono (by decide)) (by rfl) D.h__law_take.gl D.h__law_take.fn.kp D.h__law_take.bd .nil pass0 (pa_cons (pv 0) (pa_cons pe_int pa_nil))) pe_int (nomark _)))))))) (pss_one (ps_set (i := 10) nd rfl (.inl rfl) pe_non)) pss_nil)
      (pss_one (ps_expr (pe_bm PySem.F.plainAttrs_list PySem.F.slot_list_append PySem.F.type_list_append mt_append (pv 3) (pa_cons (pe_tup (pa_cons (pv 4) (pa_cons (pv 8) (pa_cons (pv 9) (pa_cons (pv 10) pa_nil))))) pa_nil))))))))))))))
      (pss_one (ps_ret (pv 3))))), ?_⟩
    have nnp := ne_of_pot hp en strs_no_pot
    have nlp := ne_of_pot hp el strs_no_pot
    refine ⟨by show 0 ≤ sizeLine; decide, fun R nR => ?_⟩
    have nRp := hp.ne nR
    have hp1 := hp.upd (o := .lst []) nRp
    have eR1 := upd_same (H := H) (a := R) (o := .lst [])
    have s1 : SameB p H (L2.upd H R (.lst [])) := SameB.of (same_upd nR)
    generalize L2.upd H R (.lst []) = H1 at *
    refine ⟨_, rfl, p, 3, rfl, hp1, by decide, by decide, fun a H2 a0 a1 hp2 s2 => ?_⟩
    refine ⟨_, rfl, p, 14, rfl, hp2, by decide, by decide, fun d H3 d0 d1 hp3 s3 => ⟨1, d, rfl, rfl, 1 + d, rfl, by omega, by omega, ?_⟩⟩
    refine for_range (lo := 0) (n := (1 + d).toNat) (fun i σ H' => ∃ (es : List Evt) (ts : List Addr) (k : Int) (x5 x6 x7 x8 x9 x10 : Option V), σ = [some (.ref p), some (.ref n), some (.ref l), some (.ref R), some (.int k), x5, x6, x7, x8, x9, x10] ∧ Pot H' p ∧ SameB p H H' ∧ H' R = some (.lst (ts.map V.ref)) ∧ Paired (RowT H') ts es ∧ (∀ e ∈ es, RowOK zs e) ∧ Rising es ∧ es.length = i ∧ (∀ e ∈ es, e.kn ≤ k) ∧ 0 ≤ k ∧ k ≤ 3 + 10 * i)
      ⟨[], [], a, none, none, none, none, none, none, rfl, hp3, (s1.trans s2).trans s3, (s2.trans s3) _ _ nRp eR1, .nil, nofun, List.Pairwise.nil, rfl, nofun, a0, by omega⟩ ?_ ?_
    · rintro i σ H4 hi ⟨es, ts, k, x5, x6, x7, x8, x9, x10, rfl, hp4, s4, eR, hts, ok, ris, esl, kl, k0, k1⟩
      refine ⟨_, rfl, p, 4, rfl, hp4, by decide, by decide, fun st H5 st0 st1 hp5 s5 => ?_⟩
      refine ⟨_, rfl, _, rfl, p, 9, rfl, hp5, by decide, by decide, fun b H6 b0 b1 hp6 s6 => ⟨_, _, rfl, rfl, by show 4 ≤ sizeLine; decide, fun K1 nK1 => ?_⟩⟩
      have nK1p := hp6.ne nK1
      have ek := upd_same (H := H6) (a := K1) (o := .lst [V.int 0, .int 0, .int 1, .int (1 + b)])
      have hp7 := hp6.upd (o := .lst [V.int 0, .int 0, .int 1, .int (1 + b)]) nK1p
      have s7 : SameB p H6 (L2.upd H6 K1 (.lst [V.int 0, .int 0, .int 1, .int (1 + b)])) := SameB.of (same_upd nK1)
      generalize L2.upd H6 K1 (.lst [V.int 0, .int 0, .int 1, .int (1 + b)]) = H7 at *
      have pick : ∃ y : Int, 0 ≤ y ∧ y ≤ 9 ∧ atI [V.int 0, .int 0, .int 1, .int (1 + b)] st = some (.int y) := by
        obtain ⟨v, hv, ev⟩ := at_any (xs := [V.int 0, .int 0, .int 1, .int (1 + b)]) st0 st1
        simp only [List.mem_cons, List.not_mem_nil, or_false] at hv
        rcases hv with rfl | rfl | rfl | rfl
        · exact ⟨0, by decide, by decide, ev⟩
        · exact ⟨0, by decide, by decide, ev⟩
        · exact ⟨1, by decide, by decide, ev⟩
        · exact ⟨1 + b, by omega, by omega, ev⟩
      obtain ⟨y, y0, y1, ey⟩ := pick
      refine ⟨_, rfl, K1, _, st, .int y, rfl, rfl, SqL.of ek, ey, _, _, rfl, rfl, ?_⟩
      refine ⟨_, rfl, p, 8, rfl, hp7, by decide, by decide, fun wy H8 wy0 wy1 hp8 s8 => ?_⟩
      have s48 := ((s5.trans s6).trans s7).trans s8
      have s08 := s4.trans s48
      refine ⟨_, rfl, _, rfl, _, rfl, n, _, rfl, .inl (SqL.of (s08 _ _ nnp en)), p, _, rfl, hp8, by rw [List.length_map]; omega, by rw [List.length_map]; omega, fun g H9 g0 g1 hp9 s9 => ?_⟩
      rw [List.length_map] at g1
      obtain ⟨nz, _, hnz, hna⟩ := str_at g0 g1
      refine ⟨n, _, g, .str nz, rfl, rfl, SqL.of ((s08.trans s9) _ _ nnp en), hna, ?_⟩
      refine ⟨_, rfl, p, 31, rfl, hp9, by decide, by decide, fun dt H10 dt0 dt1 hp10 s10 => ?_⟩
      have s410 := (s48.trans s9).trans s10
      have s010 := s4.trans s410
      have eR10 := s410 _ _ nRp eR
      have hts10 : Paired (RowT H10) ts es := paired_imp (fun _ _ h => h.pot hp4 s410) hts
      dsimp only
      have k2b : 0 ≤ k + y ∧ k ≤ k + y ∧ k + y ≤ 3 + 10 * ((i + 1 : Nat) : Int) := by omega
      generalize k + y = k2 at *
      apply joinA (α := Str × Int) (J := fun a Hx => a.1 ∈ zs ∧ 0 ≤ a.2 ∧ a.2 ≤ 30 ∧ Pot Hx p ∧ SameB p H10 Hx)
        (sl := fun a => [some (.ref p), some (.ref n), some (.ref l), some (.ref R), some (.int k2), some (.int (0 + (i : Nat))), some (.int st), some (.int wy), some (.str a.1), some (.int a.2), x10])
      · intro h
        refine ⟨_, rfl, rfl, _, rfl, ?_⟩
        by_cases hw : wy = 0
        · rw [decide_eq_true (show V.int wy = V.int 0 by rw [hw])]
          refine iteT ⟨_, rfl, by show 0 ≤ sizeLine; decide, fun Z nZ => ?_⟩
          have sZ := same_upd (o := .lst []) nZ
          have eZ := upd_same (H := H10) (a := Z) (o := .lst [])
          have hpZ := hp10.mono sZ
          generalize L2.upd H10 Z (.lst []) = HZ at *
          refine ⟨R, Z, _, rfl, rfl, sZ _ _ eR10, eZ, _, rfl, ?_⟩
          by_cases hts0 : ts = []
          · rw [show (!(ts.map V.ref).isEmpty) = false by rw [hts0]; rfl]
            exact iteF (h (nz, dt) HZ ⟨hnz, dt0, by show dt ≤ 30; omega, hpZ, SameB.of sZ⟩)
          · have tl : ts.length = es.length := Paired.length hts
            have tp : 0 < ts.length := List.length_pos_iff.mpr hts0
            rw [show (!(ts.map V.ref).isEmpty) = true by
              cases ts with
              | nil => exact absurd rfl hts0
              | cons a r => rfl]
            refine iteT ⟨_, rfl, _, rfl, _, rfl, R, _, rfl, .inl (SqL.of (sZ _ _ eR10)), p, _, rfl, hpZ, by rw [List.length_map]; omega, by rw [List.length_map]; omega, fun g2 H11 g20 g21 hp11 s11 => ?_⟩
            rw [List.length_map] at g21
            have s1011 : SameB p H10 H11 := (SameB.of sZ).trans s11
            have hts11 : Paired (RowT H11) ts es := paired_imp (fun _ _ h => h.pot hp10 s1011) hts10
            obtain ⟨t, ht⟩ : ∃ t, ts[g2.toNat]? = some t := ⟨_, List.getElem?_eq_getElem (by omega)⟩
            obtain ⟨e, he, hT⟩ := paired_get hts11 ht
            have oke := ok e (List.mem_of_getElem? he)
            refine ⟨R, _, g2, .ref t, rfl, rfl, SqL.of (s1011 _ _ nRp eR10), by
              have := atI_nat (xs := ts.map V.ref) (j := g2.toNat) (by rw [List.getElem?_map, ht]; rfl)
              rw [Int.toNat_of_nonneg g20] at this
              exact this, ?_⟩
            refine ⟨1, rfl, 3, rfl, t, _, rfl, SqT.of hT, by show ¬ (1 = 0 ∧ _); omega, fun T2 nT2 => ?_⟩
            have eT2 : L2.upd H11 T2 (.tup (cutV [V.int e.kn, .str e.who, .int e.day, e.w] (some 1) (some 3))) T2 = some (.tup [.str e.who, .int e.day]) := upd_same
            exact ⟨T2, _, rfl, SqT.of eT2, rfl, _, _, rfl, _, _, rfl, rfl, h (e.who, e.day) _ ⟨oke.who, oke.d0, oke.d1, hp11.mono (same_upd nT2), s1011.trans (SameB.of (same_upd nT2))⟩⟩
        · rw [decide_eq_false (show ¬ V.int wy = V.int 0 from fun z => hw (V.int.inj z))]
          exact iteF (iteF (h (nz, dt) H10 ⟨hnz, dt0, by show dt ≤ 30; omega, hp10, SameB.of (Same.refl _)⟩))
      rintro ⟨nz2, dt2⟩ H11 ⟨nz2m, d20, d21, hp11, s11⟩
      have s011 := s010.trans s11
      have eR11 := s11 _ _ nRp eR10
      have hts11 : Paired (RowT H11) ts es := paired_imp (fun _ _ h => h.pot hp10 s11) hts10
      refine ⟨_, rfl, _, rfl, _, rfl, l, _, rfl, .inl (SqL.of (s011 _ _ nlp el)), p, _, rfl, hp11, by rw [List.length_map]; omega, by rw [List.length_map]; omega, fun g3 H12 g30 g31 hp12 s12 => ?_⟩
      rw [List.length_map] at g31
      obtain ⟨lz, _, hlz, hla⟩ := str_at g30 g31
      refine ⟨l, _, g3, .str lz, rfl, rfl, SqL.of ((s011.trans s12) _ _ nlp el), hla, ?_⟩
      apply joinA (α := V) (J := fun a Hx => (a = .non ∨ ∃ z, a = .str z ∧ Pl z) ∧ Pot Hx p ∧ SameB p H12 Hx)
        (sl := fun a => [some (.ref p), some (.ref n), some (.ref l), some (.ref R), some (.int k2), some (.int (0 + (i : Nat))), some (.int st), some (.int wy), some (.str nz2), some (.int dt2), some a])
      · intro h
        have lnm := hls.nm lz hlz
        have sr : SameB p H12 H12 := SameB.of (Same.refl _)
        refine ⟨_, rfl, _, _, rfl, rfl, _, rfl, ?_⟩
        by_cases h4 : wy > 4
        · rw [decide_eq_true h4]
          refine iteT ⟨_, rfl, rfl, _, rfl, ?_⟩
          rw [decide_eq_false (show ¬ V.int wy = V.int 1 from fun z => by have := V.int.inj z; omega)]
          refine iteF ⟨_, rfl, rfl, _, rfl, ?_⟩
          rw [decide_eq_false (show ¬ V.int wy = V.int 0 from fun z => by have := V.int.inj z; omega)]
          exact iteF (iteF (h (.str (Str.ofString "")) H12 ⟨.inr ⟨_, rfl, .inl rfl⟩, hp12, sr⟩))
        · rw [decide_eq_false h4]
          refine iteF ⟨_, rfl, rfl, _, rfl, ?_⟩
          by_cases h1 : wy = 1
          · rw [decide_eq_true (show V.int wy = V.int 1 by rw [h1])]
            exact iteT (iteT (h .non H12 ⟨.inl rfl, hp12, sr⟩))
          · rw [decide_eq_false (show ¬ V.int wy = V.int 1 from fun z => h1 (V.int.inj z))]
            refine iteF ⟨_, rfl, rfl, _, rfl, ?_⟩
            by_cases h0 : wy = 0
            · rw [decide_eq_true (show V.int wy = V.int 0 by rw [h0])]
              refine iteT ⟨_, rfl, p, 2, rfl, hp12, by decide, by decide, fun g4 H13 g40 g41 hp13 s13 => ⟨rfl, _, rfl, ite2 (fun _ => h .non H13 ⟨.inl rfl, hp13, s13⟩) (fun _ => h (.str lz) H13 ⟨.inr ⟨_, rfl, .inr lnm⟩, hp13, s13⟩)⟩⟩
            · rw [decide_eq_false (show ¬ V.int wy = V.int 0 from fun z => h0 (V.int.inj z))]
              exact iteF (iteF (h (.str lz) H12 ⟨.inr ⟨_, rfl, .inr lnm⟩, hp12, sr⟩))
      rintro wv H13 ⟨hwv, hp13, s13⟩
      have s1113 := s12.trans s13
      have eR13 := s1113 _ _ nRp eR11
      have hts13 : Paired (RowT H13) ts es := paired_imp (fun _ _ h => h.pot hp11 s1113) hts11
      have tl : ts.length = es.length := Paired.length hts
      refine ⟨_, rfl, .inl ⟨rfl, _, SqL.of eR13⟩, _, rfl, _, rfl, _, rfl, _, rfl, by show 4 ≤ sizeLine; decide, fun T nT => ⟨R, _, _, rfl, rfl, same_upd nT _ _ eR13, by rw [List.length_map]; exact small2k (by omega), ?_⟩⟩
      have eT := upd_same (H := H13) (a := T) (o := .tup [V.int k2, .str nz2, .int dt2, wv])
      have sT := same_upd (o := .tup [V.int k2, .str nz2, .int dt2, wv]) nT
      generalize upd H13 T (.tup [V.int k2, .str nz2, .int dt2, wv]) = H14 at *
      have eR14 := sT _ _ eR13
      have hp14 := hp13.mono sT
      have s014 : SameB p H H14 := (s011.trans s1113).trans (SameB.of sT)
      have sF : SameB p H (upd H14 R (.lst (ts.map V.ref ++ [V.ref T]))) := fun c o nc e => by
        rw [upd_ne (ne_of_none e nR)]
        exact s014 c o nc e
      refine ⟨es ++ [⟨true, k2, nz2, dt2, wv⟩], ts ++ [T], k2, _, _, _, _, _, _, rfl, hp14.upd nRp, sF, ?_, ?_, ?_, ?_, ?_, ?_, k2b.1, k2b.2.2⟩
      · rw [upd_same, List.map_append]
        rfl
      · have h1 : Paired (RowT H14) (ts ++ [T]) (es ++ [⟨true, k2, nz2, dt2, wv⟩]) := paired_snoc' (paired_imp (fun _ _ h => sT _ _ h) hts13) eT
        exact paired_imp (fun _ _ h => h.upd eR14) h1
      · intro e he
        rcases List.mem_append.mp he with he | he
        · exact ok e he
        · rw [List.mem_singleton.mp he]
          exact ⟨rfl, k2b.1, by show k2 ≤ 200; omega, nz2m, d20, d21, hwv⟩
      · exact rising_app ris fun x hx => by
          have := kl x hx
          show x.kn ≤ k2
          omega
      · rw [List.length_append, esl]
        rfl
      · intro e he
        rcases List.mem_append.mp he with he | he
        · have := kl e he
          omega
        · rw [List.mem_singleton.mp he]
          exact Int.le_refl _
    · rintro σ H4 ⟨es, ts, k, x5, x6, x7, x8, x9, x10, rfl, hp4, s4, eR, hts, ok, ris, esl, kl, k0, k1⟩
      exact ⟨_, rfl, q R es H4 nR ⟨ts, eR, hts⟩ ok ris (by omega) (by omega) (fun e he => by have := kl e he; omega) hp4 s4⟩
end
end K74
set_option Elab.async false
set_option linter.all false
set_option maxRecDepth 100000
set_option maxHeartbeats 1600000
set_option pp.maxSteps 300
namespace K74
open PySem PySem.Spec PyProof.Rows L2 LT NdefX LamX
section
variable {P : Program} {w : World} {K : PySem.W.Frag} {mg : Str → Option Value} {base : Heap}
theorem sc__law_far : FnScope ["_law_pot_here"] ["_law_pot_here"] (defScope s__law_far) := ⟨rfl, rfl, rfl, by decide +kernel, rfl, by decide +kernel, by decide +kernel⟩
theorem ok__law_far (D : All K P mg) : FnOk P w K mg base CX0 2 D.f__law_far D.d__law_far ["_law_pot_here"] spFarB := by
  refine D.h__law_far.fn.ok sc__law_far (fun vs H Q E h => ?_) (fun cdv A outer s H vs Q E hr h => ?_)
  · first | (obtain ⟨_, rfl, _⟩ := h; rfl) | (obtain ⟨_, _, rfl, _⟩ := h; rfl) | (obtain ⟨_, _, _, rfl, _⟩ := h; rfl) | (obtain ⟨_, _, _, _, rfl, _⟩ := h; rfl) | (obtain ⟨_, _, _, _, _, rfl, _⟩ := h; rfl) | (obtain ⟨_, _, _, _, _, _, rfl, _⟩ := h; rfl) | (obtain ⟨_, _, _, _, _, _, _, rfl, _⟩ := h; rfl) | (obtain ⟨_, _, _, _, _, _, _, _, rfl, _⟩ := h; rfl) | (obtain ⟨_, _, _, _, _, _, _, _, _, rfl, _⟩ := h; rfl) | (obtain ⟨_, _, _, _, _, _, _, _, _, _, rfl, _⟩ := h; rfl) | (obtain ⟨_, _, _, _, _, _, _, _, _, _, _, rfl, _⟩ := h; rfl) | (obtain ⟨_, _, _, _, _, _, _, _, _, _, _, _, rfl, _⟩ := h; rfl) | (obtain ⟨_, _, _, _, _, _, _, _, _, _, _, _, _, rfl, _⟩ := h; rfl) | (obtain ⟨_, _, _, _, _, _, _, _, _, _, _, _, _, _, rfl, _⟩ := h; rfl) | (obtain ⟨_, _, _, _, _, _, _, _, _, _, _, _, _, _, _, rfl, _⟩ := h; rfl)
  · have T := D.T
    have nd := sc__law_far.nd
    have hu := hr.units
    have hu1 := hu_of hr
    have hu0 := hr.units0
    obtain ⟨p, rfl, hp, q⟩ := h
    refine ⟨_, pss_cons (ps_if (pt_cmpR op_eq (pe_call (ok__law_take D) (hr.mono (by decide)) (by rfl) D.h__law_take.gl D.h__law_take.fn.kp D.h__law_take.bd .nil pass0 (pa_cons (pv 0) (pa_cons pe_int pa_nil))) pe_int (nomark _)) (pss_one (ps_ret (pe_call (ok__law_take D) (hr.mono (by decide)) (by rfl) D.h__law_take.gl D.h__law_take.fn.kp D.h__law_take.bd .nil pass0 (pa_cons (pv 0) (pa_cons (pe_op op_pow pe_int pe_int) pa_nil))))) pss_nil)
      (pss_one (ps_ret pe_int)), ?_⟩
    refine ⟨_, rfl, p, 3, rfl, hp, by decide, by decide, fun d H1 d0 d1 hp1 s1 => ⟨rfl, _, rfl, ite2 (fun h => ?_) (fun h => q 0 H1 (by decide) (by decide) hp1 s1)⟩⟩
    refine ⟨_, rfl, _, _, rfl, rfl, ⟨by decide, by decide, by decide⟩, p, _, rfl, hp1, by decide, by decide, fun e H2 e0 e1 hp2 s2 => ?_⟩
    have e1 : e < 10 ^ 50 := e1
    exact q e H2 e0 (by omega) hp2 (s1.trans s2)
theorem sc__law_case : FnScope ["_law_pot_here", "_law_names_here", "_law_lights", "_law_far_here"] ["_law_pot_here"] (defScope s__law_case) := ⟨rfl, rfl, rfl, by decide +kernel, rfl, by decide +kernel, by decide +kernel⟩
theorem ok__law_case (D : All K P mg) : FnOk P w K mg base CX0 3 D.f__law_case D.d__law_case ["_law_pot_here"] spCase := by
  refine D.h__law_case.fn.ok sc__law_case (fun vs H Q E h => ?_) (fun cdv A outer s H vs Q E hr h => ?_)
  · first | (obtain ⟨_, rfl, _⟩ := h; rfl) | (obtain ⟨_, _, rfl, _⟩ := h; rfl) | (obtain ⟨_, _, _, rfl, _⟩ := h; rfl) | (obtain ⟨_, _, _, _, rfl, _⟩ := h; rfl) | (obtain ⟨_, _, _, _, _, rfl, _⟩ := h; rfl) | (obtain ⟨_, _, _, _, _, _, rfl, _⟩ := h; rfl) | (obtain ⟨_, _, _, _, _, _, _, rfl, _⟩ := h; rfl) | (obtain ⟨_, _, _, _, _, _, _, _, rfl, _⟩ := h; rfl) | (obtain ⟨_, _, _, _, _, _, _, _, _, rfl, _⟩ := h; rfl) | (obtain ⟨_, _, _, _, _, _, _, _, _, _, rfl, _⟩ := h; rfl) | (obtain ⟨_, _, _, _, _, _, _, _, _, _, _, rfl, _⟩ := h; rfl) | (obtain ⟨_, _, _, _, _, _, _, _, _, _, _, _, rfl, _⟩ := h; rfl) | (obtain ⟨_, _, _, _, _, _, _, _, _, _, _, _, _, rfl, _⟩ := h; rfl) | (obtain ⟨_, _, _, _, _, _, _, _, _, _, _, _, _, _, rfl, _⟩ := h; rfl) | (obtain ⟨_, _, _, _, _, _, _, _, _, _, _, _, _, _, _, rfl, _⟩ := h; rfl)
  · have T := D.T
    have nd := sc__law_case.nd
    have hu := hr.units
    have hu1 := hu_of hr
    have hu0 := hr.units0
    obtain ⟨p, rfl, hp, q⟩ := h
    refine ⟨_, pss_cons (ps_set (i := 1) nd rfl (.inl rfl) (pe_call (ok__law_names D) (hr.mono (by decide)) (by rfl) D.h__law_names.gl D.h__law_names.fn.kp D.h__law_names.bd .nil pass0 (pa_cons (pv 0) (pa_cons (pe_op op_add pe_int (pe_call (ok__law_take D) (hr.mono (by decide)) (by rfl) D.h__law_take.gl D.h__law_take.fn.kp D.h__law_take.bd .nil pass0 (pa_cons (pv 0) (pa_cons pe_int pa_nil)))) pa_nil))))
      (pss_cons (ps_set (i := 2) nd rfl (.inl rfl) (pe_call (ok__law_names D) (hr.mono (by decide)) (by rfl) D.h__law_names.gl D.h__law_names.fn.kp D.h__law_names.bd .nil pass0 (pa_cons (pv 0) (pa_cons (pe_op op_add pe_int (pe_call (ok__law_take D) (hr.mono (by decide)) (by rfl) D.h__law_take.gl D.h__law_take.fn.kp D.h__law_take.bd .nil pass0 (pa_cons (pv 0) (pa_cons pe_int pa_nil)))) pa_nil))))
      (pss_cons (ps_set (i := 3) nd rfl (.inl rfl) (pe_call (ok__law_far D) (hr.mono (by decide)) (by rfl) D.h__law_far.gl D.h__law_far.fn.kp D.h__law_far.bd .nil pass0 (pa_cons (pv 0) pa_nil)))
      (pss_one (ps_ret (pe_tup (pa_cons (pv 1) (pa_cons (pe_call (ok__law_moves D) (hr.mono (by decide)) (by rfl) D.h__law_moves.gl D.h__law_moves.fn.kp D.h__law_moves.bd .nil pass0 (pa_cons (pv 0) (pa_cons (pv 1) (pa_cons (pv 2) pa_nil)))) (pa_cons (pv 3) pa_nil)))))))), ?_⟩
    refine ⟨_, rfl, _, rfl, p, 4, rfl, hp, by decide, by decide, fun d H1 d0 d1 hp1 s1 => ?_⟩
    refine ⟨1, d, rfl, rfl, p, 1 + d, rfl, hp1, by omega, by omega, fun n zs H2 nn en hzs zl hp2 s2 => ?_⟩
    have nnp := hp1.ne nn
    refine ⟨_, rfl, _, rfl, p, 2, rfl, hp2, by decide, by decide, fun d2 H3 d20 d21 hp3 s3 => ?_⟩
    refine ⟨1, d2, rfl, rfl, p, 1 + d2, rfl, hp3, by omega, by omega, fun l ls H4 nl el hls ll hp4 s4 => ?_⟩
    have nlp := hp3.ne nl
    refine ⟨_, rfl, p, rfl, hp4, fun far H5 f0 f1 hp5 s5 => ?_⟩
    have s25 := (s3.trans s4).trans s5
    have en5 := s25 _ _ nnp en
    have el5 := s5 _ _ nlp el
    refine ⟨_, rfl, _, rfl, _, rfl, _, rfl, p, n, l, zs, ls, rfl, hp5, en5, el5, hzs, hls, by omega, by omega, by omega, by omega, fun R es H6 nR hR ok ris e0 e1 k1 hp6 s6 => ?_⟩
    have en6 := s6 _ _ nnp en5
    have s06 : SameB p H H6 := ((s1.trans s2).trans s25).trans s6
    refine ⟨_, rfl, by show 3 ≤ sizeLine; decide, fun T nT => ?_⟩
    have sT := same_upd (o := .tup [V.ref n, .ref R, .int far]) nT
    exact q T ⟨n, R, zs, es, far⟩ _ (s06.none hp6 nT) ⟨upd_same, sT _ _ en6, hR.mono sT⟩ ⟨hzs, by show 0 < zs.length; omega, by show zs.length ≤ 20; omega, ok, ris, e0, e1, f0, f1, k1⟩ (hp6.mono sT) (s06.trans (SameB.of sT))
theorem sc__law_book : FnScope ["_law_names_here", "_law_rows", "_law_far_here", "_law_book_here", "_law_told_on", "_law_name", "_law_on", "_law_place", "_law_k", "_law_row"] ["_law_names_here", "_law_rows", "_law_far_here"] (defScope s__law_book) := ⟨rfl, rfl, rfl, by decide +kernel, rfl, by decide +kernel, by decide +kernel⟩
theorem ok__law_book (D : All K P mg) : FnOk P w K mg base CX0 6 D.f__law_book D.d__law_book ["_law_names_here", "_law_rows", "_law_far_here"] (spBookC D.C_Book D.C_History) := by
  refine D.h__law_book.fn.ok sc__law_book (fun vs H Q E h => ?_) (fun cdv A outer s H vs Q E hr h => ?_)
  · first | (obtain ⟨_, rfl, _⟩ := h; rfl) | (obtain ⟨_, _, rfl, _⟩ := h; rfl) | (obtain ⟨_, _, _, rfl, _⟩ := h; rfl) | (obtain ⟨_, _, _, _, rfl, _⟩ := h; rfl) | (obtain ⟨_, _, _, _, _, rfl, _⟩ := h; rfl) | (obtain ⟨_, _, _, _, _, _, rfl, _⟩ := h; rfl) | (obtain ⟨_, _, _, _, _, _, _, rfl, _⟩ := h; rfl) | (obtain ⟨_, _, _, _, _, _, _, _, rfl, _⟩ := h; rfl) | (obtain ⟨_, _, _, _, _, _, _, _, _, rfl, _⟩ := h; rfl) | (obtain ⟨_, _, _, _, _, _, _, _, _, _, rfl, _⟩ := h; rfl) | (obtain ⟨_, _, _, _, _, _, _, _, _, _, _, rfl, _⟩ := h; rfl) | (obtain ⟨_, _, _, _, _, _, _, _, _, _, _, _, rfl, _⟩ := h; rfl) | (obtain ⟨_, _, _, _, _, _, _, _, _, _, _, _, _, rfl, _⟩ := h; rfl) | (obtain ⟨_, _, _, _, _, _, _, _, _, _, _, _, _, _, rfl, _⟩ := h; rfl) | (obtain ⟨_, _, _, _, _, _, _, _, _, _, _, _, _, _, _, rfl, _⟩ := h; rfl)
  · have T := D.T
    have nd := sc__law_book.nd
    have hu := hr.units
    have hu1 := hu_of hr
    have hu0 := hr.units0
    obtain ⟨n, R, far, zs, es, rfl, en, ⟨ts, eR, hts⟩, hzs, zl, ok, ris, el, f0, f1, q⟩ := h
    refine ⟨_, pss_cons (ps_set (i := 3) nd rfl (.inl rfl) (pe_make D.M_Book (ok_Book___init__ D) (hr.mono (by decide)) (by rfl) D.Z_Book.gl D.h_Book___init__.bd .nil pass0 (pa_cons (pe_callTy (call_dictP rfl) (by rfl) T.dict (by decide +kernel) (pa_cons (pe_lc (own := [("_law_k", 8), ("_law_name", 5)]) (g := gTup K 2 (gCons (gName 8) (gCons (gName 5) gNil))) (tt := tYes) rfl nd (pi_enum (by rfl) T.enumerate (pa_cons (pv 0) pa_nil)) (blkOk_by (N := ["_law_names_here", "_law_rows", "_law_far_here", "_law_book_here", "_law_told_on", "_law_name", "_law_on", "_law_place", "_law_k", "_law_row"]) (sc := defScope s__law_book) (by decide +kernel)) (fun _ _ _ _ _ => (pg_tup rfl (pgs_cons (pg_name (i := 8) nd rfl (Or.inl rfl)) (pgs_cons (pg_name (i := 5) nd rfl (Or.inl rfl)) pgs_nil)))) (fun _ _ _ _ _ => pts_nil) (fun _ _ _ _ _ => (pe_tup (pa_cons (pv 5) (pa_cons (pe_op op_add pe_int (pe_op op_mod (pe_op op_add (pe_op op_mul pe_int (pv 8)) (pe_callB (show CallR _ (.builtin "len") (rLenQ K) from call_len_seq) (by rfl) T.len PySem.boot_len (pa_cons (pv 1) pa_nil))) pe_int)) pa_nil))))) pa_nil)) pa_nil)))
      (pss_cons (ps_for PassesOwn.never rfl (pi_list (pv 1)) (pg_tup rfl (pgs_cons (pg_name (i := 4) nd rfl (Or.inl rfl)) (pgs_cons (pg_name (i := 5) nd rfl (Or.inl rfl)) (pgs_cons (pg_name (i := 6) nd rfl (Or.inl rfl)) (pgs_cons (pg_name (i := 7) nd rfl (Or.inl rfl)) pgs_nil))))) (pss_one (ps_expr (pe_meth (pv 3) D.Z_Book.cl D.h_Book_tell.me (ok_Book_tell D) (hr.mono (by decide)) D.h_Book_tell.bd .nil pass0 (pa_cons (pv 4) (pa_cons (pv 5) (pa_cons (pe_op op_add (pv 6) (pv 2)) (pa_cons (pv 7) pa_nil))))))))
      (pss_cons (ps_if (pt_cmpR op_eq (pe_op op_mod (pe_callB call_len_seq (by rfl) T.len PySem.boot_len (pa_cons (pv 1) pa_nil)) pe_int) pe_int (nomark _)) (pss_one (ps_expr (pe_meth (pv 3) D.Z_Book.cl D.h_Book_land.me (ok_Book_land D) (hr.mono (by decide)) D.h_Book_land.bd .nil pass0 (pa_cons (pe_callB (cr_max rfl) (by rfl) T.max (by decide +kernel) (pa_cons (pe_op op_cat (pe_lst (pa_cons pe_int pa_nil)) (pe_lc (own := [("_law_row", 9)]) (g := gName 9) (tt := tYes) rfl nd (pi_list (pv 1)) (blkOk_by (N := ["_law_names_here", "_law_rows", "_law_far_here", "_law_book_here", "_law_told_on", "_law_name", "_law_on", "_law_place", "_law_k", "_law_row"]) (sc := defScope s__law_book) (by decide +kernel)) (fun _ _ _ _ _ => (pg_name (i := 9) nd rfl (Or.inl rfl))) (fun _ _ _ _ _ => pts_nil) (fun _ _ _ _ _ => (pe_ix (show IxR _ (rIxT K) from ix_tup) (pv 9) pe_int (fun _ _ => rfl))))) pa_nil)) (pa_cons pe_str (pa_cons (pe_op op_add (pv 2) pe_int) (pa_cons pe_int pa_nil))))))) pss_nil)
      (pss_one (ps_ret (pv 3))))), ?_⟩
    have tl : ts.length = es.length := Paired.length hts
    refine ⟨_, rfl, n, _, rfl, SqL.of en, fun F nF => ?_⟩
    refine lc_enum (K := K) (a := n) (xs := zs.map V.str) (fun i H' => Same H H' ∧ ∃ (ps : List Addr) (rs : List (Str × Int)), H' F = some (.lst (ps.map V.ref)) ∧ PairsP H' ps rs ∧ rs.map (·.1) = zs.take i ∧ ∀ x ∈ rs, 1 ≤ x.2 ∧ x.2 ≤ 9)
      ⟨same_upd nF, [], [], upd_same, .nil, rfl, nofun⟩ (fun i H' _ h => SqL.of (h.1 _ _ en)) ?_ ?_
    · rintro i x H1 T hx ⟨s1, ps, rs, eF, hpr, ek, hb⟩ nT
      rw [List.getElem?_map, Option.map_eq_some_iff] at hx
      obtain ⟨z, hz, rfl⟩ := hx
      have il := (List.getElem?_eq_some_iff.mp hz).1
      have sT := same_upd (o := .tup [V.int (i : Nat), V.str z]) nT
      have eT := upd_same (H := H1) (a := T) (o := .tup [V.int (i : Nat), V.str z])
      generalize upd H1 T (.tup [V.int (i : Nat), V.str z]) = H2 at *
      refine ⟨T, _, rfl, SqT.of eT, rfl, _, _, rfl, _, _, rfl, rfl, rfl, ?_⟩
      refine ⟨_, rfl, _, rfl, _, _, rfl, rfl, .inl ⟨by decide, by decide⟩, _, rfl, R, _, rfl, .inl (SqL.of (sT _ _ (s1 _ _ eR))), _, _, rfl, rfl, _, _, rfl, rfl, by show (0 : Int) < 9; decide, _, _, rfl, rfl, by show 2 ≤ sizeLine; decide, fun T2 nT2 => ?_⟩
      dsimp only
      have m0 := Int.emod_nonneg (7 * ((i : Nat) : Int) + (((ts.map V.ref).length : Nat) : Int)) (show (9 : Int) ≠ 0 by decide)
      have m1 := Int.emod_lt_of_pos (7 * ((i : Nat) : Int) + (((ts.map V.ref).length : Nat) : Int)) (show (0 : Int) < 9 by decide)
      generalize (7 * ((i : Nat) : Int) + (((ts.map V.ref).length : Nat) : Int)) % 9 = y at *
      have s3 := same_upd (o := .tup [V.str z, V.int (1 + y)]) nT2
      have eT2 := upd_same (H := H2) (a := T2) (o := .tup [V.str z, V.int (1 + y)])
      have hprM : PairsP (upd H2 T2 (.tup [V.str z, V.int (1 + y)])) ps rs := paired_imp (fun _ _ h => (sT.trans s3) _ _ h) hpr
      have hpr3 := hprM.snoc (z := z) (i := 1 + y) eT2
      generalize upd H2 T2 (.tup [V.str z, V.int (1 + y)]) = H3 at *
      have eF3 := (sT.trans s3) _ _ eF
      have pl : ps.length = rs.length := Paired.length hpr
      have rl := congrArg List.length ek
      rw [List.length_map, List.length_take] at rl
      refine ⟨_, eF3, by rw [List.length_map]; exact small2k (by omega), same_put nF (s1.trans (sT.trans s3)), ps ++ [T2], rs ++ [(z, 1 + y)], ?_, hpr3.upd eF3, ?_, ?_⟩
      · rw [upd_same, List.map_append]
        rfl
      · rw [List.map_append, ek, take_snoc hz]
        rfl
      · intro x hx
        rcases List.mem_append.mp hx with hx | hx
        · exact hb x hx
        · rw [List.mem_singleton.mp hx]
          exact ⟨by show 1 ≤ 1 + y; omega, by show 1 + y ≤ 9; omega⟩
    rintro H1 ⟨s1, ps, rs, eF, hpr, ek, hb⟩
    rw [List.length_map, List.take_length] at ek
    have hrk : Rk rs := ⟨by rw [ek]; exact hzs.nd, fun x hx => hzs.nm x.1 (by rw [← ek]; exact List.mem_map.mpr ⟨x, hx, rfl⟩), hb, by
      have := congrArg List.length ek
      rw [List.length_map] at this
      omega⟩
    refine ⟨F, ps, sd rs, rfl, SqL.of eF, hpr.kv, fun r nr => ?_⟩
    rw [merge_nodup hrk.nd]
    have s2 := same_upd (o := .dK (sd rs)) nr
    have er := upd_same (H := H1) (a := r) (o := .dK (sd rs))
    generalize upd H1 r (.dK (sd rs)) = H2 at *
    refine fun b dx nb ndb nex => ?_
    have sm := same_made (C := D.C_Book) (o := .ins D.C_Book dx []) nb ndb
    refine ⟨b, dx, r, rs, rfl, upd_same, sm _ _ er, hrk, fun fp H3 bk fr sb => ⟨rfl, ?_⟩⟩
    have s23 := sameB_new nb sm sb
    have s03 := s1.trans (s2.trans s23)
    have frN : ∀ a ∈ fp, H a = none := fun a ha => by
      rcases fr a ha with h | h
      · rw [h]
        exact (s1.trans s2).free nb
      · exact (s1.trans s2).free (sm.free h)
    have eR3 := s03 _ _ eR
    refine ⟨_, rfl, R, rfl, ⟨_, SqL.of eR3⟩, for_list (xs := ts.map V.ref) (fun i σ H' => (∃ x4 x5 x6 x7, σ = [some (.ref n), some (.ref R), some (.int far), some (.ref b), x4, x5, x6, x7, none, none]) ∧ ∃ fp, Bk D.C_Book D.C_History H' b rs (shiftE far (es.take i)) fp ∧ (∀ a ∈ fp, H a = none) ∧ Same H H')
      ⟨⟨none, none, none, none, rfl⟩, fp, bk, frN, s03⟩ (fun i σ H' _ ⟨_, _, _, _, s⟩ => SqL.of (s _ _ eR)) ?_ ?_⟩
    · rintro i y σ H4 hy ⟨⟨x4, x5, x6, x7, rfl⟩, fp4, bk4, fr4, s4⟩
      obtain ⟨t, e, rfl, he, hT⟩ := pick_at hts hy
      have il := (List.getElem?_eq_some_iff.mp he).1
      have oke := ok e (List.mem_of_getElem? he)
      obtain ⟨dxb, Rb, Mb, Lb, vb, ix⟩ := bk4.ix
      have kle : ∀ x ∈ shiftE far (es.take i), x.kn ≤ e.kn := fun x hx => by
        unfold shiftE at hx
        obtain ⟨x0, hx0, rfl⟩ := List.mem_map.mp hx
        obtain ⟨j, hj⟩ := List.getElem?_of_mem hx0
        rw [List.getElem?_take] at hj
        split at hj
        · rename_i h
          have a1 := List.getElem?_eq_some_iff.mp hj
          have a2 := List.getElem?_eq_some_iff.mp he
          have := List.pairwise_iff_getElem.mp ris j i a1.1 a2.1 h
          rw [a1.2, a2.2] at this
          exact this
        · cases hj
      have d0 := oke.d0
      have d1 := oke.d1
      refine ⟨t, _, rfl, SqT.of (s4 _ _ hT), rfl, _, _, rfl, _, _, rfl, _, _, rfl, _, _, rfl, rfl, ?_⟩
      refine ⟨_, rfl, b, dxb, _, rfl, ix, rfl, _, rfl, _, rfl, _, rfl, _, rfl, _, _, rfl, rfl, _, rfl, b, rs, shiftE far (es.take i), fp4, e.kn, e.day + far, e.who, e.w, rfl, bk4, ⟨oke.k0, by show 0 ≤ e.day + far; omega, by show e.day + far < 10 ^ 55; omega, fun _ => ⟨by show e.who ∈ rs.map (·.1); rw [ek]; exact oke.who, oke.w⟩, fun h => nomatch h⟩, kle, by rw [shiftE_len, List.length_take]; omega, fun fp5 H5 bk5 fr5 s5 => ?_⟩
      refine ⟨⟨_, _, _, _, rfl⟩, fp5, ?_, fun a ha => ?_, fun a o e0 => s5 a o (fun h => by rw [fr4 a h] at e0; cases e0) (s4 a o e0)⟩
      · rw [shiftE_snoc he]
        have ee : ({ e with day := e.day + far } : Evt) = ⟨true, e.kn, e.who, e.day + far, e.w⟩ := by
          have := oke.mv
          obtain ⟨mv, kn, who, day, w⟩ := e
          cases this
          rfl
        rw [ee]
        exact bk5
      · rcases fr5 a ha with h | h
        · exact fr4 a h
        · exact s4.free h
    rintro σ H4 ⟨⟨x4, x5, x6, x7, rfl⟩, fp4, bk4, fr4, s4⟩
    rw [List.length_map, tl, List.take_length] at bk4
    have eR4 := s4 _ _ eR
    refine ⟨_, rfl, R, _, rfl, .inl (SqL.of eR4), _, _, rfl, rfl, by show (0 : Int) < 2; decide, rfl, _, rfl, ite2 (fun _ => ?_) (fun _ => ?_)⟩
    · obtain ⟨dxb, Rb, Mb, Lb, vb, ix⟩ := bk4.ix
      refine ⟨_, rfl, b, dxb, _, rfl, ix, rfl, by show 1 ≤ sizeLine; decide, fun Z nZ => ?_⟩
      have s5 := same_upd (o := .lst [V.int 0]) nZ
      have eZ := upd_same (H := H4) (a := Z) (o := .lst [V.int 0])
      generalize upd H4 Z (.lst [V.int 0]) = H5 at *
      have eR5 := s5 _ _ eR4
      refine ⟨_, rfl, R, rfl, ⟨_, SqL.of eR5⟩, fun G nG => ?_⟩
      refine lc_list (K := K) (a := R) (xs := ts.map V.ref) (fun i H' => Same H5 H' ∧ H' G = some (.lst (((es.take i).map Evt.kn).map V.int))) ⟨same_upd nG, upd_same⟩ (fun i H' _ ⟨s, _⟩ => SqL.of (s _ _ eR5)) ?_ ?_
      · rintro i x H6 hx ⟨s6, eG⟩
        obtain ⟨t, e, rfl, he, hT⟩ := pick_at hts hx
        have il := (List.getElem?_eq_some_iff.mp he).1
        refine ⟨rfl, _, rfl, t, _, 0, _, rfl, rfl, SqT.of ((s4.trans (s5.trans s6)) _ _ hT), atI_nat (j := 0) rfl, ?_⟩
        refine ⟨_, eG, by rw [List.length_map, List.length_map, List.length_take]; exact small2k (by omega), same_put nG s6, ?_⟩
        rw [upd_same, take_snoc he, List.map_append, List.map_append]
        rfl
      rintro H6 ⟨s6, eG⟩
      rw [List.length_map, tl, List.take_length] at eG
      refine ⟨Z, G, _, _, rfl, rfl, s6 _ _ eZ, eG, by rw [List.length_map, List.length_map]; exact Nat.le_of_lt (small2k (by show 1 + es.length ≤ 2000; omega)), fun N nN => ?_⟩
      rw [show [V.int 0] ++ (es.map Evt.kn).map V.int = (0 :: es.map Evt.kn).map V.int from rfl]
      have s7 := same_upd (o := .lst ((0 :: es.map Evt.kn).map V.int)) nN
      have eN := upd_same (H := H6) (a := N) (o := .lst ((0 :: es.map Evt.kn).map V.int))
      generalize upd H6 N (.lst ((0 :: es.map Evt.kn).map V.int)) = H7 at *
      have s47 := s5.trans (s6.trans s7)
      refine ⟨N, 0 :: es.map Evt.kn, rfl, SqL.of eN, by simp, fun mk hm hle => ?_⟩
      have mk0 : 0 ≤ mk := hle 0 List.mem_cons_self
      have bk7 := bk4.mono s47
      refine ⟨_, rfl, _, _, rfl, rfl, b, rs, shiftE far es, fp4, mk, far + 9, Str.ofString "ab", .int 5, rfl, bk7, ⟨mk0, by show 0 ≤ far + 9; omega, by show far + 9 < 10 ^ 55; omega, (fun h => by cases h), fun _ => ⟨ab_nm, 5, rfl, by decide, by decide⟩⟩, fun x hx => ?_, by rw [shiftE_len]; omega, fun fp8 H8 bk8 fr8 s8 => ?_⟩
      · unfold shiftE at hx
        obtain ⟨x0, hx0, rfl⟩ := List.mem_map.mp hx
        exact hle _ (List.mem_cons_of_mem _ (List.mem_map.mpr ⟨x0, hx0, rfl⟩))
      · refine ⟨_, rfl, q b rs _ fp8 H8 bk8 ⟨ek, ⟨[_], rfl, fun e he => by rw [List.mem_singleton.mp he], Nat.le_refl _⟩, fun m m0 hx e he => by
        rcases List.mem_append.mp he with he | he
        · exact shiftE_kn hx e he
        · rw [List.mem_singleton.mp he]
          show mk ≤ m
          rcases List.mem_cons.mp hm with h | h
          · omega
          · obtain ⟨x0, hx0, ex⟩ := List.mem_map.mp h
            rw [← ex]
            exact hx x0 hx0⟩ (fun a ha => ?_) fun a o e0 => s8 a o (fun h => by rw [fr4 a h] at e0; cases e0) ((s4.trans s47) a o e0)⟩
        rcases fr8 a ha with h | h
        · exact fr4 a h
        · exact (s4.trans s47).free h
    · exact ⟨_, rfl, q b rs (shiftE far es) fp4 H4 bk4 ⟨ek, ⟨[], (List.append_nil _).symm, nofun, by decide⟩, fun m m0 hx e he => shiftE_kn hx e he⟩ fr4 s4⟩
end
end K74
set_option Elab.async false
set_option linter.all false
set_option maxRecDepth 100000
set_option maxHeartbeats 1600000
set_option pp.maxSteps 300
namespace K74
open PySem PySem.Spec PyProof.Rows L2 LT NdefX LamX
section
variable {P : Program} {w : World} {K : PySem.W.Frag} {mg : Str → Option Value} {base : Heap}
theorem sc_History_all_told : FnScope ["self", "day", "told", "known", "worth"] ["self"] (defScope s_History_all_told) := ⟨rfl, rfl, rfl, by decide +kernel, rfl, by decide +kernel, by decide +kernel⟩
theorem ok_History_all_told (D : All K P mg) : FnOk P w K mg base CX0 1 D.f_History_all_told D.d_History_all_told ["self"] (spAllTold D.C_History) := by
  refine D.h_History_all_told.fn.ok sc_History_all_told (fun vs H Q E h => ?_) (fun cdv A outer s H vs Q E hr h => ?_)
  · first | (obtain ⟨_, rfl, _⟩ := h; rfl) | (obtain ⟨_, _, rfl, _⟩ := h; rfl) | (obtain ⟨_, _, _, rfl, _⟩ := h; rfl) | (obtain ⟨_, _, _, _, rfl, _⟩ := h; rfl) | (obtain ⟨_, _, _, _, _, rfl, _⟩ := h; rfl) | (obtain ⟨_, _, _, _, _, _, rfl, _⟩ := h; rfl) | (obtain ⟨_, _, _, _, _, _, _, rfl, _⟩ := h; rfl) | (obtain ⟨_, _, _, _, _, _, _, _, rfl, _⟩ := h; rfl) | (obtain ⟨_, _, _, _, _, _, _, _, _, rfl, _⟩ := h; rfl) | (obtain ⟨_, _, _, _, _, _, _, _, _, _, rfl, _⟩ := h; rfl) | (obtain ⟨_, _, _, _, _, _, _, _, _, _, _, rfl, _⟩ := h; rfl) | (obtain ⟨_, _, _, _, _, _, _, _, _, _, _, _, rfl, _⟩ := h; rfl) | (obtain ⟨_, _, _, _, _, _, _, _, _, _, _, _, _, rfl, _⟩ := h; rfl) | (obtain ⟨_, _, _, _, _, _, _, _, _, _, _, _, _, _, rfl, _⟩ := h; rfl) | (obtain ⟨_, _, _, _, _, _, _, _, _, _, _, _, _, _, _, rfl, _⟩ := h; rfl)
  · have T := D.T
    have nd := sc_History_all_told.nd
    have hu := hr.units
    have hu1 := hu_of hr
    have hu0 := hr.units0
    obtain ⟨a, rfl, W, hn, q⟩ := h
    refine ⟨_, pss_one (ps_ret (pe_lockM (pe_lc2 (own := [("day", 1), ("told", 2), ("known", 3), ("worth", 4)]) (vs1 := [3, 4]) (g := gTup K 2 (gCons (gName 1) (gCons (gName 2) gNil))) (g1 := gTup K 2 (gCons (gName 3) (gCons (gName 4) gNil))) (tt := tYes) (tt1 := tYes) rfl nd (pi_items (pe_fld (pv 0) rfl))
      (blkOk_by (N := ["self", "day", "told", "known", "worth"]) (sc := defScope s_History_all_told) (by decide +kernel)) (by decide) (fun _ _ _ _ _ => (pg_tup rfl (pgs_cons (pg_name (i := 1) nd rfl (Or.inl rfl)) (pgs_cons (pg_name (i := 2) nd rfl (Or.inl rfl)) pgs_nil)))) (fun _ _ _ _ _ => pts_nil)
      (fun _ _ _ _ _ => pi_items (pv 2)) (fun _ _ _ _ _ => (pg_tup rfl (pgs_cons (pg_name (i := 3) nd rfl (Or.inl rfl)) (pgs_cons (pg_name (i := 4) nd rfl (Or.inl rfl)) pgs_nil)))) (fun _ _ _ _ _ => pts_nil) (fun _ _ _ _ _ => pe_tup (pa_cons (pv 3) (pa_cons (pv 1) (pa_cons (pv 4) pa_nil))))))), ?_⟩
    have ndf := W.nd
    have hdx : a.x ∉ a.D :: a.g.map (·.2) := (List.nodup_cons.mp ndf).1
    have ndD := (List.nodup_cons.mp ndf).2
    refine ⟨_, locksE (a.D :: a.g.map (·.2)) H _ ndD (fun d hd => ?_) fun Hl hl Q' hq => ?_⟩
    · rcases List.mem_cons.mp hd with rfl | hd
      · exact ⟨_, W.bd, trivial⟩
      · obtain ⟨p, hp, rfl⟩ := List.mem_map.mp hd
        obtain ⟨i, hi⟩ := List.getElem?_of_mem hp
        obtain ⟨e, _, h1, h2⟩ := paired_get W.ta hi
        exact ⟨_, h2, trivial⟩
    have eX : Hl a.x = some (.ins D.C_History a.dx [("by_day", .ref a.D)]) := by
      rw [hl.2 _ hdx]
      exact W.ix
    obtain ⟨od, u, hu, eD⟩ := hl.1 a.D List.mem_cons_self
    rw [W.bd] at hu
    cases hu
    have gl : a.g.length = a.h.length := Paired.length W.ta
    have dday : ∀ (i : Nat) (p : Int × Addr) (e : Int × Told), a.g[i]? = some p → a.h[i]? = some e → p.1 = e.1 ∧ ∃ od, Hl p.2 = some (.frz od (.dK (toldK e.2))) := fun i p e hp he => by
      obtain ⟨e', h1, h2, h3⟩ := paired_get W.ta hp
      rw [he] at h1
      cases h1
      obtain ⟨od, u, hu, e4⟩ := hl.1 p.2 (List.mem_cons_of_mem _ (List.mem_map.mpr ⟨p, List.mem_of_getElem? hp, rfl⟩))
      rw [h3] at hu
      cases hu
      exact ⟨h2, od, e4⟩
    refine ⟨_, rfl, a.x, _, a.dx, _, _, rfl, eX, D.Z_History.cl, D.n_History_by_day, rfl, a.D, od, _, rfl, eD, fun F nF => ?_⟩
    refine walkW (walk_eni (gk := Sum.inl) (f := V.ref) (r := a.g)) (fun i H' => Same Hl H' ∧ ∃ ts : List Addr, H' F = some (.lst (ts.map V.ref)) ∧ Paired (TellT H') ts (flatH (a.h.take i))) ⟨same_upd nF, [], upd_same, .nil⟩ (fun i H' _ ⟨s, _⟩ => s _ _ eD) ?_ ?_
    · rintro i x H1 H2 hi ⟨s1, ts, eF, hts⟩ ⟨T1, p, hp, rfl, nT1, rfl⟩
      obtain ⟨e, he⟩ : ∃ e, a.h[i]? = some e := ⟨_, List.getElem?_eq_getElem (by omega)⟩
      obtain ⟨ep, od2, ed2⟩ := dday i p e hp he
      have s2 := same_upd (o := .tup [kV (Sum.inl p.1), V.ref p.2]) nT1
      have eT1 := upd_same (H := H1) (a := T1) (o := .tup [kV (Sum.inl p.1), V.ref p.2])
      generalize L2.upd H1 T1 (.tup [kV (Sum.inl p.1), V.ref p.2]) = H2 at *
      refine ⟨T1, _, rfl, SqT.of eT1, rfl, _, _, rfl, _, _, rfl, rfl, rfl, ?_⟩
      have s02 := s1.trans s2
      refine ⟨_, rfl, p.2, od2, _, rfl, s02 _ _ ed2, ?_⟩
      refine walkW (walk_eni (gk := Sum.inl) (f := id) (r := e.2)) (fun j H' => Same Hl H' ∧ ∃ ts : List Addr, H' F = some (.lst (ts.map V.ref)) ∧ Paired (TellT H') ts (flatH (a.h.take i) ++ (e.2.take j).map fun q => (q.1, e.1, q.2))) ⟨s02, ts, s2 _ _ eF, by rw [List.take_zero, List.map_nil, List.append_nil]; exact paired_imp (fun _ _ h => s2 _ _ h) hts⟩ (fun i H' _ ⟨s, _⟩ => s _ _ ed2) ?_ ?_
      · rintro j x H3 H4 hj ⟨s3, ts, eF, hts⟩ ⟨T2, r, hr, rfl, nT2, rfl⟩
        have s4 := same_upd (o := .tup [kV (Sum.inl r.1), id r.2]) nT2
        have eT2 := upd_same (H := H3) (a := T2) (o := .tup [kV (Sum.inl r.1), id r.2])
        generalize L2.upd H3 T2 (.tup [kV (Sum.inl r.1), id r.2]) = H4 at *
        refine ⟨T2, _, rfl, SqT.of eT2, rfl, _, _, rfl, _, _, rfl, rfl, rfl, ?_⟩
        refine ⟨_, rfl, _, rfl, _, rfl, by show 3 ≤ sizeLine; decide, fun T3 nT3 => ?_⟩
        have s5 := same_upd (o := .tup [V.int r.1, .int p.1, r.2]) nT3
        have eT3 := upd_same (H := H4) (a := T3) (o := .tup [V.int r.1, .int p.1, r.2])
        have eF5 := s5 _ _ (s4 _ _ eF)
        have s35 := s4.trans s5
        have tl := Paired.length hts
        have tl2 : ts.length < 2001 := by
          have h1 := flatH_take a.h (i + 1)
          rw [flatH_snoc he, List.length_append, List.length_map] at h1
          rw [tl, List.length_append, List.length_map, List.length_take]
          have : (flatH a.h).length ≤ 2000 := hn
          omega
        refine ⟨_, eF5, by rw [List.length_map, sizeLine_eq]; omega, same_put nF (s3.trans s35), ts ++ [T3], ?_, ?_⟩
        · rw [upd_same, List.map_append]
          rfl
        · have hT3 : TellT (L2.upd H4 T3 (.tup [V.int r.1, .int p.1, r.2])) T3 (r.1, e.1, r.2) := by
            show L2.upd H4 T3 (.tup [V.int r.1, .int p.1, r.2]) T3 = some (HO.tup [V.int r.1, .int e.1, r.2])
            rw [eT3, ep]
          have key : ∀ {Hx : Hp} {t : Addr} {y : Int × Int × V} {xs : List V} {o : HO}, Hx F = some (.lst xs) → TellT Hx t y → TellT (L2.upd Hx F o) t y := fun {Hx t y xs o} ef h => by
            show L2.upd Hx F o t = _
            rw [upd_ne (ne_of h ef (by intro z; cases z))]
            exact h
          rw [take_snoc hr, List.map_append, ← List.append_assoc]
          exact paired_snoc' (paired_imp (fun _ _ h => key eF5 (s35 _ _ h)) hts) (key eF5 hT3)
      · rintro H3 ⟨s3, ts, eF, hts⟩
        rw [List.take_length, ← flatH_snoc he] at hts
        exact ⟨s3, ts, eF, hts⟩
    · rintro H1 ⟨s1, ts, eF, hts⟩
      rw [gl, List.take_length] at hts
      refine hq _ H1 (fun d hd => ?_) (q F ts _ (unlock_none hl nF) (unlock_new hl nF eF) (paired_imp (fun _ _ h => h.unlock hl s1) hts) (unlock_same hl s1))
      obtain ⟨od, u, _, e⟩ := hl.1 d hd
      rw [e, s1 _ _ e]
theorem sc_Book_entries : FnScope ["self", "told", "light", "history", "keeper", "known", "day", "weight", "place"] ["self"] (defScope s_Book_entries) := ⟨rfl, rfl, rfl, by decide +kernel, rfl, by decide +kernel, by decide +kernel⟩
theorem ok_Book_entries (D : All K P mg) (TB : TBs D base) : FnOk P w K mg base CX0 9 D.f_Book_entries D.d_Book_entries ["self"] (spEntries D.C_Book D.C_History (TLs D)) := by
  refine D.L_Book_entries.ok sc_Book_entries (fun vs H Q E h => ?_) (fun A outer s H vs Q E hr h => ?_)
  · first | (obtain ⟨_, rfl, _⟩ := h; rfl) | (obtain ⟨_, _, rfl, _⟩ := h; rfl) | (obtain ⟨_, _, _, rfl, _⟩ := h; rfl) | (obtain ⟨_, _, _, _, rfl, _⟩ := h; rfl) | (obtain ⟨_, _, _, _, _, rfl, _⟩ := h; rfl) | (obtain ⟨_, _, _, _, _, _, rfl, _⟩ := h; rfl) | (obtain ⟨_, _, _, _, _, _, _, rfl, _⟩ := h; rfl) | (obtain ⟨_, _, _, _, _, _, _, _, rfl, _⟩ := h; rfl) | (obtain ⟨_, _, _, _, _, _, _, _, _, rfl, _⟩ := h; rfl) | (obtain ⟨_, _, _, _, _, _, _, _, _, _, rfl, _⟩ := h; rfl) | (obtain ⟨_, _, _, _, _, _, _, _, _, _, _, rfl, _⟩ := h; rfl) | (obtain ⟨_, _, _, _, _, _, _, _, _, _, _, _, rfl, _⟩ := h; rfl) | (obtain ⟨_, _, _, _, _, _, _, _, _, _, _, _, _, rfl, _⟩ := h; rfl) | (obtain ⟨_, _, _, _, _, _, _, _, _, _, _, _, _, _, rfl, _⟩ := h; rfl) | (obtain ⟨_, _, _, _, _, _, _, _, _, _, _, _, _, _, _, rfl, _⟩ := h; rfl)
  · have T := D.T
    have nd := sc_Book_entries.nd
    have hu := hr.units
    have hu1 := hu_of hr
    have hu0 := hr.units0
    obtain ⟨_, rk, es, fp, rfl, ⟨B, rfl, rfl, rfl, rfl, bh, bp, bl⟩, hl, hT, q⟩ := h
    refine ⟨_, pss_cons (ps_set (i := 1) nd rfl (.inl rfl) (pe_lst pa_nil))
      (pss_cons (ps_lock (ps_for PassesOwn.never rfl (pi_items (pe_fld (pv 0) rfl)) (pg_tup rfl (pgs_cons (pg_name (i := 2) nd rfl (Or.inr rfl)) (pgs_cons (pg_name (i := 3) nd rfl (Or.inl rfl)) pgs_nil))) (pss_one (ps_aug (i := 1) nd rfl (.inl rfl) (pe_lc (own := [("known", 5), ("day", 6), ("weight", 7)]) (g := gTup K 3 (gCons (gName 5) (gCons (gName 6) (gCons (gName 7) gNil)))) (tt := tYes) rfl nd (pi_list (pe_meth0 (pv 3) D.Z_History.cl D.h_History_all_told.me (ok_History_all_told D) (hr.mono (by decide)) D.h_History_all_told.bd .nil pass0)) (blkOk_by (N := ["self", "told", "light", "history", "keeper", "known", "day", "weight", "place"]) (sc := defScope s_Book_entries) (by decide +kernel)) (fun _ _ _ _ _ => (pg_tup rfl (pgs_cons (pg_name (i := 5) nd rfl (Or.inl rfl)) (pgs_cons (pg_name (i := 6) nd rfl (Or.inl rfl)) (pgs_cons (pg_name (i := 7) nd rfl (Or.inl rfl)) pgs_nil))))) (fun _ _ _ _ _ => pts_nil) (fun _ _ _ _ _ => (pe_tup (pa_cons pe_str (pa_cons (pv 5) (pa_cons (pv 2) (pa_cons (pv 6) (pa_cons (pv 7) pa_nil)))))))) ip_cat))))
      (pss_cons (ps_lock (ps_for PassesOwn.never rfl (pi_items (pe_fld (pv 0) rfl)) (pg_tup rfl (pgs_cons (pg_name (i := 4) nd rfl (Or.inr rfl)) (pgs_cons (pg_name (i := 3) nd rfl (Or.inl rfl)) pgs_nil))) (pss_one (ps_aug (i := 1) nd rfl (.inl rfl) (pe_lc (own := [("known", 5), ("day", 6), ("place", 8)]) (g := gTup K 3 (gCons (gName 5) (gCons (gName 6) (gCons (gName 8) gNil)))) (tt := tYes) rfl nd (pi_list (pe_meth0 (pv 3) D.Z_History.cl D.h_History_all_told.me (ok_History_all_told D) (hr.mono (by decide)) D.h_History_all_told.bd .nil pass0)) (blkOk_by (N := ["self", "told", "light", "history", "keeper", "known", "day", "weight", "place"]) (sc := defScope s_Book_entries) (by decide +kernel)) (fun _ _ _ _ _ => (pg_tup rfl (pgs_cons (pg_name (i := 5) nd rfl (Or.inl rfl)) (pgs_cons (pg_name (i := 6) nd rfl (Or.inl rfl)) (pgs_cons (pg_name (i := 8) nd rfl (Or.inl rfl)) pgs_nil))))) (fun _ _ _ _ _ => pts_nil) (fun _ _ _ _ _ => (pe_tup (pa_cons pe_str (pa_cons (pv 5) (pa_cons (pv 4) (pa_cons (pv 6) (pa_cons (pv 8) pa_nil)))))))) ip_cat))))
      (pss_one (ps_ret (pe_sortedLamT (T := TLs D) (x := "entry") (k := 0) (by rfl) T.sorted (pa_cons (pv 1) pa_nil) rfl rfl TB.t_Book_entries rfl D.mem_Book_entries (fun p hp e => D.uq_Book_entries p hp e) (show LamP (defScope s_Book_entries) _ _ from lamP_by (by decide +kernel)) (show ("entry" : Str) ∉ (["self", "told", "light", "history", "keeper", "known", "day", "weight", "place"] : List Str) by decide) rfl (fun _ _ _ _ _ _ => rfl) hr (fun A outer s H f c' hr3 => pe_slice (r := rSlT K) sl_tup (pv 0) po_none (po_some pe_int)) (by decide +kernel)))))), ?_⟩
    have ndd := bh.nd
    have n1 := (List.nodup_cons.mp ndd).1
    have n2 := (List.nodup_cons.mp (List.nodup_cons.mp ndd).2).1
    have n3 := (List.nodup_cons.mp (List.nodup_cons.mp (List.nodup_cons.mp ndd).2).2).1
    have n4 := (List.nodup_cons.mp (List.nodup_cons.mp (List.nodup_cons.mp (List.nodup_cons.mp ndd).2).2).2).1
    have nbL : B.b ≠ B.L := fun z => n1 (by rw [z]; exact List.mem_cons_of_mem _ (List.mem_cons_of_mem _ List.mem_cons_self))
    have nbM : B.b ≠ B.M := fun z => n1 (by rw [z]; exact List.mem_cons_of_mem _ List.mem_cons_self)
    have nL : ∀ c ∈ hsfp B.mv ++ hsfp B.ld, c ≠ B.L := fun c hc z => n4 (by rw [← z]; exact hc)
    have nM : ∀ c ∈ hsfp B.mv ++ hsfp B.ld, c ≠ B.M := fun c hc z => n3 (by rw [← z]; exact List.mem_cons_of_mem _ hc)
    have elen : (flatE false B.ld).length + (flatE true B.mv).length ≤ 60 := by
      have := entL_le bp
      unfold entL at this
      rw [List.length_append] at this
      omega
    refine ⟨by show 0 ≤ sizeLine; decide, fun F nF => ?_⟩
    have s1 := same_upd (o := .lst []) nF
    have eF := upd_same (H := H) (a := F) (o := .lst [])
    generalize L2.upd H F (.lst []) = H1 at *
    have nFc : ∀ c o, H c = some o → F ≠ c := fun c o e => ne_of_none' nF e
    -- land
    refine ⟨B.L, _, s1 _ _ bh.ldd, trivial, fun od => ?_⟩
    obtain ⟨HL, eHL⟩ : ∃ HL, HL = L2.upd H1 B.L (.frz od (.dK (hsK B.ld))) := ⟨_, rfl⟩
    rw [← eHL]
    have nFL : F ≠ B.L := nFc _ _ bh.ldd
    have eL : HL B.L = some (.frz od (.dK (hsK B.ld))) := by rw [eHL, upd_same]
    have oth : ∀ a o, a ≠ B.L → H1 a = some o → HL a = some o := fun a o n e => by rw [eHL, upd_ne n]; exact e
    have back : ∀ a, a ≠ B.L → HL a = H1 a := fun a n => by rw [eHL, upd_ne n]
    have xb := oth _ _ (nbL) (s1 _ _ bh.ix)
    refine ⟨_, rfl, B.b, _, B.dx, _, _, rfl, xb, D.Z_Book.cl, D.n_Book_landings, rfl, B.L, od, _, rfl, eL, ?_⟩
    refine for_it (walk_eni (gk := Sum.inr) (f := fun a : HA => V.ref a.x) (r := B.ld)) (fun i σ H' => (∃ x2 x3 x4, σ = [some (.ref B.b), some (.ref F), x2, x3, x4, none, none, none, none]) ∧ SameB F HL H' ∧ ∃ ts : List Addr, H' F = some (.lst (ts.map V.ref)) ∧ Paired (EvT H') ts (flatE false (B.ld.take i)))
      ⟨⟨_, _, _, rfl⟩, SameB.of (Same.refl _), [], oth _ _ nFL eF, .nil⟩ (fun i σ H' _ ⟨_, s, _⟩ => s _ _ (Ne.symm nFL) eL) ?_ ?_
    · rintro i x σ H2 H3 hi ⟨⟨x2, x3, x4, rfl⟩, sb, ts, eF2, hts⟩ ⟨T1, p, hp, rfl, nT1, rfl⟩
      have s3 := same_upd (o := .tup [kV (Sum.inr p.1), V.ref p.2.x]) nT1
      have eT1 := upd_same (H := H2) (a := T1) (o := .tup [kV (Sum.inr p.1), V.ref p.2.x])
      generalize L2.upd H2 T1 (.tup [kV (Sum.inr p.1), V.ref p.2.x]) = H3 at *
      have sb3 : SameB F HL H3 := sb.trans (SameB.of s3)
      have hmem := List.mem_of_getElem? hp
      have Hh : HistAt D.C_History H3 p.2 := (bh.hl p hmem).by fun c hc o e => sb3 c o (fun z => nFc _ _ e z.symm) (oth c o (nL c (List.mem_append_right _ (hsfp_mem.mpr ⟨p, hmem, hc⟩))) (s1 _ _ e))
      have eh := bp.hl p hmem
      refine ⟨T1, _, rfl, SqT.of eT1, rfl, _, _, rfl, _, _, rfl, rfl, ?_⟩
      refine ⟨_, rfl, _, rfl, p.2.x, p.2.dx, _, rfl, Hh.ix, rfl, p.2, rfl, Hh, (by rw [eh]; exact Nat.le_trans (flat_le _ _ _) (by omega)), fun l us H4 nl el hus s4 => ?_⟩
      have flen : (flatH p.2.h).length ≤ 60 := by rw [eh]; exact Nat.le_trans (flat_le _ _ _) hl
      refine ⟨l, rfl, ⟨_, SqL.of el⟩, fun G nG => ?_⟩
      refine lc_list (K := K) (a := l) (xs := us.map V.ref) (fun j H' => Same H4 H' ∧ ∃ vs : List Addr, H' G = some (.lst (vs.map V.ref)) ∧ Paired (EvT H') vs (((flatH p.2.h).take j).map fun q => ⟨false, q.1, p.1, q.2.1, q.2.2⟩)) ⟨same_upd nG, [], upd_same, .nil⟩ (fun j H' _ h => h.1.seq (SqL.of el)) ?_ ?_
      · rintro j v H5 hv ⟨s5, vs, eG, hvs⟩
        obtain ⟨t, q0, rfl, hq, ht⟩ := pick_at hus hv
        have ht5 := s5 _ _ ht
        refine ⟨t, _, rfl, SqT.of ht5, rfl, _, _, rfl, _, _, rfl, _, _, rfl, rfl, rfl, ?_⟩
        refine ⟨_, rfl, _, rfl, _, rfl, _, rfl, by show 5 ≤ sizeLine; decide, fun T5 nT5 => ?_⟩
        have s6 := same_upd (o := .tup [V.str (Str.ofString "land"), V.int q0.1, kV (Sum.inr p.1), V.int q0.2.1, q0.2.2]) nT5
        have eT5 := upd_same (H := H5) (a := T5) (o := .tup [V.str (Str.ofString "land"), V.int q0.1, kV (Sum.inr p.1), V.int q0.2.1, q0.2.2])
        generalize L2.upd H5 T5 (.tup [V.str (Str.ofString "land"), V.int q0.1, kV (Sum.inr p.1), V.int q0.2.1, q0.2.2]) = H6 at *
        have vl : vs.length ≤ 60 := by
          rw [Paired.length hvs, List.length_map, List.length_take]
          omega
        have eG6 := s6 _ _ eG
        refine ⟨_, eG6, by rw [List.length_map]; exact small2k (by omega), same_put nG (s5.trans s6), vs ++ [T5], ?_, ?_⟩
        · rw [upd_same, List.map_append]
          rfl
        · rw [take_snoc hq, List.map_append]
          exact paired_snoc' (paired_imp (fun _ _ h => evT_upd (s6 _ _ h) eG6) hvs) (evT_upd (show EvT H6 T5 ⟨false, q0.1, p.1, q0.2.1, q0.2.2⟩ from eT5) eG6)
      · rintro H5 ⟨s5, vs, eG, hvs⟩
        have ul : (us.map V.ref).length = (flatH p.2.h).length := by rw [List.length_map]; exact Paired.length hus
        rw [ul, List.take_length] at hvs
        have s25 : Same H2 H5 := s3.trans (s4.trans s5)
        have eF5 := s25 _ _ eF2
        have htl : ts.length ≤ 60 := by
          rw [Paired.length hts]
          have h1 := flatE_take false B.ld i
          have h2 := elen
          omega
        have hvl : vs.length ≤ 60 := by
          rw [Paired.length hvs, List.length_map]
          exact flen
        refine ⟨F, G, _, _, rfl, rfl, eF5, eG, by rw [List.length_map, List.length_map, sizeLine_eq]; omega, ⟨_, _, _, rfl⟩, (sb.trans (SameB.of s25)).upd, ts ++ vs, ?_, ?_⟩
        · rw [upd_same, List.map_append]
        · rw [flatE_snoc hp]
          exact paired_cat (paired_imp (fun _ _ h => evT_upd (s25 _ _ h) eF5) hts) (paired_imp (fun _ _ h => evT_upd h eF5) hvs)
    rintro σ H7 ⟨⟨y2, y3, y4, rfl⟩, sb, ts1, eF2, hts⟩
    refine ⟨sb _ _ (Ne.symm nFL) eL, ?_⟩
    rw [List.take_length] at hts
    have s13 : Same H (L2.upd H7 B.L (.dK (hsK B.ld))) := fun a o e => by
      by_cases ha : a = B.L
      · rw [ha] at e ⊢
        rw [upd_same, ← bh.ldd, e]
      · rw [upd_ne ha]
        exact sb a o (fun z => nFc _ _ e z.symm) (oth a o ha (s1 _ _ e))
    have eF13 : L2.upd H7 B.L (.dK (hsK B.ld)) F = some (.lst (ts1.map V.ref)) := by
      rw [upd_ne nFL]
      exact eF2
    have hts1 : Paired (EvT (L2.upd H7 B.L (.dK (hsK B.ld)))) ts1 (flatE false B.ld) := paired_imp (fun _ _ h => evT_frz h (sb _ _ (Ne.symm nFL) eL)) hts
    generalize L2.upd H7 B.L (.dK (hsK B.ld)) = H13 at *
    clear eHL eL oth back xb nFL sb eF2 hts
    -- move
    refine ⟨B.M, _, s13 _ _ bh.md, trivial, fun od => ?_⟩
    obtain ⟨HL, eHL⟩ : ∃ HL, HL = L2.upd H13 B.M (.frz od (.dK (hsK B.mv))) := ⟨_, rfl⟩
    rw [← eHL]
    have nFL : F ≠ B.M := nFc _ _ bh.md
    have eL : HL B.M = some (.frz od (.dK (hsK B.mv))) := by rw [eHL, upd_same]
    have oth : ∀ a o, a ≠ B.M → H13 a = some o → HL a = some o := fun a o n e => by rw [eHL, upd_ne n]; exact e
    have back : ∀ a, a ≠ B.M → HL a = H13 a := fun a n => by rw [eHL, upd_ne n]
    have xb := oth _ _ (nbM) (s13 _ _ bh.ix)
    refine ⟨_, rfl, B.b, _, B.dx, _, _, rfl, xb, D.Z_Book.cl, D.n_Book_moves, rfl, B.M, od, _, rfl, eL, ?_⟩
    refine for_it (walk_eni (gk := Sum.inr) (f := fun a : HA => V.ref a.x) (r := B.mv)) (fun i σ H' => (∃ x2 x3 x4, σ = [some (.ref B.b), some (.ref F), x2, x3, x4, none, none, none, none]) ∧ SameB F HL H' ∧ ∃ ts : List Addr, H' F = some (.lst (ts.map V.ref)) ∧ Paired (EvT H') ts (flatE false B.ld ++ flatE true (B.mv.take i)))
      ⟨⟨_, _, _, rfl⟩, SameB.of (Same.refl _), ts1, oth _ _ nFL eF13, by rw [List.take_zero]; show Paired _ _ (flatE false B.ld ++ []); rw [List.append_nil]; exact paired_imp (fun _ _ h => by rw [eHL]; exact evT_dK h (s13 _ _ bh.md)) hts1⟩ (fun i σ H' _ ⟨_, s, _⟩ => s _ _ (Ne.symm nFL) eL) ?_ ?_
    · rintro i x σ H2 H3 hi ⟨⟨x2, x3, x4, rfl⟩, sb, ts, eF2, hts⟩ ⟨T1, p, hp, rfl, nT1, rfl⟩
      have s3 := same_upd (o := .tup [kV (Sum.inr p.1), V.ref p.2.x]) nT1
      have eT1 := upd_same (H := H2) (a := T1) (o := .tup [kV (Sum.inr p.1), V.ref p.2.x])
      generalize L2.upd H2 T1 (.tup [kV (Sum.inr p.1), V.ref p.2.x]) = H3 at *
      have sb3 : SameB F HL H3 := sb.trans (SameB.of s3)
      have hmem := List.mem_of_getElem? hp
      have Hh : HistAt D.C_History H3 p.2 := (bh.hm p hmem).by fun c hc o e => sb3 c o (fun z => nFc _ _ e z.symm) (oth c o (nM c (List.mem_append_left _ (hsfp_mem.mpr ⟨p, hmem, hc⟩))) (s13 _ _ e))
      have eh := bp.hm p hmem
      refine ⟨T1, _, rfl, SqT.of eT1, rfl, _, _, rfl, _, _, rfl, rfl, ?_⟩
      refine ⟨_, rfl, _, rfl, p.2.x, p.2.dx, _, rfl, Hh.ix, rfl, p.2, rfl, Hh, (by rw [eh]; exact Nat.le_trans (flat_le _ _ _) (by omega)), fun l us H4 nl el hus s4 => ?_⟩
      have flen : (flatH p.2.h).length ≤ 60 := by rw [eh]; exact Nat.le_trans (flat_le _ _ _) hl
      refine ⟨l, rfl, ⟨_, SqL.of el⟩, fun G nG => ?_⟩
      refine lc_list (K := K) (a := l) (xs := us.map V.ref) (fun j H' => Same H4 H' ∧ ∃ vs : List Addr, H' G = some (.lst (vs.map V.ref)) ∧ Paired (EvT H') vs (((flatH p.2.h).take j).map fun q => ⟨true, q.1, p.1, q.2.1, q.2.2⟩)) ⟨same_upd nG, [], upd_same, .nil⟩ (fun j H' _ h => h.1.seq (SqL.of el)) ?_ ?_
      · rintro j v H5 hv ⟨s5, vs, eG, hvs⟩
        obtain ⟨t, q0, rfl, hq, ht⟩ := pick_at hus hv
        have ht5 := s5 _ _ ht
        refine ⟨t, _, rfl, SqT.of ht5, rfl, _, _, rfl, _, _, rfl, _, _, rfl, rfl, rfl, ?_⟩
        refine ⟨_, rfl, _, rfl, _, rfl, _, rfl, by show 5 ≤ sizeLine; decide, fun T5 nT5 => ?_⟩
        have s6 := same_upd (o := .tup [V.str (Str.ofString "move"), V.int q0.1, kV (Sum.inr p.1), V.int q0.2.1, q0.2.2]) nT5
        have eT5 := upd_same (H := H5) (a := T5) (o := .tup [V.str (Str.ofString "move"), V.int q0.1, kV (Sum.inr p.1), V.int q0.2.1, q0.2.2])
        generalize L2.upd H5 T5 (.tup [V.str (Str.ofString "move"), V.int q0.1, kV (Sum.inr p.1), V.int q0.2.1, q0.2.2]) = H6 at *
        have vl : vs.length ≤ 60 := by
          rw [Paired.length hvs, List.length_map, List.length_take]
          omega
        have eG6 := s6 _ _ eG
        refine ⟨_, eG6, by rw [List.length_map]; exact small2k (by omega), same_put nG (s5.trans s6), vs ++ [T5], ?_, ?_⟩
        · rw [upd_same, List.map_append]
          rfl
        · rw [take_snoc hq, List.map_append]
          exact paired_snoc' (paired_imp (fun _ _ h => evT_upd (s6 _ _ h) eG6) hvs) (evT_upd (show EvT H6 T5 ⟨true, q0.1, p.1, q0.2.1, q0.2.2⟩ from eT5) eG6)
      · rintro H5 ⟨s5, vs, eG, hvs⟩
        have ul : (us.map V.ref).length = (flatH p.2.h).length := by rw [List.length_map]; exact Paired.length hus
        rw [ul, List.take_length] at hvs
        have s25 : Same H2 H5 := s3.trans (s4.trans s5)
        have eF5 := s25 _ _ eF2
        have htl : ts.length ≤ 60 := by
          rw [Paired.length hts]
          have h1 := flatE_take true B.mv i
          have h2 := elen
          rw [List.length_append]
          omega
        have hvl : vs.length ≤ 60 := by
          rw [Paired.length hvs, List.length_map]
          exact flen
        refine ⟨F, G, _, _, rfl, rfl, eF5, eG, by rw [List.length_map, List.length_map, sizeLine_eq]; omega, ⟨_, _, _, rfl⟩, (sb.trans (SameB.of s25)).upd, ts ++ vs, ?_, ?_⟩
        · rw [upd_same, List.map_append]
        · rw [flatE_snoc hp, ← List.append_assoc]
          exact paired_cat (paired_imp (fun _ _ h => evT_upd (s25 _ _ h) eF5) hts) (paired_imp (fun _ _ h => evT_upd h eF5) hvs)
    rintro σ H17 ⟨⟨z2, z3, z4, rfl⟩, sb, ts2, eF2, hts⟩
    refine ⟨sb _ _ (Ne.symm nFL) eL, ?_⟩
    rw [List.take_length] at hts
    have s23 : Same H (L2.upd H17 B.M (.dK (hsK B.mv))) := fun a o e => by
      by_cases ha : a = B.M
      · rw [ha] at e ⊢
        rw [upd_same, ← bh.md, e]
      · rw [upd_ne ha]
        exact sb a o (fun z => nFc _ _ e z.symm) (oth a o ha (s13 _ _ e))
    have eF23 : L2.upd H17 B.M (.dK (hsK B.mv)) F = some (.lst (ts2.map V.ref)) := by
      rw [upd_ne nFL]
      exact eF2
    have hts2 : Paired (EvT (L2.upd H17 B.M (.dK (hsK B.mv)))) ts2 (flatE false B.ld ++ flatE true B.mv) := paired_imp (fun _ _ h => evT_frz h (sb _ _ (Ne.symm nFL) eL)) hts
    generalize L2.upd H17 B.M (.dK (hsK B.mv)) = H23 at *
    clear eHL eL oth back xb nFL sb eF2 hts
    refine ⟨_, rfl, hT.ext s23, F, ts2.map V.ref, fun v => evKey (evOfV H23 v), rfl, .inl (SqL.of eF23), ?_, ?_, ?_, fun H6 e6 T6 => ⟨fun v hv H7 s7 Q' hQ' => ?_, fun l H7 s7 nl => ?_⟩⟩
    · intro v hv y hy
      rcases List.mem_cons.mp hy with rfl | hy
      · trivial
      rcases List.mem_cons.mp hy with rfl | hy
      · trivial
      rcases List.mem_cons.mp hy with rfl | hy
      · trivial
      rw [List.mem_singleton.mp hy]
      trivial
    · intro d hd d' hd'
      obtain ⟨v, _, rfl⟩ := List.mem_map.mp hd
      obtain ⟨v', _, rfl⟩ := List.mem_map.mp hd'
      exact alike_ev _ _
    · refine .inl fun d hd => ?_
      obtain ⟨v, _, rfl⟩ := List.mem_map.mp hd
      exact ⟨_, _, rfl⟩
    · obtain ⟨i, hi⟩ := List.getElem?_of_mem hv
      obtain ⟨t, e, rfl, _, ht⟩ := pick_at hts2 hi
      have ht7 := s7 _ _ (e6 _ _ (show H23 t = some (.tup [.str (kindS e.mv), .int e.kn, .str e.who, .int e.day, e.w]) from ht) nofun)
      have hQ' : ∀ u, H7 u = none → Q' (.ref u) (L2.upd H7 u (.tup (evKey (evOfV H23 (.ref t))))) := hQ'
      rw [evOf_is ht] at hQ'
      exact ⟨_, rfl, _, rfl, t, _, rfl, SqT.of ht7, (show ¬ (HT.sIx 5 0 none = 0 ∧ HT.sIx 5 5 (some 4) = 5) by decide), fun u nu => hQ' u nu⟩
    · obtain ⟨ts', e1, e2⟩ := ents_sorted hts2
      rw [e1]
      have eN : ExtN H H7 := (extN_same s23).trans (e6.trans (extN_same s7))
      refine q l ts' _ _ (newN_of eN nl) ?_ ?_ upd_same ?_ (entL_is bp)
      · exact eN.trans (extN_same (same_upd nl))
      · exact T6.ext (s7.trans (same_upd nl))
      · refine paired_imp (fun t e h => ?_) e2
        have h7 := s7 _ _ (e6 _ _ (show H23 t = some (.tup [.str (kindS e.mv), .int e.kn, .str e.who, .int e.day, e.w]) from h) nofun)
        exact same_upd nl _ _ h7
end
end K74
set_option Elab.async false
set_option linter.all false
set_option maxRecDepth 100000
set_option maxHeartbeats 1600000
/-! Own layer: spells up to a day, one behind the other; what is given back, on the heap. -/
namespace LT
open PySem PySem.Spec PyProof.Rows L2 NdefX
inductive Rest (g : Int → Bool) (day : Int) : Nat → List LT.Run → Prop
  | nil {n : Nat} (h : (n : Int) = day + 1) : Rest g day n []
  | cons {n e : Nat} {v : Bool} {ss : List LT.Run} (h1 : n ≤ e) (h2 : (e : Int) ≤ day) (h3 : ∀ d, (n : Int) ≤ d → d ≤ e → g d = v) (h4 : n = 0 ∨ g ((n : Int) - 1) = !v) (t : Rest g day (e + 1) ss) : Rest g day n ((.bl v, (n : Int), some (e : Int)) :: ss)
theorem spF_cons (day : Int) (r : LT.Run) (rs : List LT.Run) : spF day (r :: rs) = (if rFi r ≤ day then [(r.1, rFi r, some (cutL (rLa r) day))] else []) ++ spF day rs := by
  unfold spF
  rw [List.filter_cons]
  by_cases h : rFi r ≤ day
  · rw [decide_eq_true h, if_pos rfl, List.map_cons, if_pos h]
    rfl
  · rw [decide_eq_false h, if_neg (by nofun), if_neg h]
    rfl
theorem spF_late {day : Int} {rs : List LT.Run} (h : ∀ r ∈ rs, day < rFi r) : spF day rs = [] := by
  unfold spF
  rw [List.filter_eq_nil_iff.mpr fun r hr => by
    have := h r hr
    rw [decide_eq_false (by omega)]
    nofun]
  rfl
theorem bl_not {a b : Bool} (h : V.bl a ≠ V.bl b) : a = !b := by
  cases a <;> cases b <;> first | rfl | exact absurd rfl h
theorem rest_spF {g : Int → Bool} {day : Int} : ∀ {rs : List LT.Run} {f : Nat}, Cov rFi rLa (fun x d => V.bl (g d) = x.1) f rs → Un rs → (f : Int) ≤ day → (f = 0 ∨ ∀ c, rs[0]? = some c → V.bl (g ((f : Int) - 1)) ≠ c.1) → Rest g day f (spF day rs)
  | [], _, h, _, _, _ => h.elim
  | [b], f, ⟨a1, a2, a3⟩, un, fd, hd => by
    obtain ⟨v, fi, la⟩ := b
    have a1 : fi = (f : Int) := a1
    have a2 : la = none := a2
    subst a1 a2
    have ev : ∀ d, (f : Int) ≤ d → V.bl (g d) = v := fun d h => a3 d h
    have e0 := ev f (Int.le_refl _)
    have hv : v = V.bl (g f) := e0.symm
    subst hv
    rw [spF_cons, if_pos (show rFi ((V.bl (g (f : Int)), (f : Int), (none : Option Int)) : LT.Run) ≤ day from fd)]
    obtain ⟨D, rfl⟩ : ∃ D : Nat, day = (D : Int) := ⟨day.toNat, by omega⟩
    refine .cons (e := D) (by omega) (Int.le_refl _) (fun d h1 h2 => V.bl.inj (ev d h1)) ?_ (.nil (by omega))
    rcases hd with h | h
    · exact .inl h
    · exact .inr (bl_not (h _ rfl))
  | b :: c :: rs, f, ⟨a1, e, a2, a3, a4, a5⟩, un, fd, hd => by
    have bc := un 0 b c rfl rfl
    obtain ⟨v, fi, la⟩ := b
    have a1 : fi = (f : Int) := a1
    have a2 : la = some e := a2
    subst a1 a2
    have a3 : (f : Int) ≤ e := a3
    have ev : ∀ d, (f : Int) ≤ d → d ≤ e → V.bl (g d) = v := fun d h1 h2 => a4 d h1 h2
    have e0 := ev f (Int.le_refl _) a3
    have hv : v = V.bl (g f) := e0.symm
    subst hv
    obtain ⟨E, rfl⟩ : ∃ E : Nat, e = (E : Int) := ⟨e.toNat, by omega⟩
    have h4 : f = 0 ∨ g ((f : Int) - 1) = !g f := by
      rcases hd with h | h
      · exact .inl h
      · exact .inr (bl_not (h _ rfl))
    rw [spF_cons, if_pos (show rFi ((V.bl (g (f : Int)), (f : Int), some (E : Int)) : LT.Run) ≤ day from fd)]
    by_cases hE : (E : Int) < day
    · have hc : cutL (some (E : Int)) day = (E : Int) := by
        show (if day < (E : Int) then day else (E : Int)) = _
        rw [if_neg (by omega)]
      show Rest g day f ((V.bl (g f), (f : Int), some (cutL (some (E : Int)) day)) :: spF day (c :: rs))
      rw [hc]
      refine .cons (e := E) (by omega) (by omega) (fun d h1 h2 => V.bl.inj (ev d h1 h2)) h4 ?_
      have a5' : Cov rFi rLa (fun x d => V.bl (g d) = x.1) ((E + 1 : Nat) : Int) (c :: rs) := a5
      refine rest_spF a5' un.tail (by omega) (.inr fun c' hc' => ?_)
      cases hc'
      rw [show (((E + 1 : Nat) : Int) - 1) = (E : Int) by omega, ev E (by omega) (Int.le_refl _)]
      exact bc
    · have hc : cutL (some (E : Int)) day = day := by
        show (if day < (E : Int) then day else (E : Int)) = _
        split <;> omega
      have late := spF_late (day := day) (rs := c :: rs) fun r hr => by
        have := (cov_up a5).2 r hr
        omega
      show Rest g day f ((V.bl (g f), (f : Int), some (cutL (some (E : Int)) day)) :: spF day (c :: rs))
      rw [hc, late]
      obtain ⟨D, rfl⟩ : ∃ D : Nat, day = (D : Int) := ⟨day.toNat, by omega⟩
      exact .cons (e := D) (by omega) (Int.le_refl _) (fun d h1 h2 => V.bl.inj (ev d h1 (by omega))) h4 (.nil (by omega))
theorem rest_spR {P : Int → Prop} {g : Int → Bool} {day : Int} {rs : List LT.Run} (R : RunsOf P (fun d => .bl (g d)) rs) (d0 : 0 ≤ day) : Rest g day 0 (spF day rs) := rest_spF (f := 0) R.cov R.un d0 (.inl rfl)
/-! ### what is given back -/
abbrev Giv := Int × Int × Int
def giveG : List LD.Row → Int → Int → List Giv
  | [], _, _ => []
  | (a, x) :: r, d, l => if d ≤ l then (if x.getD 0 - a ≤ l - d then (a, d, x.getD 0 - a + 1) :: giveG r (d + (x.getD 0 - a + 1)) l else [(a, d, l - d + 1)]) else []
def GivT (H : Hp) (t : Addr) (q : Giv) : Prop := H t = some (.tup [.int q.1, .int q.2.1, .int q.2.2])
def GivAt (H : Hp) (l : Addr) (qs : List Giv) : Prop := ∃ ts : List Addr, H l = some (.lst (ts.map V.ref)) ∧ Paired (GivT H) ts qs
theorem GivAt.mono {H H' : Hp} {l : Addr} {qs : List Giv} (h : GivAt H l qs) (s : Same H H') : GivAt H' l qs := by
  obtain ⟨ts, a, b⟩ := h
  exact ⟨ts, s _ _ a, paired_imp (fun _ _ h => s _ _ h) b⟩
theorem give_len : ∀ {rows : List LD.Row} {d l : Int}, (giveF rows d l).length ≤ rows.length
  | [], _, _ => Nat.le_refl _
  | (a, x) :: r, d, l => by
    unfold giveF
    split
    · split
      · exact Nat.le_trans give_len (Nat.le_succ _)
      · exact Nat.le_refl _
    · exact Nat.le_refl _
theorem giveG_len : ∀ {rows : List LD.Row} {d l : Int}, (giveG rows d l).length ≤ rows.length
  | [], _, _ => Nat.le_refl _
  | (a, x) :: r, d, l => by
    unfold giveG
    split
    · split
      · exact Nat.succ_le_succ giveG_len
      · exact Nat.succ_le_succ (Nat.zero_le _)
    · exact Nat.zero_le _
theorem give_full {a b : Int} {r : List LD.Row} {d l : Int} (h1 : d ≤ l) (h2 : b - a ≤ l - d) : giveF ((a, some b) :: r) d l = giveF r (d + (b - a + 1)) l ∧ giveG ((a, some b) :: r) d l = (a, d, b - a + 1) :: giveG r (d + (b - a + 1)) l := by
  constructor
  · rw [giveF, if_pos h1]
    exact if_pos h2
  · rw [giveG, if_pos h1]
    exact if_pos h2
theorem give_part {a b : Int} {r : List LD.Row} {d l : Int} (h1 : d ≤ l) (h2 : ¬ b - a ≤ l - d) : giveF ((a, some b) :: r) d l = (a + (l - d + 1), some b) :: r ∧ giveG ((a, some b) :: r) d l = [(a, d, l - d + 1)] := by
  constructor
  · rw [giveF, if_pos h1]
    exact if_neg h2
  · rw [giveG, if_pos h1]
    exact if_neg h2
theorem give_done {rows : List LD.Row} {d l : Int} (h : ¬ d ≤ l) : giveF rows d l = rows ∧ giveG rows d l = [] := by
  cases rows with
  | nil => exact ⟨rfl, rfl⟩
  | cons p r =>
    obtain ⟨a, x⟩ := p
    exact ⟨by rw [giveF, if_neg h], by rw [giveG, if_neg h]⟩
def spGiveB (CS : Addr) : Sp := fun vs H Q _ => ∃ (o x G : Addr) (rows : List LD.Row) (f l : Int) (qs : List Giv), vs = [.ref o, .ref x, .ref G] ∧ PartsAt CS H o rows ∧ StrAt CS H x f (some l) ∧ GivAt H G qs ∧ 0 ≤ f ∧ (∀ r ∈ rows, ∃ j, r.2 = some j ∧ 0 ≤ r.1 ∧ r.1 ≤ j) ∧ rows.length ≤ 100 ∧ qs.length ≤ 8000 ∧ o ≠ G ∧
  ∀ (o' : Addr) (H' : Hp), H o' = none → PartsAt CS H' o' (giveF rows f l) → GivAt H' G (qs ++ giveG rows f l) → SameB G H H' → Q (.ref o') H'
theorem Rest.at {g : Int → Bool} {day : Int} {n i : Nat} {ss : List LT.Run} (h : Rest g day n (ss.drop i)) {r : LT.Run} (hr : ss[i]? = some r) : ∃ (e : Nat) (v : Bool), r = (.bl v, (n : Int), some (e : Int)) ∧ n ≤ e ∧ (e : Int) ≤ day ∧ (∀ d, (n : Int) ≤ d → d ≤ e → g d = v) ∧ (n = 0 ∨ g ((n : Int) - 1) = !v) ∧ Rest g day (e + 1) (ss.drop (i + 1)) := by
  have il := (List.getElem?_eq_some_iff.mp hr).1
  have er := (List.getElem?_eq_some_iff.mp hr).2
  rw [List.drop_eq_getElem_cons il, er] at h
  cases h with
  | cons h1 h2 h3 h4 t => exact ⟨_, _, rfl, h1, h2, h3, h4, t⟩
theorem Rest.fin {g : Int → Bool} {day : Int} {n : Nat} {ss : List LT.Run} (h : Rest g day n (ss.drop ss.length)) : (n : Int) = day + 1 := by
  rw [List.drop_length] at h
  cases h with
  | nil h => exact h
end LT
set_option Elab.async false
set_option linter.all false
set_option maxRecDepth 100000
set_option maxHeartbeats 1600000
/-! Own layer: the queue, told later; the law's own walk. -/
namespace LT
open PySem PySem.Spec PyProof.Rows L2 NdefX
theorem IsOwed.row {g : Int → Bool} {term leave : Int} {n : Nat} {rows : List LD.Row} (t0 : 0 ≤ term) (l0 : 0 ≤ leave) (I : IsOwed g term leave n rows) : ∀ r ∈ rows, ∃ j, r.2 = some j ∧ 0 ≤ r.1 ∧ r.1 ≤ j ∧ j < n := fun r hr => by
  obtain ⟨j, e⟩ := I.fin r hr
  have ok := I.asc.ok r hr
  have : j ∈ daysR rows := (days_ins I.fin j).mp ⟨r, hr, ok.2 j e, fun i hi => by rw [e] at hi; cases hi; exact Int.le_refl _⟩
  rw [I.days] at this
  exact ⟨j, e, ok.1, ok.2 j e, ((qA_up t0 l0 n).2 j this).2.1⟩
theorem IsOwed.sm {g : Int → Bool} {term leave : Int} {n : Nat} {rows : List LD.Row} (t0 : 0 ≤ term) (l0 : 0 ≤ leave) (I : IsOwed g term leave n rows) (hd : (n : Int) ≤ 10 ^ 60) (hl : rows.length ≤ 62) : RowsSm rows := ⟨hl, fun r hr => by
  obtain ⟨j, e, h0, h1, h2⟩ := I.row t0 l0 r hr
  exact ⟨⟨h0, by omega⟩, fun k hk => by
    rw [e] at hk
    cases hk
    exact ⟨by omega, by omega⟩⟩⟩
end LT
set_option Elab.async false
set_option linter.all false
set_option maxRecDepth 100000
set_option maxHeartbeats 1600000
/-! Own layer: what was given back, day by day and spell by spell. -/
namespace LT
open PySem PySem.Spec PyProof.Rows L2 NdefX
/-- the head of a queue against days on end -/
def pr : List Int → Int → Nat → List (Int × Int)
  | [], _, _ => []
  | _ :: _, _, 0 => []
  | a :: r, d, c + 1 => (a, d) :: pr r (d + 1) c
theorem pr_zero (q : List Int) (d : Int) : pr q d 0 = [] := by cases q <;> rfl
theorem pr_snoc : ∀ (q : List Int) (d : Int) (c : Nat), pr q d (c + 1) = pr q d c ++ ((q.drop c).head?.map fun a => (a, d + c)).toList
  | [], d, c => by rw [List.drop_nil]; rfl
  | a :: r, d, 0 => by
    show (a, d) :: pr r (d + 1) 0 = [] ++ [(a, d + (0 : Nat))]
    rw [pr_zero, show d + ((0 : Nat) : Int) = d by omega]
    rfl
  | a :: r, d, c + 1 => by
    show (a, d) :: pr r (d + 1) (c + 1) = ((a, d) :: pr r (d + 1) c) ++ _
    rw [pr_snoc r (d + 1) c, List.drop_succ_cons, show d + 1 + (c : Int) = d + ((c + 1 : Nat) : Int) by omega]
    rfl
theorem pr_app : ∀ (x y : List Int) (d : Int) (c : Nat), pr (x ++ y) d c = pr x d c ++ pr y (d + x.length) (c - x.length)
  | [], y, d, c => by
    show pr y d c = [] ++ pr y (d + (0 : Nat)) (c - 0)
    rw [show d + ((0 : Nat) : Int) = d by omega]
    rfl
  | a :: r, y, d, 0 => by
    rw [pr_zero, pr_zero, Nat.zero_sub, pr_zero]
    rfl
  | a :: r, y, d, c + 1 => by
    show (a, d) :: pr (r ++ y) (d + 1) c = (a, d) :: (pr r (d + 1) c ++ pr y (d + (r.length + 1 : Nat)) (c + 1 - (r.length + 1)))
    rw [pr_app r y (d + 1) c, show c + 1 - (r.length + 1) = c - r.length by omega, show d + ((r.length + 1 : Nat) : Int) = d + 1 + (r.length : Int) by omega]
def expT (q : Giv) : List (Int × Int) := pr (rngD q.1 (q.1 + q.2.2 - 1)) q.2.1 q.2.2.toNat
def expG (qs : List Giv) : List (Int × Int) := qs.flatMap expT
theorem exp_app (a b : List Giv) : expG (a ++ b) = expG a ++ expG b := List.flatMap_append
theorem exp_cons (a : Giv) (b : List Giv) : expG (a :: b) = expT a ++ expG b := List.flatMap_cons
theorem pr_short : ∀ (q : List Int) (d : Int) (c : Nat), q.length ≤ c → pr q d c = pr q d q.length
  | [], d, c, _ => rfl
  | a :: r, d, 0, h => by cases h
  | a :: r, d, c + 1, h => by
    show (a, d) :: pr r (d + 1) c = (a, d) :: pr r (d + 1) r.length
    rw [pr_short r (d + 1) c (Nat.le_of_succ_le_succ h)]
theorem give_exp : ∀ {rows : List LD.Row} {d l : Int}, (∀ r ∈ rows, r.1 ≤ r.2.getD 0) → expG (giveG rows d l) = pr (daysR rows) d (l - d + 1).toNat
  | [], d, l, _ => rfl
  | (a, x) :: r, d, l, h => by
    have hr : ∀ r' ∈ r, r'.1 ≤ r'.2.getD 0 := fun r' h' => h r' (List.mem_cons_of_mem _ h')
    have ha : a ≤ x.getD 0 := h (a, x) List.mem_cons_self
    have e : daysR ((a, x) :: r) = rngD a (x.getD 0) ++ daysR r := rfl
    unfold giveG
    by_cases hd : d ≤ l
    · rw [if_pos hd]
      by_cases hb : x.getD 0 - a ≤ l - d
      · rw [if_pos hb, exp_cons, give_exp hr, e, pr_app]
        have h1 : expT (a, d, x.getD 0 - a + 1) = pr (rngD a (x.getD 0)) d (l - d + 1).toNat := by
          show pr (rngD a (a + (x.getD 0 - a + 1) - 1)) d (x.getD 0 - a + 1).toNat = _
          rw [show a + (x.getD 0 - a + 1) - 1 = x.getD 0 by omega, pr_short _ d (l - d + 1).toNat (by rw [rng_len]; omega), rng_len]
        rw [h1, rng_len]
        congr 2
        · omega
        · omega
      · have h2 : expT (a, d, l - d + 1) = pr (rngD a (x.getD 0)) d (l - d + 1).toNat := by
          show pr (rngD a (a + (l - d + 1) - 1)) d (l - d + 1).toNat = _
          have hs : rngD a (x.getD 0) = rngD a (a + (l - d + 1) - 1) ++ rngD (a + (l - d + 1)) (x.getD 0) := by
            refine List.ext_getElem? fun i => ?_
            by_cases hi : i < (rngD a (a + (l - d + 1) - 1)).length
            · rw [List.getElem?_append_left hi, rng_get, rng_get]
              rw [rng_len] at hi
              rw [if_pos (by omega), if_pos (by omega)]
            · rw [List.getElem?_append_right (by omega), rng_get, rng_get, rng_len]
              rw [rng_len] at hi
              by_cases hk : (i : Int) ≤ x.getD 0 - a
              · rw [if_pos hk, if_pos (by omega)]
                congr 1
                omega
              · rw [if_neg hk, if_neg (by omega)]
          rw [hs, pr_app, rng_len, show (l - d + 1).toNat - (a + (l - d + 1) - 1 - a + 1).toNat = 0 by omega, pr_zero, List.append_nil]
        rw [if_neg hb, exp_cons, e, pr_app, rng_len, show (l - d + 1).toNat - (x.getD 0 - a + 1).toNat = 0 by omega, pr_zero, h2]
        rfl
    · rw [if_neg hd, show (l - d + 1).toNat = 0 by omega, pr_zero]
      rfl
/-! ### what was given back -/
noncomputable abbrev qB (g : Int → Bool) (term leave : Int) (n : Nat) : List (Int × Int) := (qS g term leave n).2
theorem qB_over {g : Int → Bool} {term leave : Int} {n : Nat} (h : Over g term n) : qB g term leave (n + 1) = qB g term leave n := by
  show (qS g term leave (n + 1)).2 = _
  rw [qS, if_pos h]
theorem qB_same {g : Int → Bool} {term leave : Int} {n : Nat} (h : ¬ Over g term n) (k : ¬ Over (fun x => !g x) leave n) : qB g term leave (n + 1) = qB g term leave n := by
  show (qS g term leave (n + 1)).2 = _
  rw [qS, if_neg h, if_neg k]
theorem qB_home {g : Int → Bool} {term leave : Int} {n : Nat} (t0 : 0 ≤ term) (l0 : 0 ≤ leave) (h : Over (fun x => !g x) leave n) : qB g term leave (n + 1) = qB g term leave n ++ ((qA g term leave n).head?.map fun a => (a, (n : Int))).toList := by
  show (qS g term leave (n + 1)).2 = _
  rw [qS, if_neg (fun k => over_not t0 l0 k h), if_pos h]
  show _ = (qS g term leave n).2 ++ ((qS g term leave n).1.head?.map fun a => (a, (n : Int))).toList
  cases (qS g term leave n).1 with
  | nil => exact (List.append_nil _).symm
  | cons a r => rfl
theorem qB_out {g : Int → Bool} {term leave : Int} {f : Nat} (t0 : 0 ≤ term) (l0 : 0 ≤ leave) : ∀ k : Nat, (∀ d, (f : Int) ≤ d → d < (f + k : Nat) → g d = true) → qB g term leave (f + k) = qB g term leave f
  | 0, _ => rfl
  | k + 1, h => by
    have ih := qB_out (leave := leave) t0 l0 k fun d h1 h2 => h d h1 (by omega)
    have nash : ¬ Over (fun x => !g x) leave ((f + k : Nat) : Int) := fun q => by
      have h2 : (!g ((f + k : Nat) : Int)) = true := q.2 _ (by omega) (Int.le_refl _)
      rw [h _ (by omega) (by omega)] at h2
      cases h2
    rw [show f + (k + 1) = (f + k) + 1 by omega]
    by_cases ho : Over g term ((f + k : Nat) : Int)
    · rw [qB_over ho, ih]
    · rw [qB_same ho nash, ih]
theorem qB_ash {g : Int → Bool} {term leave : Int} {f : Nat} (t0 : 0 ≤ term) (l0 : 0 ≤ leave) (hd : f = 0 ∨ g ((f : Int) - 1) = true) : ∀ k : Nat, (∀ d, (f : Int) ≤ d → d < (f + k : Nat) → g d = false) → qB g term leave (f + k) = qB g term leave f ++ pr (qA g term leave f) (f + leave) ((k : Int) - leave).toNat
  | 0, _ => by
    rw [show ((0 : Nat) - leave : Int).toNat = 0 by omega, pr_zero, List.append_nil]
    rfl
  | k + 1, h => by
    have hk : ∀ d, (f : Int) ≤ d → d < (f + k : Nat) → g d = false := fun d h1 h2 => h d h1 (by omega)
    have ih := qB_ash t0 l0 hd k hk
    have ia := qA_ash (term := term) (leave := leave) t0 l0 hd k hk
    have hno : ¬ Over g term ((f + k : Nat) : Int) := not_over_ash t0 (h _ (by omega) (by omega))
    rw [show f + (k + 1) = (f + k) + 1 by omega]
    by_cases ht : (f : Int) + leave ≤ (f + k : Nat)
    · have hov : Over (fun x => !g x) leave ((f + k : Nat) : Int) := ⟨by omega, fun x h1 h2 => by
        show (!g x) = true
        rw [h x (by omega) (by omega)]
        rfl⟩
      rw [qB_home t0 l0 hov, ih, ia, List.append_assoc, show ((k + 1 : Nat) - leave : Int).toNat = ((k : Int) - leave).toNat + 1 by omega, pr_snoc, show (f : Int) + leave + (((k : Int) - leave).toNat : Int) = ((f + k : Nat) : Int) by omega]
    · have nash : ¬ Over (fun x => !g x) leave ((f + k : Nat) : Int) := fun q => by
        rcases hd with e | e
        · have := q.1
          omega
        · have h2 : (!g ((f : Int) - 1)) = true := q.2 ((f : Int) - 1) (by omega) (by omega)
          rw [e] at h2
          cases h2
      rw [qB_same hno nash, ih, show ((k + 1 : Nat) - leave : Int).toNat = ((k : Int) - leave).toNat by omega]
/-- two that can't be told as one -/
def Apart (p q : Giv) : Prop := ¬ (q.1 = p.1 + p.2.2 ∧ q.2.1 = p.2.1 + p.2.2)
structure IsGiv (g : Int → Bool) (term leave : Int) (n : Nat) (qs : List Giv) : Prop where
  days : expG qs = qB g term leave n
  many : ∀ q ∈ qs, 1 ≤ q.2.2
  apart : qs.Pairwise Apart
  low : ∀ q ∈ qs, 0 ≤ q.2.1 ∧ q.2.1 + q.2.2 ≤ n ∧ g (q.2.1 + q.2.2 - 1) = false
theorem giveG_mem : ∀ {rows : List LD.Row} {d l : Int}, (∀ r ∈ rows, ∃ j, r.2 = some j ∧ r.1 ≤ j) → ∀ q ∈ giveG rows d l, 1 ≤ q.2.2 ∧ d ≤ q.2.1 ∧ q.2.1 + q.2.2 ≤ l + 1 ∧ ∃ r ∈ rows, r.1 = q.1
  | [], _, _, _, q, hq => by cases hq
  | (a, x) :: r, d, l, h, q, hq => by
    obtain ⟨j, ej, aj⟩ := h (a, x) List.mem_cons_self
    have ej : x = some j := ej
    subst ej
    have aj : a ≤ j := aj
    by_cases hd : d ≤ l
    · by_cases hb : j - a ≤ l - d
      · rw [(give_full hd hb).2] at hq
        rcases List.mem_cons.mp hq with e | e
        · rw [e]
          exact ⟨by show 1 ≤ j - a + 1; omega, Int.le_refl _, by show d + (j - a + 1) ≤ l + 1; omega, _, List.mem_cons_self, rfl⟩
        · obtain ⟨k1, k2, k3, r', k4, k5⟩ := giveG_mem (fun r' h' => h r' (List.mem_cons_of_mem _ h')) q e
          exact ⟨k1, by omega, k3, r', List.mem_cons_of_mem _ k4, k5⟩
      · rw [(give_part hd hb).2] at hq
        rw [List.mem_singleton.mp hq]
        exact ⟨by show 1 ≤ l - d + 1; omega, Int.le_refl _, by show d + (l - d + 1) ≤ l + 1; omega, _, List.mem_cons_self, rfl⟩
    · rw [(give_done hd).2] at hq
      cases hq
theorem giveG_apart : ∀ {rows : List LD.Row} {d l : Int}, LD.Asc rows → (∀ r ∈ rows, ∃ j, r.2 = some j ∧ r.1 ≤ j) → (giveG rows d l).Pairwise Apart
  | [], _, _, _, _ => List.Pairwise.nil
  | (a, x) :: r, d, l, h, hf => by
    obtain ⟨j, ej, aj⟩ := hf (a, x) List.mem_cons_self
    have ej : x = some j := ej
    subst ej
    have hr : ∀ r' ∈ r, ∃ j, r'.2 = some j ∧ r'.1 ≤ j := fun r' h' => hf r' (List.mem_cons_of_mem _ h')
    have pw := List.pairwise_cons.mp h.pw
    by_cases hd : d ≤ l
    · by_cases hb : j - a ≤ l - d
      · rw [(give_full hd hb).2]
        refine List.pairwise_cons.mpr ⟨fun q hq k => ?_, giveG_apart ⟨fun r' h' => h.ok r' (List.mem_cons_of_mem _ h'), pw.2⟩ hr⟩
        obtain ⟨_, _, _, r', k4, k5⟩ := giveG_mem hr q hq
        obtain ⟨i, e1, e2⟩ := pw.1 r' k4
        cases e1
        have k1 : q.1 = a + (j - a + 1) := k.1
        omega
      · rw [(give_part hd hb).2]
        exact List.pairwise_singleton _ _
    · rw [(give_done hd).2]
      exact List.Pairwise.nil
theorem IsGiv.out {g : Int → Bool} {term leave : Int} {f l : Nat} {qs : List Giv} (h : IsGiv g term leave f qs) (t0 : 0 ≤ term) (l0 : 0 ≤ leave) (fl : f ≤ l) (hg : ∀ d, (f : Int) ≤ d → d ≤ l → g d = true) : IsGiv g term leave (l + 1) qs := by
  have hq := qB_out (g := g) (term := term) (leave := leave) (f := f) t0 l0 (l + 1 - f) fun d h1 h2 => hg d h1 (by omega)
  rw [show f + (l + 1 - f) = l + 1 by omega] at hq
  exact ⟨by rw [h.days, hq], h.many, h.apart, fun q hq => ⟨(h.low q hq).1, by have := (h.low q hq).2.1; omega, (h.low q hq).2.2⟩⟩
theorem IsGiv.ash {g : Int → Bool} {term leave : Int} {f l : Nat} {qs : List Giv} {rows : List LD.Row} (h : IsGiv g term leave f qs) (I : IsOwed g term leave f rows) (t0 : 0 ≤ term) (l0 : 0 ≤ leave) (hd : f = 0 ∨ g ((f : Int) - 1) = true) (fl : f ≤ l) (hg : ∀ d, (f : Int) ≤ d → d ≤ l → g d = false) : IsGiv g term leave (l + 1) (qs ++ giveG rows (f + leave) l) := by
  have hq := qB_ash (g := g) (term := term) (f := f) t0 l0 hd (l + 1 - f) fun d h1 h2 => hg d h1 (by omega)
  rw [show f + (l + 1 - f) = l + 1 by omega] at hq
  have hr : ∀ r ∈ rows, ∃ j, r.2 = some j ∧ r.1 ≤ j := fun r hr => by
    obtain ⟨j, e⟩ := I.fin r hr
    exact ⟨j, e, (I.asc.ok r hr).2 j e⟩
  have gm := giveG_mem (d := (f : Int) + leave) (l := (l : Int)) hr
  refine ⟨?_, fun q hq => ?_, List.pairwise_append.mpr ⟨h.apart, giveG_apart I.asc hr, fun p hp q hq k => ?_⟩, fun q hq => ?_⟩
  · rw [exp_app, h.days, give_exp I.le, I.days, hq]
    congr 2
    omega
  · rcases List.mem_append.mp hq with hq | hq
    · exact h.many q hq
    · exact (gm q hq).1
  · obtain ⟨b0, b1, b2⟩ := h.low p hp
    obtain ⟨_, c1, _, _⟩ := gm q hq
    have k2 := k.2
    have e : p.2.1 + p.2.2 = (f : Int) := by omega
    rcases hd with z | z
    · have := h.many p hp
      omega
    · rw [show p.2.1 + p.2.2 - 1 = (f : Int) - 1 by omega, z] at b2
      cases b2
  · rcases List.mem_append.mp hq with hq | hq
    · exact ⟨(h.low q hq).1, by have := (h.low q hq).2.1; omega, (h.low q hq).2.2⟩
    · obtain ⟨c0, c1, c2, _⟩ := gm q hq
      exact ⟨by omega, by omega, hg _ (by omega) (by omega)⟩
/-! ### told as runs again -/
end LT
set_option Elab.async false
set_option linter.all false
set_option maxRecDepth 100000
set_option maxHeartbeats 1600000
set_option pp.maxSteps 300
namespace K74
open PySem PySem.Spec PyProof.Rows L2 LT NdefX LamX
section
variable {P : Program} {w : World} {K : PySem.W.Frag} {mg : Str → Option Value} {base : Heap}
theorem sc_days_behind : FnScope ["stretch", "many", "first"] ["stretch", "many"] (defScope s_days_behind) := ⟨rfl, rfl, rfl, by decide +kernel, rfl, by decide +kernel, by decide +kernel⟩
theorem ok_days_behind (D : All K P mg) : FnOk P w K mg base CX0 6 D.f_days_behind D.d_days_behind ["stretch", "many"] (spBehind D.C_Stretch) := by
  refine D.h_days_behind.fn.ok sc_days_behind (fun vs H Q E h => ?_) (fun cdv A outer s H vs Q E hr h => ?_)
  · first | (obtain ⟨_, rfl, _⟩ := h; rfl) | (obtain ⟨_, _, rfl, _⟩ := h; rfl) | (obtain ⟨_, _, _, rfl, _⟩ := h; rfl) | (obtain ⟨_, _, _, _, rfl, _⟩ := h; rfl) | (obtain ⟨_, _, _, _, _, rfl, _⟩ := h; rfl) | (obtain ⟨_, _, _, _, _, _, rfl, _⟩ := h; rfl) | (obtain ⟨_, _, _, _, _, _, _, rfl, _⟩ := h; rfl) | (obtain ⟨_, _, _, _, _, _, _, _, rfl, _⟩ := h; rfl) | (obtain ⟨_, _, _, _, _, _, _, _, _, rfl, _⟩ := h; rfl) | (obtain ⟨_, _, _, _, _, _, _, _, _, _, rfl, _⟩ := h; rfl) | (obtain ⟨_, _, _, _, _, _, _, _, _, _, _, rfl, _⟩ := h; rfl) | (obtain ⟨_, _, _, _, _, _, _, _, _, _, _, _, rfl, _⟩ := h; rfl) | (obtain ⟨_, _, _, _, _, _, _, _, _, _, _, _, _, rfl, _⟩ := h; rfl) | (obtain ⟨_, _, _, _, _, _, _, _, _, _, _, _, _, _, rfl, _⟩ := h; rfl) | (obtain ⟨_, _, _, _, _, _, _, _, _, _, _, _, _, _, _, rfl, _⟩ := h; rfl)
  · have T := D.T
    have nd := sc_days_behind.nd
    have hu := hr.units
    have hu1 := hu_of hr
    have hu0 := hr.units0
    obtain ⟨x, f, l, m, rfl, ⟨dx, hx⟩, f0, m0, q⟩ := h
    obtain ⟨_, v3_Stretch___init__, b3_Stretch___init__⟩ := D.q_Stretch___init__.binds1 (ps := ["self", "first", "last"]) 3 1 (by simp) (by rfl) (fun _ _ _ _ _ _ _ us its h1 h2 => match us, its, h1, h2 with | [_, _, _], [_], _, _ => ⟨_, rfl, rfl⟩)
    refine ⟨_, pss_cons (ps_set (i := 2) nd rfl (.inl rfl) (pe_op op_add (pe_meth0 (pv 0) D.Z_Stretch.cl D.h_Stretch_first.me (ok_Stretch_first D) (hr.mono (by decide)) D.h_Stretch_first.bd .nil pass0) (pv 1)))
      (pss_one (ps_ret (pe_ifExp (pt_cmpR op_le (pv 2) (pe_meth0 (pv 0) D.Z_Stretch.cl D.h_Stretch_last.me (ok_Stretch_last D) (hr.mono (by decide)) D.h_Stretch_last.bd .nil pass0) (nomark _)) (pe_lst (pa_cons (pe_make D.M_Stretch (ok_Stretch___init__ D) (hr.mono (by decide)) (by rfl) D.Z_Stretch.gl b3_Stretch___init__ v3_Stretch___init__ pass0 (pa_cons (pv 2) (pa_cons (pe_meth0 (pv 0) D.Z_Stretch.cl D.h_Stretch_last.me (ok_Stretch_last D) (hr.mono (by decide)) D.h_Stretch_last.bd .nil pass0) pa_nil))) pa_nil)) (pe_lst pa_nil)))), ?_⟩
    refine ⟨_, rfl, x, dx, _, rfl, hx, rfl, x, f, some l, rfl, ⟨dx, hx⟩, _, rfl, _, _, rfl, rfl, ?_⟩
    refine ⟨_, rfl, _, rfl, x, dx, _, rfl, hx, rfl, x, f, some l, rfl, ⟨dx, hx⟩, f + m, l, rfl, rfl, ?_⟩
    unfold behindF at q
    by_cases hfl : f + m ≤ l
    · rw [if_pos hfl] at q
      refine ⟨_, congrArg V.bl (decide_eq_true hfl), iteT ?_⟩
      refine ⟨_, rfl, _, rfl, x, dx, _, rfl, hx, rfl, x, f, some l, rfl, ⟨dx, hx⟩, fun y dy ny ndy ney => ?_⟩
      have sm := same_made (C := D.C_Stretch) (o := .ins D.C_Stretch dy []) ny ndy
      refine ⟨y, dy, f + m, some l, rfl, upd_same, by omega, fun e he => by cases he; exact hfl, fun H1 st sb => ⟨rfl, ?_⟩⟩
      have s1 := sameB_new ny sm sb
      refine ⟨by show 1 ≤ sizeLine; decide, fun N nN => ?_⟩
      have s2 := same_upd (o := .lst [V.ref y]) nN
      have eN := upd_same (H := H1) (a := N) (o := .lst [V.ref y])
      generalize upd H1 N (.lst [V.ref y]) = H2 at *
      exact q N H2 (s1.free nN) ⟨[y], eN, .cons (st.mono s2) .nil⟩ (s1.trans s2)
    · rw [if_neg hfl] at q
      refine ⟨_, congrArg V.bl (decide_eq_false hfl), iteF ?_⟩
      refine ⟨by show 0 ≤ sizeLine; decide, fun N nN => ?_⟩
      have s2 := same_upd (o := .lst []) nN
      have eN := upd_same (H := H) (a := N) (o := .lst [])
      generalize upd H N (.lst []) = H2 at *
      exact q N H2 nN ⟨[], eN, .nil⟩ s2
theorem sc_spells : FnScope ["book", "keeper", "day", "known", "changes", "found", "place", "stretch", "out", "spell"] ["book", "keeper", "day", "known"] (defScope s_spells) := ⟨rfl, rfl, rfl, by decide +kernel, rfl, by decide +kernel, by decide +kernel⟩
theorem ok_spells (D : All K P mg) : FnOk P w K mg base CX0 8 D.f_spells D.d_spells ["book", "keeper", "day", "known"] (spSpells D.C_Book D.C_History D.C_Stretch) := by
  refine D.h_spells.fn.ok sc_spells (fun vs H Q E h => ?_) (fun cdv A outer s H vs Q E hr h => ?_)
  · first | (obtain ⟨_, rfl, _⟩ := h; rfl) | (obtain ⟨_, _, rfl, _⟩ := h; rfl) | (obtain ⟨_, _, _, rfl, _⟩ := h; rfl) | (obtain ⟨_, _, _, _, rfl, _⟩ := h; rfl) | (obtain ⟨_, _, _, _, _, rfl, _⟩ := h; rfl) | (obtain ⟨_, _, _, _, _, _, rfl, _⟩ := h; rfl) | (obtain ⟨_, _, _, _, _, _, _, rfl, _⟩ := h; rfl) | (obtain ⟨_, _, _, _, _, _, _, _, rfl, _⟩ := h; rfl) | (obtain ⟨_, _, _, _, _, _, _, _, _, rfl, _⟩ := h; rfl) | (obtain ⟨_, _, _, _, _, _, _, _, _, _, rfl, _⟩ := h; rfl) | (obtain ⟨_, _, _, _, _, _, _, _, _, _, _, rfl, _⟩ := h; rfl) | (obtain ⟨_, _, _, _, _, _, _, _, _, _, _, _, rfl, _⟩ := h; rfl) | (obtain ⟨_, _, _, _, _, _, _, _, _, _, _, _, _, rfl, _⟩ := h; rfl) | (obtain ⟨_, _, _, _, _, _, _, _, _, _, _, _, _, _, rfl, _⟩ := h; rfl) | (obtain ⟨_, _, _, _, _, _, _, _, _, _, _, _, _, _, _, rfl, _⟩ := h; rfl)
  · have T := D.T
    have nd := sc_spells.nd
    have hu := hr.units
    have hu1 := hu_of hr
    have hu0 := hr.units0
    obtain ⟨b, rk, es, fp, z, day, kn, rfl, W, hz, hl, hk, d0, q⟩ := h
    obtain ⟨_, v3_turns, b3_turns⟩ := D.q_turns.binds1 (ps := ["book", "keeper", "known"]) 3 1 (by simp) (by rfl) (fun _ _ _ _ _ _ _ us its h1 h2 => match us, its, h1, h2 with | [_, _, _], [_], _, _ => ⟨_, rfl, rfl⟩)
    obtain ⟨_, v3_Stretch___init__, b3_Stretch___init__⟩ := D.q_Stretch___init__.binds1 (ps := ["self", "first", "last"]) 3 1 (by simp) (by rfl) (fun _ _ _ _ _ _ _ us its h1 h2 => match us, its, h1, h2 with | [_, _, _], [_], _, _ => ⟨_, rfl, rfl⟩)
    refine ⟨_, pss_cons (ps_setLc (i := 4) (own := [("place", 6), ("stretch", 7)]) (g := gTup K 2 (gCons (gName 6) (gCons (gName 7) gNil))) (tt := tYes) rfl nd rfl rfl (sw_true rfl rfl rfl (by decide +kernel)) (pi_list (pe_call (ok_turns D) (hr.mono (by decide)) (by rfl) D.gl_turns D.kp_turns b3_turns v3_turns pass0 (pa_cons (pv 0) (pa_cons (pv 1) (pa_cons (pv 3) pa_nil))))) (blkOk_by (N := ["book", "keeper", "day", "known", "changes", "found", "place", "stretch", "out", "spell"]) (sc := defScope s_spells) (by decide +kernel)) (fun _ _ _ _ _ => (pg_tup rfl (pgs_cons (pg_name (i := 6) nd rfl (Or.inl rfl)) (pgs_cons (pg_name (i := 7) nd rfl (Or.inl rfl)) pgs_nil)))) (fun _ _ _ _ _ => pts_nil) (fun _ _ _ _ _ => (pe_tup (pa_cons (pe_meth0 (pv 7) D.Z_Stretch.cl D.h_Stretch_first.me (ok_Stretch_first D) (hr.mono (by decide)) D.h_Stretch_first.bd .nil pass0) (pa_cons (pe_cmpR op_ne (pv 6) (pe_glob (v := .str (Str.ofString "")) (by rfl) D.g_ASHORE ⟨_, rfl⟩) (nomark _)) pa_nil)))))
      (pss_cons (ps_setLc (i := 5) (own := [("out", 8), ("spell", 9)]) (g := gTup K 2 (gCons (gName 8) (gCons (gName 9) gNil))) rfl nd rfl rfl (sw_true rfl rfl rfl (by decide +kernel)) (pi_list (pe_call (ok_runs_of D) (hr.mono (by decide)) (by rfl) D.h_runs_of.gl D.h_runs_of.fn.kp D.h_runs_of.bd .nil pass0 (pa_cons pe_bl (pa_cons (pv 4) pa_nil)))) (blkOk_by (N := ["book", "keeper", "day", "known", "changes", "found", "place", "stretch", "out", "spell"]) (sc := defScope s_spells) (by decide +kernel)) (fun _ _ _ _ _ => (pg_tup rfl (pgs_cons (pg_name (i := 8) nd rfl (Or.inl rfl)) (pgs_cons (pg_name (i := 9) nd rfl (Or.inl rfl)) pgs_nil)))) (fun _ _ _ _ _ => pts_one (pt_cmpR op_le (pe_meth0 (pv 9) D.Z_Stretch.cl D.h_Stretch_first.me (ok_Stretch_first D) (hr.mono (by decide)) D.h_Stretch_first.bd .nil pass0) (pv 2) (nomark _))) (fun _ _ _ _ _ => (pe_tup (pa_cons (pv 8) (pa_cons (pv 9) pa_nil)))))
      (pss_one (ps_ret (pe_lc (own := [("out", 8), ("spell", 9)]) (g := gTup K 2 (gCons (gName 8) (gCons (gName 9) gNil))) (tt := tYes) rfl nd (pi_list (pv 5)) (blkOk_by (N := ["book", "keeper", "day", "known", "changes", "found", "place", "stretch", "out", "spell"]) (sc := defScope s_spells) (by decide +kernel)) (fun _ _ _ _ _ => (pg_tup rfl (pgs_cons (pg_name (i := 8) nd rfl (Or.inl rfl)) (pgs_cons (pg_name (i := 9) nd rfl (Or.inl rfl)) pgs_nil)))) (fun _ _ _ _ _ => pts_nil) (fun _ _ _ _ _ => (pe_tup (pa_cons (pv 8) (pa_cons (pe_make D.M_Stretch (ok_Stretch___init__ D) (hr.mono (by decide)) (by rfl) D.Z_Stretch.gl b3_Stretch___init__ v3_Stretch___init__ pass0 (pa_cons (pe_meth0 (pv 9) D.Z_Stretch.cl D.h_Stretch_first.me (ok_Stretch_first D) (hr.mono (by decide)) D.h_Stretch_first.bd .nil pass0) (pa_cons (pe_call (ok_earlier_end D) (hr.mono (by decide)) (by rfl) D.h_earlier_end.gl D.h_earlier_end.fn.kp D.h_earlier_end.bd .nil pass0 (pa_cons (pe_meth0 (pv 9) D.Z_Stretch.cl D.h_Stretch_last.me (ok_Stretch_last D) (hr.mono (by decide)) D.h_Stretch_last.bd .nil pass0) (pa_cons (pv 2) pa_nil))) pa_nil))) pa_nil)))))))), ?_⟩
    have evok := W.ev.2.2
    have e0 : ∀ e ∈ es, 0 ≤ e.day := fun e he => (evok e he).d0
    refine ⟨_, rfl, _, rfl, _, rfl, b, rk, es, fp, z, kn, rfl, W, hz, hl, hk, fun l1 L H1 nl1 hL ll ra s1 => ?_⟩
    have R1 := turns_ok hL e0
    have n1 := turns_len (L := L) (s := .str (Str.ofString ""))
    have rv : ∀ r ∈ runF (begF (.str (Str.ofString "")) L), ∃ y : Str, r.1 = .str y := fun r hr => by
      rcases turns_vals r hr with h | ⟨y, hy, h⟩
      · exact ⟨_, h⟩
      · obtain ⟨v, hv, _⟩ := hold_str evok hL y hy
        exact ⟨v, h.symm.trans hv⟩
    generalize runF (begF (.str (Str.ofString "")) L) = rs1 at *
    obtain ⟨ts1, el1, ht1⟩ := ra
    have t1 := Paired.length ht1
    refine ⟨l1, rfl, ⟨_, SqL.of el1⟩, fun F nF => ?_⟩
    refine lc_list (K := K) (a := l1) (xs := ts1.map V.ref) (fun i H' => Same H1 H' ∧ ∃ us : List Addr, H' F = some (.lst (us.map V.ref)) ∧ RowsP H' us ((rs1.take i).map fun r => (rFi r, V.bl (!decide (r.1 = .str (Str.ofString "")))))) ⟨same_upd nF, [], upd_same, .nil⟩ (fun i H' _ ⟨s, _⟩ => SqL.of (s _ _ el1)) ?_ ?_
    · rintro i x H2 hx ⟨s2, us, eF, hus⟩
      obtain ⟨t, r, rfl, hr, ⟨sx, ht, dx, hsx⟩⟩ := pick_at ht1 hx
      obtain ⟨y, hy⟩ := rv r (List.mem_of_getElem? hr)
      have il := (List.getElem?_eq_some_iff.mp hr).1
      have hx2 := s2 _ _ hsx
      refine ⟨t, _, rfl, SqT.of (s2 _ _ ht), rfl, _, _, rfl, _, _, rfl, rfl, rfl, ?_⟩
      refine ⟨_, rfl, sx, dx, _, rfl, hx2, rfl, sx, _, _, rfl, ⟨dx, hx2⟩, ?_⟩
      refine ⟨_, rfl, by rw [hy]; rfl, by show 2 ≤ sizeLine; decide, fun T nT => ?_⟩
      have hT := upd_same (H := H2) (a := T) (o := .tup [V.int (rFi r), V.bl (!decide (r.1 = .str (Str.ofString "")))])
      have s3 := same_upd (o := .tup [V.int (rFi r), V.bl (!decide (r.1 = .str (Str.ofString "")))]) nT
      have e5 := s3 _ _ eF
      refine ⟨_, e5, by
        rw [List.length_map, Paired.length hus, List.length_map, List.length_take]
        exact small2k (by omega), same_put nF (s2.trans s3), us ++ [T], ?_, ?_⟩
      · rw [upd_same, List.map_append]
        rfl
      · rw [take_snoc hr, List.map_append]
        exact (RowsP.upd (paired_snoc' (paired_imp (fun _ _ h => s3 _ _ h) hus) hT) e5)
    rintro H2 ⟨s2, us, eF, hus⟩
    rw [List.length_map, t1, List.take_length, out_changes R1] at hus
    have up : (rs1.map rFi).Pairwise (· ≤ ·) := (cov_up R1.cov).1.imp fun h => Int.le_of_lt h
    have R2 := out_runs R1
    have n2 := turns_len (L := chG (outV es z kn) (rs1.map rFi)) (s := .bl false)
    have cl : (chG (outV es z kn) (rs1.map rFi)).length ≤ 61 := by
      unfold chG
      rw [List.length_map, List.length_map]
      omega
    refine ⟨_, rfl, .bl false, F, _, rfl, ⟨us, eF, hus⟩, chG_up up, fun x hx => ?_, scal_bl ⟨_, rfl⟩ fun x hx => ?_, by omega, fun l3 H3 nl3 ra3 s3 => ?_⟩
    · unfold chG at hx
      obtain ⟨d, hd, rfl⟩ := List.mem_map.mp hx
      obtain ⟨r, hr, rfl⟩ := List.mem_map.mp hd
      exact (cov_up R1.cov).2 r hr
    · unfold chG at hx
      obtain ⟨d, hd, rfl⟩ := List.mem_map.mp hx
      exact ⟨_, rfl⟩
    have rv2 : ∀ r ∈ runF (begF (.bl false) (chG (outV es z kn) (rs1.map rFi))), ∃ x : Bool, r.1 = .bl x := fun r hr => by
      rcases turns_vals r hr with h | ⟨y, hy, h⟩
      · exact ⟨_, h⟩
      · unfold chG at hy
        obtain ⟨d, hd, rfl⟩ := List.mem_map.mp hy
        exact ⟨_, h.symm⟩
    generalize runF (begF (.bl false) (chG (outV es z kn) (rs1.map rFi))) = rs at *
    have rl : rs.length ≤ 62 := by omega
    obtain ⟨ts, el, hts⟩ := ra3
    have tl : ts.length = rs.length := Paired.length hts
    refine ⟨l3, rfl, ⟨_, SqL.of el⟩, fun G nG => ?_⟩
    refine lc_list (K := K) (a := l3) (xs := ts.map V.ref) (fun i H' => Same H3 H' ∧ ∃ us : List Addr, H' G = some (.lst (us.map V.ref)) ∧ Paired (RunT D.C_Stretch H') us ((rs.take i).filter fun r => decide (rFi r ≤ day))) ⟨same_upd nG, [], upd_same, .nil⟩ (fun i H' _ ⟨s, _⟩ => SqL.of (s _ _ el)) ?_ ?_
    · rintro i x H4 hx ⟨s4, vs, eG, hvs⟩
      obtain ⟨t, r, rfl, hr, ⟨sx, ht, dx, hsx⟩⟩ := pick_at hts hx
      have il := (List.getElem?_eq_some_iff.mp hr).1
      have hx2 := s4 _ _ hsx
      refine ⟨t, _, rfl, SqT.of (s4 _ _ ht), rfl, _, _, rfl, _, _, rfl, rfl, rfl, ?_⟩
      refine ⟨_, rfl, sx, dx, _, rfl, hx2, rfl, sx, _, _, rfl, ⟨dx, hx2⟩, _, rfl, _, _, rfl, rfl, _, rfl, ?_⟩
      have hle : ((rs.take i).filter fun r => decide (rFi r ≤ day)).length ≤ i := by
        have := List.length_filter_le (fun r : LT.Run => decide (rFi r ≤ day)) (rs.take i)
        rw [List.length_take] at this
        omega
      refine ite2 (fun hb => ?_) (fun hb => ?_)
      · have hd : rFi r ≤ day := of_decide_eq_true hb
        refine ⟨_, rfl, _, rfl, by show 2 ≤ sizeLine; decide, fun T nT => ?_⟩
        have s5 := same_upd (o := .tup [r.1, V.ref sx]) nT
        have eT := upd_same (H := H4) (a := T) (o := .tup [r.1, V.ref sx])
        generalize upd H4 T (.tup [r.1, V.ref sx]) = H5 at *
        have eG5 := s5 _ _ eG
        refine ⟨_, eG5, by rw [List.length_map, Paired.length hvs]; exact small2k (by omega), same_put nG (s4.trans s5), vs ++ [T], ?_, ?_⟩
        · rw [upd_same, List.map_append]
          rfl
        · rw [take_snoc hr, List.filter_append, List.filter_cons_of_pos (by show decide (rFi r ≤ day) = true; exact decide_eq_true hd), List.filter_nil]
          exact paired_snoc' (paired_imp (fun _ _ h => (h.mono s5).upd eG5) hvs) (RunT.upd ⟨sx, eT, ⟨dx, s5 _ _ hx2⟩⟩ eG5)
      · have hd : ¬ rFi r ≤ day := fun e => hb (decide_eq_true e)
        refine ⟨s4, vs, eG, ?_⟩
        rw [take_snoc hr, List.filter_append, List.filter_cons_of_neg (by show ¬ decide (rFi r ≤ day) = true; rw [decide_eq_false hd]; nofun), List.filter_nil, List.append_nil]
        exact hvs
    rintro H4 ⟨s4, vs, eG, hvs⟩
    rw [List.length_map, tl, List.take_length] at hvs
    have fl : (rs.filter fun r => decide (rFi r ≤ day)).length ≤ 62 := Nat.le_trans (List.length_filter_le _ _) rl
    have vl : vs.length = (rs.filter fun r => decide (rFi r ≤ day)).length := Paired.length hvs
    refine ⟨_, rfl, G, rfl, ⟨_, SqL.of eG⟩, fun Z nZ => ?_⟩
    have s04 := s1.trans (s2.trans (s3.trans s4))
    refine lc_list (K := K) (a := G) (xs := vs.map V.ref) (fun i H' => Same H4 H' ∧ ∃ us : List Addr, H' Z = some (.lst (us.map V.ref)) ∧ Paired (RunT D.C_Stretch H') us (((rs.filter fun r => decide (rFi r ≤ day)).take i).map fun r => (r.1, r.2.1, some (cutL r.2.2 day)))) ⟨same_upd nZ, [], upd_same, .nil⟩ (fun i H' _ ⟨s, _⟩ => SqL.of (s _ _ eG)) ?_ ?_
    · rintro i x H5 hx ⟨s5, us, eZ, hus⟩
      obtain ⟨t, r, rfl, hr, ⟨sx, ht, dx, hsx⟩⟩ := pick_at hvs hx
      have il := (List.getElem?_eq_some_iff.mp hr).1
      have hm := List.mem_filter.mp (List.mem_of_getElem? hr)
      have hfd : rFi r ≤ day := of_decide_eq_true hm.2
      have hf0 : 0 ≤ rFi r := (cov_up R2.cov).2 r hm.1
      have hx2 := s5 _ _ hsx
      refine ⟨t, _, rfl, SqT.of (s5 _ _ ht), rfl, _, _, rfl, _, _, rfl, rfl, rfl, ?_⟩
      have hla : ∀ e, rLa r = some e → rFi r ≤ e := fun e he => (R2.cov.le r hm.1).2 e he
      refine ⟨_, rfl, _, rfl, sx, dx, _, rfl, hx2, rfl, sx, _, _, rfl, ⟨dx, hx2⟩, _, rfl, sx, dx, _, rfl, hx2, rfl, sx, _, _, rfl, ⟨dx, hx2⟩, _, rfl, rLa r, some day, rfl, ?_⟩
      rw [cutL_min]
      have hcut : rFi r ≤ cutL (rLa r) day := by
        cases e : rLa r with
        | none => exact hfd
        | some k =>
          have := hla k e
          show rFi r ≤ if day < k then day else k
          split <;> omega
      have eZ5 := eZ
      refine fun y dy ny ndy ney => ?_
      have sm := same_made (C := D.C_Stretch) (o := .ins D.C_Stretch dy []) ny ndy
      refine ⟨y, dy, rFi r, some (cutL (rLa r) day), rfl, upd_same, hf0, fun e he => by cases he; exact hcut, fun H6 st sb => ⟨rfl, ?_⟩⟩
      have s6 := sameB_new ny sm sb
      refine ⟨by show 2 ≤ sizeLine; decide, fun T nT => ?_⟩
      have s7 := same_upd (o := .tup [r.1, V.ref y]) nT
      have eT := upd_same (H := H6) (a := T) (o := .tup [r.1, V.ref y])
      generalize upd H6 T (.tup [r.1, V.ref y]) = H7 at *
      have s57 := s6.trans s7
      have eZ7 := s57 _ _ eZ
      refine ⟨_, eZ7, by
        rw [List.length_map, Paired.length hus, List.length_map, List.length_take]
        exact small2k (by omega), same_put nZ (s5.trans s57), us ++ [T], ?_, ?_⟩
      · rw [upd_same, List.map_append]
        rfl
      · rw [take_snoc hr, List.map_append]
        exact paired_snoc' (paired_imp (fun _ _ h => (h.mono s57).upd eZ7) hus) (RunT.upd ⟨y, eT, st.mono s7⟩ eZ7)
    · rintro H5 ⟨s5, us, eZ, hus⟩
      rw [List.length_map, vl, List.take_length] at hus
      exact q Z rs H5 (s04.free nZ) R2 rl ⟨us, eZ, hus⟩ (s04.trans s5)
end
end K74
set_option Elab.async false
set_option linter.all false
set_option maxRecDepth 100000
set_option maxHeartbeats 1600000
set_option pp.maxSteps 300
namespace K74
open PySem PySem.Spec PyProof.Rows L2 LT NdefX LamX
section
variable {P : Program} {w : World} {K : PySem.W.Frag} {mg : Str → Option Value} {base : Heap}
theorem sc_given_back : FnScope ["owed", "free", "given", "rest", "day", "oldest", "many"] ["owed", "free", "given"] (defScope s_given_back) := ⟨rfl, rfl, rfl, by decide +kernel, rfl, by decide +kernel, by decide +kernel⟩
theorem ok_given_back (D : All K P mg) : FnOk P w K mg base CX0 7 D.f_given_back D.d_given_back ["owed", "free", "given"] (spGiveB D.C_Stretch) := by
  refine D.h_given_back.fn.ok sc_given_back (fun vs H Q E h => ?_) (fun cdv A outer s H vs Q E hr h => ?_)
  · first | (obtain ⟨_, rfl, _⟩ := h; rfl) | (obtain ⟨_, _, rfl, _⟩ := h; rfl) | (obtain ⟨_, _, _, rfl, _⟩ := h; rfl) | (obtain ⟨_, _, _, _, rfl, _⟩ := h; rfl) | (obtain ⟨_, _, _, _, _, rfl, _⟩ := h; rfl) | (obtain ⟨_, _, _, _, _, _, rfl, _⟩ := h; rfl) | (obtain ⟨_, _, _, _, _, _, _, rfl, _⟩ := h; rfl) | (obtain ⟨_, _, _, _, _, _, _, _, rfl, _⟩ := h; rfl) | (obtain ⟨_, _, _, _, _, _, _, _, _, rfl, _⟩ := h; rfl) | (obtain ⟨_, _, _, _, _, _, _, _, _, _, rfl, _⟩ := h; rfl) | (obtain ⟨_, _, _, _, _, _, _, _, _, _, _, rfl, _⟩ := h; rfl) | (obtain ⟨_, _, _, _, _, _, _, _, _, _, _, _, rfl, _⟩ := h; rfl) | (obtain ⟨_, _, _, _, _, _, _, _, _, _, _, _, _, rfl, _⟩ := h; rfl) | (obtain ⟨_, _, _, _, _, _, _, _, _, _, _, _, _, _, rfl, _⟩ := h; rfl) | (obtain ⟨_, _, _, _, _, _, _, _, _, _, _, _, _, _, _, rfl, _⟩ := h; rfl)
  · have T := D.T
    have nd := sc_given_back.nd
    have hu := hr.units
    have hu1 := hu_of hr
    have hu0 := hr.units0
    obtain ⟨o, x, G, rows, f, l, qs, rfl, ⟨xs, eo, hxs⟩, ⟨dx, hx⟩, ⟨gs, eG, hgs⟩, f0, hr0, rl, ql, noG, q⟩ := h
    refine ⟨_, pss_cons (ps_set (i := 3) nd rfl (.inl rfl) (pe_callTy call_list_of (by rfl) T.list (by decide +kernel) (pa_cons (pv 0) pa_nil)))
      (pss_cons (ps_set (i := 4) nd rfl (.inl rfl) (pe_meth0 (pv 1) D.Z_Stretch.cl D.h_Stretch_first.me (ok_Stretch_first D) (hr.mono (by decide)) D.h_Stretch_first.bd .nil pass0))
      (pss_cons (ps_while PassesOwn.never (PW.pt (pw_and (show PT _ _ (tTru K (tVar 3)) from pt_truth (pv 3) (by intro _; rfl)) (pw_and1 (pt_cmpR op_le (pv 4) (pe_meth0 (pv 1) D.Z_Stretch.cl D.h_Stretch_last.me (ok_Stretch_last D) (hr.mono (by decide)) D.h_Stretch_last.bd .nil pass0) (nomark _))))) (pss_cons (ps_set (i := 5) nd rfl (.inl rfl) (pe_ix ix_list (pv 3) pe_int (fun _ _ => rfl)))
      (pss_cons (ps_set (i := 6) nd rfl (.inl rfl) (pe_op op_add (pe_callB (call_min2 rfl) (by rfl) T.min (by decide +kernel) (pa_cons (pe_op op_sub (pe_meth0 (pv 5) D.Z_Stretch.cl D.h_Stretch_last.me (ok_Stretch_last D) (hr.mono (by decide)) D.h_Stretch_last.bd .nil pass0) (pe_meth0 (pv 5) D.Z_Stretch.cl D.h_Stretch_first.me (ok_Stretch_first D) (hr.mono (by decide)) D.h_Stretch_first.bd .nil pass0)) (pa_cons (pe_op op_sub (pe_meth0 (pv 1) D.Z_Stretch.cl D.h_Stretch_last.me (ok_Stretch_last D) (hr.mono (by decide)) D.h_Stretch_last.bd .nil pass0) (pv 4)) pa_nil))) pe_int))
      (pss_cons (ps_expr (pe_bm PySem.F.plainAttrs_list PySem.F.slot_list_append PySem.F.type_list_append mt_append (pv 2) (pa_cons (pe_tup (pa_cons (pe_meth0 (pv 5) D.Z_Stretch.cl D.h_Stretch_first.me (ok_Stretch_first D) (hr.mono (by decide)) D.h_Stretch_first.bd .nil pass0) (pa_cons (pv 4) (pa_cons (pv 6) pa_nil)))) pa_nil)))
      (pss_cons (ps_set (i := 3) nd rfl (.inl rfl) (pe_op op_cat (pe_call (ok_days_behind D) (hr.mono (by decide)) (by rfl) D.h_days_behind.gl D.h_days_behind.fn.kp D.h_days_behind.bd .nil pass0 (pa_cons (pv 5) (pa_cons (pv 6) pa_nil))) (pe_slice sl_list (pv 3) (po_some pe_int) po_none)))
      (pss_one (ps_aug (i := 4) nd rfl (.inl rfl) (pv 6) ip_add)))))))
      (pss_one (ps_ret (pv 3))))), ?_⟩
    have xl : xs.length = rows.length := Paired.length hxs
    have gl : gs.length = qs.length := Paired.length hgs
    refine ⟨_, rfl, o, _, rfl, .inl (SqL.of eo), fun R nR => ?_⟩
    have s1 := same_upd (o := .lst (xs.map V.ref)) nR
    have eR := upd_same (H := H) (a := R) (o := .lst (xs.map V.ref))
    generalize upd H R (.lst (xs.map V.ref)) = H1 at *
    refine ⟨_, rfl, x, dx, _, rfl, s1 _ _ hx, rfl, x, _, _, rfl, ⟨dx, s1 _ _ hx⟩, ?_⟩
    have xG : x ≠ G := ne_of hx eG (by intro z; cases z)
    refine ⟨fun m σ H' => ∃ (R' : Addr) (cur : List LD.Row) (ys : List Addr) (d : Int) (ts : List Addr) (done : List Giv) (x5 x6 : Option V), m = 2 * cur.length + (if d ≤ l then 1 else 0) ∧ σ = [some (.ref o), some (.ref x), some (.ref G), some (.ref R'), some (.int d), x5, x6] ∧ H R' = none ∧ H' R' = some (.lst (ys.map V.ref)) ∧ Paired (fun x (p : Part) => StrAt D.C_Stretch H' x p.1 p.2) ys cur ∧ SameB G H H' ∧ H' G = some (.lst (ts.map V.ref)) ∧ Paired (GivT H') ts (qs ++ done) ∧ 0 ≤ d ∧ (∀ r ∈ cur, ∃ j, r.2 = some j ∧ 0 ≤ r.1 ∧ r.1 ≤ j) ∧ cur.length + done.length ≤ rows.length + 1 ∧ (d ≤ l → cur.length + done.length ≤ rows.length) ∧ giveF cur d l = giveF rows f l ∧ done ++ giveG cur d l = giveG rows f l,
      ⟨_, R, rows, xs, f, gs, [], none, none, rfl, rfl, nR, eR, paired_imp (fun _ _ h => h.mono s1) hxs, SameB.of s1, s1 _ _ eG, by rw [List.append_nil]; exact paired_imp (fun _ _ h => s1 _ _ h) hgs, f0, hr0, by show rows.length + 0 ≤ _; omega, fun _ => by show rows.length + 0 ≤ _; omega, rfl, rfl⟩, ?_⟩
    rintro m σ H2 ⟨R', cur, ys, d, ts, done, x5, x6, rfl, rfl, nR', eR', hys, s2, eG2, hts, d0, hc, ln, ln2, e1, e2⟩
    have yl : ys.length = cur.length := Paired.length hys
    have nRG : R' ≠ G := (ne_of_none eG nR').symm
    have hx2 : H2 x = some (.ins D.C_Stretch dx [("first_day", .int f), ("last_day", knV (some l))]) := s2 _ _ xG hx
    have fin : ∀ H3, H3 = H2 → (∀ k : Bool, k = true → d ≤ l → cur = []) → giveF cur d l = cur ∧ giveG cur d l = [] → Q (.ref R') H2 := fun _ _ _ he => by
      rw [he.1] at e1
      rw [he.2, List.append_nil] at e2
      refine q R' H2 nR' ⟨ys, eR', ?_⟩ ⟨ts, eG2, ?_⟩ s2
      · rw [← e1]
        exact hys
      · rw [← e2]
        exact hts
    cases cur with
    | nil =>
      have y0 : ys = [] := List.eq_nil_of_length_eq_zero yl
      subst y0
      refine ⟨_, rfl, false, .inl ⟨_, SqL.of eR', rfl⟩, iteF (iteF ⟨_, rfl, fin H2 rfl (fun _ _ _ => rfl) ⟨rfl, rfl⟩⟩)⟩
    | cons r cur =>
      obtain ⟨y, ys', ey⟩ : ∃ y ys', ys = y :: ys' := by
        cases ys with
        | nil => cases yl
        | cons y ys' => exact ⟨y, ys', rfl⟩
      subst ey
      obtain ⟨j, ej, a0, aj⟩ := hc r List.mem_cons_self
      obtain ⟨a, la⟩ := r
      have ej : la = some j := ej
      subst ej
      have a0 : 0 ≤ a := a0
      have aj : a ≤ j := aj
      refine ⟨_, rfl, true, .inl ⟨_, SqL.of eR', rfl⟩, iteT ⟨_, rfl, _, rfl, x, dx, _, rfl, hx2, rfl, x, _, _, rfl, ⟨dx, hx2⟩, _, _, rfl, rfl, ?_⟩⟩
      by_cases hd : d ≤ l
      · refine ⟨_, congrArg V.bl (decide_eq_true hd), iteT ?_⟩
        obtain ⟨⟨dy, hy⟩, hys'⟩ : StrAt D.C_Stretch H2 y a (some j) ∧ Paired (fun x (p : Part) => StrAt D.C_Stretch H2 x p.1 p.2) ys' cur := by
          cases hys with
          | cons h k => exact ⟨h, k⟩
        have nyG : y ≠ G := ne_of hy eG2 (by intro z; cases z)
        refine ⟨_, fun σ' H' h => h, ?_⟩
        refine ⟨_, rfl, R', _, 0, _, rfl, rfl, SqL.of eR', atI_nat (j := 0) rfl, ?_⟩
        refine ⟨_, rfl, y, dy, _, rfl, hy, rfl, y, _, _, rfl, ⟨dy, hy⟩, _, rfl, y, dy, _, rfl, hy, rfl, y, _, _, rfl, ⟨dy, hy⟩, _, _, rfl, rfl, _, rfl, x, dx, _, rfl, hx2, rfl, x, _, _, rfl, ⟨dx, hx2⟩, _, rfl, _, _, rfl, rfl, _, _, rfl, _, _, rfl, rfl, ?_⟩
        dsimp (config := { proj := false, iota := false }) only
        generalize hM : (if l - d < j - a then l - d else j - a) + 1 = M
        have M1 : 1 ≤ M := by
          rw [← hM]
          split <;> omega
        have key : (behindF a j M ++ cur).length ≤ cur.length + 1 ∧ (2 * (behindF a j M ++ cur).length + (if d + M ≤ l then 1 else 0) < 2 * (cur.length + 1) + 1) ∧ giveF (behindF a j M ++ cur) (d + M) l = giveF ((a, some j) :: cur) d l ∧ (a, d, M) :: giveG (behindF a j M ++ cur) (d + M) l = giveG ((a, some j) :: cur) d l ∧ (d + M ≤ l → (behindF a j M ++ cur).length ≤ cur.length) := by
          by_cases hb : j - a ≤ l - d
          · have eM : M = j - a + 1 := by
              rw [← hM, if_neg (by omega)]
            have e0 : behindF a j M = [] := if_neg (by omega)
            obtain ⟨g1, g2⟩ := give_full (r := cur) hd hb
            rw [e0, g1, g2, eM, List.nil_append]
            refine ⟨Nat.le_succ _, ?_, rfl, rfl, fun _ => Nat.le_refl _⟩
            split <;> omega
          · have eM : M = l - d + 1 := by
              rw [← hM, if_pos (by omega)]
            have e0 : behindF a j M = [(a + M, some j)] := if_pos (by omega)
            obtain ⟨g1, g2⟩ := give_part (r := cur) hd hb
            obtain ⟨k1, k2⟩ := give_done (rows := behindF a j M ++ cur) (d := d + M) (l := l) (by omega)
            rw [k1, k2, g1, g2, e0, eM]
            refine ⟨Nat.le_refl _, ?_, rfl, rfl, fun h => absurd h (by omega)⟩
            show 2 * (cur.length + 1) + _ < _
            rw [if_neg (by omega)]
            omega
        obtain ⟨k1, k2, k3, k4, k5⟩ := key
        have hbm : ∀ r ∈ behindF a j M, ∃ j, r.2 = some j ∧ 0 ≤ r.1 ∧ r.1 ≤ j := fun r hr => by
          unfold behindF at hr
          split at hr
          · rw [List.mem_singleton.mp hr]
            exact ⟨j, rfl, by show 0 ≤ a + M; omega, by assumption⟩
          · cases hr
        have tsl : ts.length = qs.length + done.length := by
          rw [Paired.length hts, List.length_append]
        have ln' : cur.length + 1 + done.length ≤ rows.length := ln2 hd
        refine ⟨_, rfl, .inl ⟨rfl, _, SqL.of eG2⟩, _, rfl, y, dy, _, rfl, hy, rfl, y, _, _, rfl, ⟨dy, hy⟩, _, rfl, _, rfl, by show 3 ≤ sizeLine; decide, fun T nT => ?_⟩
        have sT := same_upd (o := .tup [V.int a, V.int d, V.int M]) nT
        have eT := upd_same (H := H2) (a := T) (o := .tup [V.int a, V.int d, V.int M])
        generalize upd H2 T (.tup [V.int a, V.int d, V.int M]) = H3 at *
        have eG3 := sT _ _ eG2
        refine ⟨G, _, _, rfl, rfl, eG3, by rw [List.length_map, sizeLine_eq]; omega, ?_⟩
        obtain ⟨H4, e4⟩ : ∃ Hx, Hx = upd H3 G (.lst (ts.map V.ref ++ [V.ref T])) := ⟨_, rfl⟩
        have eG4 : H4 G = some (.lst ((ts ++ [T]).map V.ref)) := by
          rw [e4, upd_same, List.map_append]
          rfl
        have s34 : SameB G H3 H4 := by rw [e4]; exact SameB.upd (SameB.of (Same.refl _))
        rw [← e4]
        have s24 : SameB G H2 H4 := (SameB.of sT).trans s34
        have nTG : T ≠ G := (ne_of_none eG2 nT).symm
        have hts4 : Paired (GivT H4) (ts ++ [T]) ((qs ++ done) ++ [(a, d, M)]) := paired_snoc' (paired_imp (fun t _ h => s24 _ _ (ne_of h eG2 (by intro z; cases z)) h) hts) (s34 _ _ nTG eT)
        have hy4 := s24 _ _ nyG hy
        have eR4 := s24 _ _ nRG eR'
        have hys4 : Paired (fun x (p : Part) => StrAt D.C_Stretch H4 x p.1 p.2) ys' cur := paired_imp (fun x' _ ⟨dz, h⟩ => ⟨dz, s24 _ _ (ne_of h eG2 (by intro z; cases z)) h⟩) hys'
        refine ⟨_, rfl, _, rfl, y, a, j, M, rfl, ⟨dy, hy4⟩, a0, by omega, fun l' H5 nl' ⟨zs, el', hzs⟩ s5 => ?_⟩
        refine ⟨_, rfl, 1, rfl, R', _, rfl, SqL.of (s5 _ _ eR4), fun c nc => ?_⟩
        have ec0 : cutV ((y :: ys').map V.ref) (some 1) none = ys'.map V.ref := cut_drop _ _ (by decide)
        rw [ec0]
        have s6 := same_upd (o := .lst (ys'.map V.ref)) nc
        have ec := upd_same (H := H5) (a := c) (o := .lst (ys'.map V.ref))
        generalize upd H5 c (.lst (ys'.map V.ref)) = H6 at *
        have zl : zs.length = (behindF a j M).length := Paired.length hzs
        have zl1 := behind_len a j M
        have yl' : ys'.length = cur.length := Paired.length hys'
        refine ⟨l', c, _, _, rfl, rfl, s6 _ _ el', ec, by rw [List.length_map, List.length_map]; exact Nat.le_of_lt (small2k (by omega)), fun N nN => ?_⟩
        rw [← List.map_append]
        have s7 := same_upd (o := .lst ((zs ++ ys').map V.ref)) nN
        have eN := upd_same (H := H6) (a := N) (o := .lst ((zs ++ ys').map V.ref))
        generalize upd H6 N (.lst ((zs ++ ys').map V.ref)) = H7 at *
        have s47 := s5.trans (s6.trans s7)
        have s07 : SameB G H H7 := (s2.trans s24).trans (SameB.of s47)
        have nN0 : H N = none := by
          cases e : H N with
          | none => rfl
          | some w =>
            by_cases hNG : N = G
            · rw [hNG] at nN
              have := (s5.trans s6) _ _ eG4
              rw [nN] at this
              cases this
            · have := ((s2.trans s24).trans (SameB.of (s5.trans s6))) _ _ hNG e
              rw [nN] at this
              cases this
        refine ⟨_, rfl, _, rfl, _, _, rfl, rfl, _, ?_, N, behindF a j M ++ cur, zs ++ ys', d + M, ts ++ [T], done ++ [(a, d, M)], _, _, rfl, rfl, nN0, eN, paired_app (paired_imp (fun _ _ h => h.mono (s6.trans s7)) hzs) (paired_imp (fun _ _ h => h.mono s47) hys4), s07, s47 _ _ eG4, ?_, by omega, fun r hr => ?_, ?_, fun h => ?_, k3.trans e1, ?_⟩
        · rw [if_pos hd]
          exact k2
        · rw [← List.append_assoc]
          exact paired_imp (fun _ _ h => s47 _ _ h) hts4
        · rcases List.mem_append.mp hr with h | h
          · exact hbm r h
          · exact hc r (List.mem_cons_of_mem _ h)
        · have e5 : (done ++ [(a, d, M)]).length = done.length + 1 := List.length_append
          omega
        · have := k5 h
          have e5 : (done ++ [(a, d, M)]).length = done.length + 1 := List.length_append
          omega
        · rw [List.append_assoc, List.singleton_append, k4]
          exact e2
      · refine ⟨_, congrArg V.bl (decide_eq_false hd), iteF ⟨_, rfl, fin H2 rfl (fun _ _ h => absurd h hd) (give_done hd)⟩⟩
end
end K74
set_option Elab.async false
set_option linter.all false
set_option maxRecDepth 100000
set_option maxHeartbeats 1600000
/-! Own layer: checks that refuse, and days owed, within a try. -/
namespace LT
open PySem PySem.Spec PyProof.Rows L2 NdefX
def keepB (rk : List (Str × Int)) : V → Bool
  | .str z => decide (z ∈ rk.map (·.1))
  | _ => false
def knB : V → Bool
  | .non => true
  | v => fromB v 0
/-- a text that is handed in is no longer than may be -/
def TxL (v : V) : Prop := ∀ z, v = .str z → z.length ≤ sizeLine
def spCkKeeperX (CB CH CN : Addr) : Sp := fun vs H Q E => ∃ (b : Addr) (rk : List (Str × Int)) (es : List Evt) (fp : List Addr) (v : V), vs = [.ref b, v] ∧ Bk CB CH H b rk es fp ∧ Odd H v ∧ TxL v ∧
  (keepB rk v = true → ∀ H', Same H H' → Q .non H') ∧ (keepB rk v = false → ∀ H', Same H H' → E (.ref CN) none H')
def spCkDayX (CD : Addr) : Sp := fun vs H Q E => ∃ v : V, vs = [v] ∧ Odd H v ∧ (fromB v 0 = true → Q .non H) ∧ (fromB v 0 = false → E (.ref CD) none H)
def spCkKnownX (CD : Addr) : Sp := fun vs H Q E => ∃ v : V, vs = [v] ∧ Odd H v ∧ (knB v = true → Q .non H) ∧ (knB v = false → E (.ref CD) none H)
def spCkDaysX (CD : Addr) : Sp := fun vs H Q E => ∃ v u : V, vs = [v, u] ∧ Odd H v ∧ Odd H u ∧ ((fromB v 0 && knB u) = true → Q .non H) ∧ ((fromB v 0 && knB u) = false → E (.ref CD) none H)
def spCkNumX (CN : Addr) : Sp := fun vs H Q E => ∃ (v : V) (l : Int), vs = [v, .int l] ∧ Odd H v ∧ l.natAbs ≤ 10 ^ 61 ∧ (fromB v l = true → Q .non H) ∧ (fromB v l = false → E (.ref CN) none H)
/-- days over, owed, given: told, or refused -/
structure OwX (rk : List (Str × Int)) (H : Hp) (kv dv tv nv : V) : Prop where
  ko : Odd H kv
  kt : TxL kv
  d : Odd H dv
  t : Odd H tv
  n : Odd H nv
theorem OwX.mono {rk : List (Str × Int)} {H H' : Hp} {kv dv tv nv : V} (h : OwX rk H kv dv tv nv) (s : Same H H') : OwX rk H' kv dv tv nv := ⟨h.ko.mono s, h.kt, h.d.mono s, h.t.mono s, h.n.mono s⟩
def spOverX (CB CH CK CD CN : Addr) : Sp := fun vs H Q E => ∃ (b : Addr) (rk : List (Str × Int)) (es : List Evt) (fp : List Addr) (kv dv tv nv : V), vs = [.ref b, kv, dv, tv, nv] ∧ Bk CB CH H b rk es fp ∧ es.length ≤ 60 ∧ OwX rk H kv dv tv nv ∧
  (keepB rk kv = true → (fromB dv 0 && knB nv) = true → fromB tv 0 = true → ∀ r H', Same H H' → Q r H') ∧
  (keepB rk kv = false → ∀ H', Same H H' → E (.ref CK) none H') ∧ (keepB rk kv = true → (fromB dv 0 && knB nv) = false → ∀ H', Same H H' → E (.ref CD) none H') ∧
  (keepB rk kv = true → (fromB dv 0 && knB nv) = true → fromB tv 0 = false → ∀ H', Same H H' → E (.ref CN) none H')
def spSettledX (CB CH CS CK CD CN : Addr) : Sp := fun vs H Q E => ∃ (b : Addr) (rk : List (Str × Int)) (es : List Evt) (fp : List Addr) (kv dv tv lv nv : V), vs = [.ref b, kv, dv, tv, lv, nv] ∧ Bk CB CH H b rk es fp ∧ es.length ≤ 60 ∧ OwX rk H kv dv tv nv ∧ Odd H lv ∧
  (keepB rk kv = true → (fromB dv 0 && knB nv) = true → fromB tv 0 = true → fromB lv 0 = true → ∀ (T o G : Addr) H', H' T = some (.tup [.ref o, .ref G]) → Same H H' → Q (.ref T) H') ∧
  (keepB rk kv = false → ∀ H', Same H H' → E (.ref CK) none H') ∧ (keepB rk kv = true → (fromB dv 0 && knB nv) = false → ∀ H', Same H H' → E (.ref CD) none H') ∧
  (keepB rk kv = true → (fromB dv 0 && knB nv) = true → (fromB tv 0 && fromB lv 0) = false → ∀ H', Same H H' → E (.ref CN) none H')
def spOwedX (CB CH CK CD CN : Addr) : Sp := fun vs H Q E => ∃ (b : Addr) (rk : List (Str × Int)) (es : List Evt) (fp : List Addr) (kv dv tv lv nv : V), vs = [.ref b, kv, dv, tv, lv, nv] ∧ Bk CB CH H b rk es fp ∧ es.length ≤ 60 ∧ OwX rk H kv dv tv nv ∧ Odd H lv ∧
  (keepB rk kv = true → (fromB dv 0 && knB nv) = true → fromB tv 0 = true → fromB lv 0 = true → ∀ r H', Same H H' → Q r H') ∧
  (keepB rk kv = false → ∀ H', Same H H' → E (.ref CK) none H') ∧ (keepB rk kv = true → (fromB dv 0 && knB nv) = false → ∀ H', Same H H' → E (.ref CD) none H') ∧
  (keepB rk kv = true → (fromB dv 0 && knB nv) = true → (fromB tv 0 && fromB lv 0) = false → ∀ H', Same H H' → E (.ref CN) none H')
theorem fromI {v : V} {l : Int} (h : fromB v l = true) : ∃ i, v = .int i ∧ l ≤ i := by
  cases v with
  | int i => exact ⟨i, rfl, of_decide_eq_true h⟩
  | _ => cases h
theorem kn_opt {v : V} (h : knB v = true) : ∃ kn : Option Int, v = knV kn ∧ knOK kn := by
  cases v with
  | non => exact ⟨none, rfl, nofun⟩
  | int i => exact ⟨some i, rfl, fun k e => by cases e; exact of_decide_eq_true h⟩
  | _ => cases h
theorem keep_str {rk : List (Str × Int)} {v : V} (h : keepB rk v = true) : ∃ z, v = .str z ∧ z ∈ rk.map (·.1) := by
  cases v with
  | str z => exact ⟨z, rfl, of_decide_eq_true h⟩
  | _ => cases h
end LT
set_option Elab.async false
set_option linter.all false
set_option maxRecDepth 100000
set_option maxHeartbeats 1600000
set_option pp.maxSteps 300
namespace K74
open PySem PySem.Spec PyProof.Rows L2 LT NdefX LamX
section
variable {P : Program} {w : World} {K : PySem.W.Frag} {mg : Str → Option Value} {base : Heap}
theorem okx_check_day (D : All K P mg) : FnOk P w K mg base (L2.CX P w) 4 D.f_check_day D.d_check_day ["thing"] (spCkDayX D.C_NoDay) := by
  refine D.h_check_day.fn.okX sc_check_day (fun vs H Q E h => ?_) (fun cdv A outer s H vs Q E hr h => ?_)
  · first | (obtain ⟨_, rfl, _⟩ := h; rfl) | (obtain ⟨_, _, rfl, _⟩ := h; rfl) | (obtain ⟨_, _, _, rfl, _⟩ := h; rfl) | (obtain ⟨_, _, _, _, rfl, _⟩ := h; rfl) | (obtain ⟨_, _, _, _, _, rfl, _⟩ := h; rfl) | (obtain ⟨_, _, _, _, _, _, rfl, _⟩ := h; rfl) | (obtain ⟨_, _, _, _, _, _, _, rfl, _⟩ := h; rfl) | (obtain ⟨_, _, _, _, _, _, _, _, rfl, _⟩ := h; rfl) | (obtain ⟨_, _, _, _, _, _, _, _, _, rfl, _⟩ := h; rfl) | (obtain ⟨_, _, _, _, _, _, _, _, _, _, rfl, _⟩ := h; rfl) | (obtain ⟨_, _, _, _, _, _, _, _, _, _, _, rfl, _⟩ := h; rfl) | (obtain ⟨_, _, _, _, _, _, _, _, _, _, _, _, rfl, _⟩ := h; rfl) | (obtain ⟨_, _, _, _, _, _, _, _, _, _, _, _, _, rfl, _⟩ := h; rfl) | (obtain ⟨_, _, _, _, _, _, _, _, _, _, _, _, _, _, rfl, _⟩ := h; rfl) | (obtain ⟨_, _, _, _, _, _, _, _, _, _, _, _, _, _, _, rfl, _⟩ := h; rfl)
  · have T := D.T
    have nd := sc_check_day.nd
    have hu := hr.units
    have hu1 := hu_of hr
    have hu0 := hr.units0
    have ps : Passes (L2.CX P w) (cxOf (L2.CX P w) P w K mg base ["thing"] "check_day" (defScope s_check_day) D.f_check_day cdv A outer s H E) E := passes_call (takes_of rfl rfl rfl rfl) (fun _ _ _ _ h => h)
    obtain ⟨v, rfl, hv, q, e⟩ := h
    refine ⟨_, pss_one (ps_if (pt_not (pt_val (pe_call (ok_is_day D) (hr.mono (by decide)) (by rfl) D.h_is_day.gl D.h_is_day.fn.kp D.h_is_day.bd .nil pass0 (pa_cons (pv 0) pa_nil)))) (pss_one (ps_raise rfl (takes_of rfl rfl rfl rfl) (pmk_own PySem.F.excBase_ValueError D.E_NoDay.x D.E_NoDay.g D.E_NoDay.k (raises_own D.E_NoDay.b D.E_NoDay.t) (by rfl)))) pss_nil), ?_⟩
    refine ⟨_, rfl, v, rfl, hv, _, rfl, ?_⟩
    cases hb : fromB v 0 with
    | true => exact iteF (q hb)
    | false => exact iteT (e hb)
theorem okx_check_known (D : All K P mg) : FnOk P w K mg base (L2.CX P w) 5 D.f_check_known D.d_check_known ["thing"] (spCkKnownX D.C_NoDay) := by
  refine D.h_check_known.fn.okX sc_check_known (fun vs H Q E h => ?_) (fun cdv A outer s H vs Q E hr h => ?_)
  · first | (obtain ⟨_, rfl, _⟩ := h; rfl) | (obtain ⟨_, _, rfl, _⟩ := h; rfl) | (obtain ⟨_, _, _, rfl, _⟩ := h; rfl) | (obtain ⟨_, _, _, _, rfl, _⟩ := h; rfl) | (obtain ⟨_, _, _, _, _, rfl, _⟩ := h; rfl) | (obtain ⟨_, _, _, _, _, _, rfl, _⟩ := h; rfl) | (obtain ⟨_, _, _, _, _, _, _, rfl, _⟩ := h; rfl) | (obtain ⟨_, _, _, _, _, _, _, _, rfl, _⟩ := h; rfl) | (obtain ⟨_, _, _, _, _, _, _, _, _, rfl, _⟩ := h; rfl) | (obtain ⟨_, _, _, _, _, _, _, _, _, _, rfl, _⟩ := h; rfl) | (obtain ⟨_, _, _, _, _, _, _, _, _, _, _, rfl, _⟩ := h; rfl) | (obtain ⟨_, _, _, _, _, _, _, _, _, _, _, _, rfl, _⟩ := h; rfl) | (obtain ⟨_, _, _, _, _, _, _, _, _, _, _, _, _, rfl, _⟩ := h; rfl) | (obtain ⟨_, _, _, _, _, _, _, _, _, _, _, _, _, _, rfl, _⟩ := h; rfl) | (obtain ⟨_, _, _, _, _, _, _, _, _, _, _, _, _, _, _, rfl, _⟩ := h; rfl)
  · have T := D.T
    have nd := sc_check_known.nd
    have hu := hr.units
    have hu1 := hu_of hr
    have hu0 := hr.units0
    have ps : Passes (L2.CX P w) (cxOf (L2.CX P w) P w K mg base ["thing"] "check_known" (defScope s_check_known) D.f_check_known cdv A outer s H E) E := passes_call (takes_of rfl rfl rfl rfl) (fun _ _ _ _ h => h)
    obtain ⟨v, rfl, hv, q, e⟩ := h
    refine ⟨_, pss_one (ps_if (pt_cmpR op_notN (pv 0) pe_non (nomark _)) (pss_one (ps_expr (pe_call (okx_check_day D) (hr.mono (by decide)) (by rfl) D.h_check_day.gl D.h_check_day.fn.kp D.h_check_day.bd .nil ps (pa_cons (pv 0) pa_nil)))) pss_nil), ?_⟩
    refine ⟨_, rfl, rfl, _, rfl, ?_⟩
    by_cases hn : v = .non
    · subst hn
      rw [show decide (V.non = V.non) = true from decide_eq_true rfl]
      exact iteF (q rfl)
    · rw [decide_eq_false hn]
      have ek : knB v = fromB v 0 := by cases v <;> first | rfl | exact absurd rfl hn
      exact iteT ⟨_, rfl, v, rfl, hv, fun h => q (ek.trans h), fun h => e (ek.trans h)⟩
theorem okx_check_days (D : All K P mg) : FnOk P w K mg base (L2.CX P w) 6 D.f_check_days D.d_check_days ["day", "known"] (spCkDaysX D.C_NoDay) := by
  refine D.h_check_days.fn.okX sc_check_days (fun vs H Q E h => ?_) (fun cdv A outer s H vs Q E hr h => ?_)
  · first | (obtain ⟨_, rfl, _⟩ := h; rfl) | (obtain ⟨_, _, rfl, _⟩ := h; rfl) | (obtain ⟨_, _, _, rfl, _⟩ := h; rfl) | (obtain ⟨_, _, _, _, rfl, _⟩ := h; rfl) | (obtain ⟨_, _, _, _, _, rfl, _⟩ := h; rfl) | (obtain ⟨_, _, _, _, _, _, rfl, _⟩ := h; rfl) | (obtain ⟨_, _, _, _, _, _, _, rfl, _⟩ := h; rfl) | (obtain ⟨_, _, _, _, _, _, _, _, rfl, _⟩ := h; rfl) | (obtain ⟨_, _, _, _, _, _, _, _, _, rfl, _⟩ := h; rfl) | (obtain ⟨_, _, _, _, _, _, _, _, _, _, rfl, _⟩ := h; rfl) | (obtain ⟨_, _, _, _, _, _, _, _, _, _, _, rfl, _⟩ := h; rfl) | (obtain ⟨_, _, _, _, _, _, _, _, _, _, _, _, rfl, _⟩ := h; rfl) | (obtain ⟨_, _, _, _, _, _, _, _, _, _, _, _, _, rfl, _⟩ := h; rfl) | (obtain ⟨_, _, _, _, _, _, _, _, _, _, _, _, _, _, rfl, _⟩ := h; rfl) | (obtain ⟨_, _, _, _, _, _, _, _, _, _, _, _, _, _, _, rfl, _⟩ := h; rfl)
  · have T := D.T
    have nd := sc_check_days.nd
    have hu := hr.units
    have hu1 := hu_of hr
    have hu0 := hr.units0
    have ps : Passes (L2.CX P w) (cxOf (L2.CX P w) P w K mg base ["day", "known"] "check_days" (defScope s_check_days) D.f_check_days cdv A outer s H E) E := passes_call (takes_of rfl rfl rfl rfl) (fun _ _ _ _ h => h)
    obtain ⟨v, u, rfl, hv, hu', q, e⟩ := h
    refine ⟨_, pss_cons (ps_expr (pe_call (okx_check_day D) (hr.mono (by decide)) (by rfl) D.h_check_day.gl D.h_check_day.fn.kp D.h_check_day.bd .nil ps (pa_cons (pv 0) pa_nil)))
      (pss_one (ps_expr (pe_call (okx_check_known D) (hr.mono (by decide)) (by rfl) D.h_check_known.gl D.h_check_known.fn.kp D.h_check_known.bd .nil ps (pa_cons (pv 1) pa_nil)))), ?_⟩
    exact ⟨_, rfl, v, rfl, hv, fun h1 => ⟨_, rfl, u, rfl, hu', fun h2 => q (by rw [h1, h2]; rfl), fun h2 => e (by rw [h1, h2]; rfl)⟩, fun h1 => e (by rw [h1]; rfl)⟩
theorem okx_check_number (D : All K P mg) : FnOk P w K mg base (L2.CX P w) 3 D.f_check_number D.d_check_number ["thing", "least"] (spCkNumX D.C_NoNumber) := by
  refine D.h_check_number.fn.okX sc_check_number (fun vs H Q E h => ?_) (fun cdv A outer s H vs Q E hr h => ?_)
  · first | (obtain ⟨_, rfl, _⟩ := h; rfl) | (obtain ⟨_, _, rfl, _⟩ := h; rfl) | (obtain ⟨_, _, _, rfl, _⟩ := h; rfl) | (obtain ⟨_, _, _, _, rfl, _⟩ := h; rfl) | (obtain ⟨_, _, _, _, _, rfl, _⟩ := h; rfl) | (obtain ⟨_, _, _, _, _, _, rfl, _⟩ := h; rfl) | (obtain ⟨_, _, _, _, _, _, _, rfl, _⟩ := h; rfl) | (obtain ⟨_, _, _, _, _, _, _, _, rfl, _⟩ := h; rfl) | (obtain ⟨_, _, _, _, _, _, _, _, _, rfl, _⟩ := h; rfl) | (obtain ⟨_, _, _, _, _, _, _, _, _, _, rfl, _⟩ := h; rfl) | (obtain ⟨_, _, _, _, _, _, _, _, _, _, _, rfl, _⟩ := h; rfl) | (obtain ⟨_, _, _, _, _, _, _, _, _, _, _, _, rfl, _⟩ := h; rfl) | (obtain ⟨_, _, _, _, _, _, _, _, _, _, _, _, _, rfl, _⟩ := h; rfl) | (obtain ⟨_, _, _, _, _, _, _, _, _, _, _, _, _, _, rfl, _⟩ := h; rfl) | (obtain ⟨_, _, _, _, _, _, _, _, _, _, _, _, _, _, _, rfl, _⟩ := h; rfl)
  · have T := D.T
    have nd := sc_check_number.nd
    have hu := hr.units
    have hu1 := hu_of hr
    have hu0 := hr.units0
    have ps : Passes (L2.CX P w) (cxOf (L2.CX P w) P w K mg base ["thing", "least"] "check_number" (defScope s_check_number) D.f_check_number cdv A outer s H E) E := passes_call (takes_of rfl rfl rfl rfl) (fun _ _ _ _ h => h)
    obtain ⟨v, l, rfl, hv, lb, q, e⟩ := h
    refine ⟨_, pss_one (ps_if (pt_not (pt_val (pe_call (ok_is_from D) (hr.mono (by decide)) (by rfl) D.h_is_from.gl D.h_is_from.fn.kp D.h_is_from.bd .nil pass0 (pa_cons (pv 0) (pa_cons (pv 1) pa_nil))))) (pss_one (ps_raise rfl (takes_of rfl rfl rfl rfl) (SkE.pmk_own1 PySem.F.excBase_ValueError D.E_NoNumber.x D.E_NoNumber.g D.E_NoNumber.k (raises_own D.E_NoNumber.b D.E_NoNumber.t) (by rfl) (pe_joined (.cons pe_str (.cons (pe_fmt (pv 1)) (.cons pe_str .nil))))))) pss_nil), ?_⟩
    refine ⟨_, rfl, _, rfl, v, l, rfl, hv, _, rfl, ?_⟩
    cases hb : fromB v l with
    | true => exact iteF (q hb)
    | false =>
      have t1 := tlen61 lb
      have a1 : (Str.empty ++ Str.ofString "a whole number from ").length = 20 := by decide +kernel
      have a2 : (Str.ofString " on is wanted").length = 13 := by decide +kernel
      refine iteT ⟨_, rfl, by decide +kernel, ?_⟩
      refine ⟨_, rfl, .inr ⟨l, rfl, lg61 lb, _, rfl, ?_, _, rfl, ?_, e hb⟩⟩
      · rw [str_app_len, a1, sizeLine_eq]
        omega
      · rw [str_app_len, str_app_len, a1, a2, sizeLine_eq]
        omega
theorem okx_check_keeper (D : All K P mg) : FnOk P w K mg base (L2.CX P w) 2 D.f_check_keeper D.d_check_keeper ["book", "thing"] (spCkKeeperX D.C_Book D.C_History D.C_NoKeeper) := by
  refine D.h_check_keeper.fn.okX sc_check_keeper (fun vs H Q E h => ?_) (fun cdv A outer s H vs Q E hr h => ?_)
  · first | (obtain ⟨_, rfl, _⟩ := h; rfl) | (obtain ⟨_, _, rfl, _⟩ := h; rfl) | (obtain ⟨_, _, _, rfl, _⟩ := h; rfl) | (obtain ⟨_, _, _, _, rfl, _⟩ := h; rfl) | (obtain ⟨_, _, _, _, _, rfl, _⟩ := h; rfl) | (obtain ⟨_, _, _, _, _, _, rfl, _⟩ := h; rfl) | (obtain ⟨_, _, _, _, _, _, _, rfl, _⟩ := h; rfl) | (obtain ⟨_, _, _, _, _, _, _, _, rfl, _⟩ := h; rfl) | (obtain ⟨_, _, _, _, _, _, _, _, _, rfl, _⟩ := h; rfl) | (obtain ⟨_, _, _, _, _, _, _, _, _, _, rfl, _⟩ := h; rfl) | (obtain ⟨_, _, _, _, _, _, _, _, _, _, _, rfl, _⟩ := h; rfl) | (obtain ⟨_, _, _, _, _, _, _, _, _, _, _, _, rfl, _⟩ := h; rfl) | (obtain ⟨_, _, _, _, _, _, _, _, _, _, _, _, _, rfl, _⟩ := h; rfl) | (obtain ⟨_, _, _, _, _, _, _, _, _, _, _, _, _, _, rfl, _⟩ := h; rfl) | (obtain ⟨_, _, _, _, _, _, _, _, _, _, _, _, _, _, _, rfl, _⟩ := h; rfl)
  · have T := D.T
    have nd := sc_check_keeper.nd
    have hu := hr.units
    have hu1 := hu_of hr
    have hu0 := hr.units0
    have ps : Passes (L2.CX P w) (cxOf (L2.CX P w) P w K mg base ["book", "thing"] "check_keeper" (defScope s_check_keeper) D.f_check_keeper cdv A outer s H E) E := passes_call (takes_of rfl rfl rfl rfl) (fun _ _ _ _ h => h)
    obtain ⟨_, rk, es, fp, v, rfl, ⟨B, rfl, rfl, rfl, rfl, bh, bp, bl⟩, hv, hz, q, e⟩ := h
    refine ⟨_, pss_one (ps_if (PW.pt (pw_or (pt_not (pt_val (pe_call (ok_is_name D) (hr.mono (by decide)) (by rfl) D.h_is_name.gl D.h_is_name.fn.kp D.h_is_name.bd .nil pass0 (pa_cons (pv 1) pa_nil)))) (pw_or1 (pt_cmp (pc_dnotin hu1 (pv 1) (pe_fld (pv 0) rfl)))))) (pss_one (ps_raise rfl (takes_of rfl rfl rfl rfl) (pmk_own PySem.F.excBase_ValueError D.E_NoKeeper.x D.E_NoKeeper.g D.E_NoKeeper.k (raises_own D.E_NoKeeper.b D.E_NoKeeper.t) (by rfl)))) pss_nil), ?_⟩
    refine ⟨_, rfl, v, rfl, hv, hz, fun H1 s1 => ⟨_, rfl, ?_⟩⟩
    cases hb : nameB v with
    | false =>
      refine iteT (iteT (e ?_ H1 s1))
      cases v with
      | str z =>
        refine decide_eq_false fun hm => ?_
        obtain ⟨x, hx, ex⟩ := List.mem_map.mp hm
        have := (bp.rk.nm x hx).b
        rw [ex, hb] at this
        cases this
      | _ => rfl
    | true =>
      obtain ⟨z, rfl⟩ : ∃ z, v = .str z := by
        cases v <;> first | exact ⟨_, rfl⟩ | cases hb
      have dg : DGet H1 B.R (.str z) ((getA B.rk z).map V.int) := by
        have h := DGet.k (k := Sum.inr z) (s1 _ _ bh.rd)
        rw [show valV (sd B.rk) (Sum.inr z) = (getA B.rk z).map V.int from val_en inr_inj z B.rk] at h
        exact h
      refine iteF ⟨_, rfl, _, rfl, B.b, _, B.dx, _, _, rfl, s1 _ _ bh.ix, D.Z_Book.cl, D.n_Book_rank_of, rfl, B.R, _, rfl, dg, _, rfl, ?_⟩
      by_cases hm : z ∈ B.rk.map (·.1)
      · have e2 : ((getA B.rk z).map V.int).isSome = true := by
          cases hg : getA B.rk z with
          | none => exact absurd hm (getA_none_iff.mp hg)
          | some n => rfl
        rw [e2]
        exact iteF (q (decide_eq_true hm) H1 s1)
      · have e2 : ((getA B.rk z).map V.int).isSome = false := by
          rw [getA_none_iff.mpr hm]
          rfl
        rw [e2]
        exact iteT (e (decide_eq_false hm) H1 s1)
theorem sc_days_over : FnScope ["book", "keeper", "day", "term", "known", "over", "out", "spell"] ["book", "keeper", "day", "term", "known"] (defScope s_days_over) := ⟨rfl, rfl, rfl, by decide +kernel, rfl, by decide +kernel, by decide +kernel⟩
theorem ok_days_over (D : All K P mg) : FnOk P w K mg base (L2.CX P w) 9 D.f_days_over D.d_days_over ["book", "keeper", "day", "term", "known"] (spOverX D.C_Book D.C_History D.C_NoKeeper D.C_NoDay D.C_NoNumber) := by
  refine D.q_days_over.ok sc_days_over (fun vs H Q E h => ?_) (fun cdv A outer s H vs Q E hr h => ?_)
  · first | (obtain ⟨_, rfl, _⟩ := h; rfl) | (obtain ⟨_, _, rfl, _⟩ := h; rfl) | (obtain ⟨_, _, _, rfl, _⟩ := h; rfl) | (obtain ⟨_, _, _, _, rfl, _⟩ := h; rfl) | (obtain ⟨_, _, _, _, _, rfl, _⟩ := h; rfl) | (obtain ⟨_, _, _, _, _, _, rfl, _⟩ := h; rfl) | (obtain ⟨_, _, _, _, _, _, _, rfl, _⟩ := h; rfl) | (obtain ⟨_, _, _, _, _, _, _, _, rfl, _⟩ := h; rfl) | (obtain ⟨_, _, _, _, _, _, _, _, _, rfl, _⟩ := h; rfl) | (obtain ⟨_, _, _, _, _, _, _, _, _, _, rfl, _⟩ := h; rfl) | (obtain ⟨_, _, _, _, _, _, _, _, _, _, _, rfl, _⟩ := h; rfl) | (obtain ⟨_, _, _, _, _, _, _, _, _, _, _, _, rfl, _⟩ := h; rfl) | (obtain ⟨_, _, _, _, _, _, _, _, _, _, _, _, _, rfl, _⟩ := h; rfl) | (obtain ⟨_, _, _, _, _, _, _, _, _, _, _, _, _, _, rfl, _⟩ := h; rfl) | (obtain ⟨_, _, _, _, _, _, _, _, _, _, _, _, _, _, _, rfl, _⟩ := h; rfl)
  · have T := D.T
    have nd := sc_days_over.nd
    have hu := hr.units
    have hu1 := hu_of hr
    have hu0 := hr.units0
    have ps : Passes (L2.CX P w) (cxOf (L2.CX P w) P w K mg base ["book", "keeper", "day", "term", "known", "over", "out", "spell"] "days_over" (defScope s_days_over) D.f_days_over cdv A outer s H E) E := passes_call (takes_of rfl rfl rfl rfl) (fun _ _ _ _ h => h)
    obtain ⟨b, rk, es, fp, kv, dv, tv, nv, rfl, W, hl, hO, q0, e1, e2, e3⟩ := h
    refine ⟨_, pss_cons (ps_expr (pe_call (okx_check_keeper D) (hr.mono (by decide)) (by rfl) D.h_check_keeper.gl D.h_check_keeper.fn.kp D.h_check_keeper.bd .nil ps (pa_cons (pv 0) (pa_cons (pv 1) pa_nil))))
      (pss_cons (ps_expr (pe_call (okx_check_days D) (hr.mono (by decide)) (by rfl) D.h_check_days.gl D.h_check_days.fn.kp D.h_check_days.bd .nil ps (pa_cons (pv 2) (pa_cons (pv 4) pa_nil))))
      (pss_cons (ps_expr (pe_call (okx_check_number D) (hr.mono (by decide)) (by rfl) D.h_check_number.gl D.h_check_number.fn.kp D.h_check_number.bd .nil ps (pa_cons (pv 3) (pa_cons pe_int pa_nil))))
      (pss_cons (ps_set (i := 5) nd rfl (.inl rfl) (pe_lst pa_nil))
      (pss_cons (PS.nox (ps_for PassesOwn.never rfl (pi_list (pe_call (ok_spells D) (hr.mono (by decide)) (by rfl) D.h_spells.gl D.h_spells.fn.kp D.h_spells.bd .nil pass0 (pa_cons (pv 0) (pa_cons (pv 1) (pa_cons (pv 2) (pa_cons (pv 4) pa_nil)))))) (pg_tup rfl (pgs_cons (pg_name (i := 6) nd rfl (Or.inl rfl)) (pgs_cons (pg_name (i := 7) nd rfl (Or.inl rfl)) pgs_nil))) (pss_one (ps_if (pt_val (pv 6)) (pss_one (ps_aug (i := 5) nd rfl (.inl rfl) (pe_call (ok_days_behind D) (hr.mono (by decide)) (by rfl) D.h_days_behind.gl D.h_days_behind.fn.kp D.h_days_behind.bd .nil pass0 (pa_cons (pv 7) (pa_cons (pv 3) pa_nil))) ip_cat)) pss_nil))))
      (pss_one (ps_ret (pv 5))))))), ?_⟩
    refine ⟨_, rfl, _, rfl, b, rk, es, fp, kv, rfl, W, hO.ko, hO.kt, fun hk1 H1 s1 => ?_, e1⟩
    have hO1 := hO.mono s1
    refine ⟨_, rfl, _, rfl, dv, nv, rfl, hO1.d, hO1.n, fun hd1 => ?_, fun hd1 => e2 hk1 hd1 H1 s1⟩
    refine ⟨_, rfl, tv, 0, rfl, hO1.t, by decide, fun ht1 => ?_, fun ht1 => e3 hk1 hd1 ht1 H1 s1⟩
    obtain ⟨z, rfl, hz⟩ := keep_str hk1
    rw [Bool.and_eq_true] at hd1
    obtain ⟨day, rfl, d0⟩ := fromI hd1.1
    obtain ⟨kn, rfl, hk⟩ := kn_opt hd1.2
    obtain ⟨term, rfl, t0⟩ := fromI ht1
    have q : ∀ (l : Addr) (rows : List LD.Row) (H' : Hp), H l = none → PartsAt D.C_Stretch H' l rows → IsOver (outB es z kn) day term rows → rows.length ≤ 62 → Same H H' → Q (.ref l) H' := fun l rows H' _ _ _ _ s => q0 hk1 (by rw [Bool.and_eq_true]; exact hd1) ht1 (.ref l) H' s
    refine ⟨by show 0 ≤ sizeLine; decide, fun O nO => ?_⟩
    have s2 := same_upd (o := .lst []) nO
    have eO := upd_same (H := H1) (a := O) (o := .lst [])
    generalize upd H1 O (.lst []) = H2 at *
    have nO0 : H O = none := s1.free nO
    refine ⟨_, rfl, _, rfl, _, rfl, _, rfl, b, rk, es, fp, z, day, kn, rfl, W.mono (s1.trans s2), hz, hl, hk, d0, fun l rs H3 nl R rl ra s3 => ?_⟩
    obtain ⟨ts, el, hts⟩ := ra
    have tl : ts.length = (spF day rs).length := Paired.length hts
    have sl := spF_len day rs
    have rv : ∀ r ∈ spF day rs, ∃ (x : Bool) (e : Int), r.1 = .bl x ∧ r.2.2 = some e := fun r hr => by
      unfold spF at hr
      obtain ⟨r0, h0, rfl⟩ := List.mem_map.mp hr
      have h0 := (List.mem_filter.mp h0).1
      obtain ⟨i, hi⟩ := List.getElem?_of_mem h0
      have := (R.cov.get i r0 hi).2.2.1 (rFi r0) ⟨Int.le_refl _, fun e he => (R.cov.le r0 h0).2 e he⟩
      exact ⟨_, _, this.symm, rfl⟩
    have rp : ∀ r ∈ spF day rs, 0 ≤ r.2.1 := fun r hr => by
      unfold spF at hr
      obtain ⟨r0, h0, rfl⟩ := List.mem_map.mp hr
      exact (cov_up R.cov).2 r0 (List.mem_filter.mp h0).1
    have nlO : l ≠ O := ne_of_none' nl eO
    refine ⟨l, rfl, ⟨_, SqL.of el⟩, for_list (xs := ts.map V.ref) (fun i σ H' => (∃ x6 x7, σ = [some (.ref b), some (.str z), some (.int day), some (.int term), some (knV kn), some (.ref O), x6, x7]) ∧ SameB O H3 H' ∧ PartsAt D.C_Stretch H' O (((spF day rs).take i).flatMap (overS term)))
      ⟨⟨none, none, rfl⟩, SameB.of (Same.refl _), [], s3 _ _ eO, .nil⟩ (fun i σ H' _ ⟨_, s, _⟩ => SqL.of (s _ _ nlO el)) ?_ ?_⟩
    · rintro i y σ H4 hy ⟨⟨x6, x7, rfl⟩, s4, xs, eO4, hxs⟩
      obtain ⟨t, r, rfl, hr, ⟨sx, ht, dx, hsx⟩⟩ := pick_at hts hy
      obtain ⟨v, e, hv, he⟩ := rv r (List.mem_of_getElem? hr)
      have r0 := rp r (List.mem_of_getElem? hr)
      have il := (List.getElem?_eq_some_iff.mp hr).1
      have nsO : t ≠ O := ne_of (s3.trans (Same.refl _) |> fun _ => ht) (s3 _ _ eO) (by intro z; cases z)
      have hst : StrAt D.C_Stretch H4 sx r.2.1 (some e) := by
        rw [← he]
        exact ⟨dx, s4 _ _ (ne_of hsx (s3 _ _ eO) (by intro z; cases z)) hsx⟩
      refine ⟨t, _, rfl, SqT.of (s4 _ _ nsO ht), rfl, _, _, rfl, _, _, rfl, rfl, ?_⟩
      refine ⟨_, rfl, v, hv, ?_⟩
      cases v with
      | true =>
        refine iteT ⟨_, rfl, _, rfl, _, rfl, sx, _, e, term, rfl, hst, r0, t0, fun l' H5 nl' ⟨ys, el', hys⟩ s5 => ?_⟩
        have eO5 := s5 _ _ eO4
        have xl : xs.length ≤ i := by
          rw [Paired.length hxs]
          have := flatB_len (overS_len term) ((spF day rs).take i)
          rw [List.length_take] at this
          omega
        have yl : ys.length ≤ 1 := by
          rw [Paired.length hys]
          exact behind_len ..
        refine ⟨O, l', _, _, rfl, rfl, eO5, el', by rw [List.length_map, List.length_map]; exact Nat.le_of_lt (small2k (by omega)), ⟨_, _, rfl⟩, (s4.trans (SameB.of s5)).trans (SameB.upd (SameB.of (Same.refl _))), xs ++ ys, ?_, ?_⟩
        · rw [upd_same, List.map_append]
        · rw [take_snoc hr, List.flatMap_append, List.flatMap_cons, List.flatMap_nil, List.append_nil]
          refine paired_app (paired_imp (fun _ _ h => (h.mono s5).upd eO5) hxs) ?_
          have eo : overS term r = behindF r.2.1 e term := by
            unfold overS
            rw [if_pos hv, he]
            rfl
          rw [eo]
          exact paired_imp (fun _ _ h => h.upd eO5) hys
      | false =>
        refine iteF ⟨⟨_, _, rfl⟩, s4, xs, eO4, ?_⟩
        have eo : overS term r = [] := by
          unfold overS
          rw [if_neg (by rw [hv]; nofun)]
        rw [take_snoc hr, List.flatMap_append, List.flatMap_cons, List.flatMap_nil, eo, List.append_nil, List.append_nil]
        exact hxs
    rintro σ H4 ⟨⟨x6, x7, rfl⟩, s4, pa⟩
    rw [List.length_map, tl, List.take_length] at pa
    have hover := over_is (term := term) (day := day) (g := outB es z kn) R t0
    refine ⟨_, rfl, q O _ H4 nO0 pa hover ?_ ?_⟩
    · have := flatB_len (overS_len term) (spF day rs)
      show ((spF day rs).flatMap (overS term)).length ≤ 62
      omega
    · exact fun a o e => s4 _ _ (ne_of_none e nO0) ((s1.trans (s2.trans s3)) _ _ e)
theorem sc_settled : FnScope ["book", "keeper", "day", "term", "leave", "known", "owed", "given", "out", "spell", "free"] ["book", "keeper", "day", "term", "leave", "known"] (defScope s_settled) := ⟨rfl, rfl, rfl, by decide +kernel, rfl, by decide +kernel, by decide +kernel⟩
theorem ok_settled (D : All K P mg) : FnOk P w K mg base (L2.CX P w) 9 D.f_settled D.d_settled ["book", "keeper", "day", "term", "leave", "known"] (spSettledX D.C_Book D.C_History D.C_Stretch D.C_NoKeeper D.C_NoDay D.C_NoNumber) := by
  refine D.h_settled.fn.okX sc_settled (fun vs H Q E h => ?_) (fun cdv A outer s H vs Q E hr h => ?_)
  · first | (obtain ⟨_, rfl, _⟩ := h; rfl) | (obtain ⟨_, _, rfl, _⟩ := h; rfl) | (obtain ⟨_, _, _, rfl, _⟩ := h; rfl) | (obtain ⟨_, _, _, _, rfl, _⟩ := h; rfl) | (obtain ⟨_, _, _, _, _, rfl, _⟩ := h; rfl) | (obtain ⟨_, _, _, _, _, _, rfl, _⟩ := h; rfl) | (obtain ⟨_, _, _, _, _, _, _, rfl, _⟩ := h; rfl) | (obtain ⟨_, _, _, _, _, _, _, _, rfl, _⟩ := h; rfl) | (obtain ⟨_, _, _, _, _, _, _, _, _, rfl, _⟩ := h; rfl) | (obtain ⟨_, _, _, _, _, _, _, _, _, _, rfl, _⟩ := h; rfl) | (obtain ⟨_, _, _, _, _, _, _, _, _, _, _, rfl, _⟩ := h; rfl) | (obtain ⟨_, _, _, _, _, _, _, _, _, _, _, _, rfl, _⟩ := h; rfl) | (obtain ⟨_, _, _, _, _, _, _, _, _, _, _, _, _, rfl, _⟩ := h; rfl) | (obtain ⟨_, _, _, _, _, _, _, _, _, _, _, _, _, _, rfl, _⟩ := h; rfl) | (obtain ⟨_, _, _, _, _, _, _, _, _, _, _, _, _, _, _, rfl, _⟩ := h; rfl)
  · have T := D.T
    have nd := sc_settled.nd
    have hu := hr.units
    have hu1 := hu_of hr
    have hu0 := hr.units0
    have ps : Passes (L2.CX P w) (cxOf (L2.CX P w) P w K mg base ["book", "keeper", "day", "term", "leave", "known", "owed", "given", "out", "spell", "free"] "settled" (defScope s_settled) D.f_settled cdv A outer s H E) E := passes_call (takes_of rfl rfl rfl rfl) (fun _ _ _ _ h => h)
    obtain ⟨b, rk, es, fp, kv, dv, tv, lv, nv, rfl, W, hl, hO, hL, q0, e1, e2, e3⟩ := h
    refine ⟨_, pss_cons (ps_expr (pe_call (okx_check_keeper D) (hr.mono (by decide)) (by rfl) D.h_check_keeper.gl D.h_check_keeper.fn.kp D.h_check_keeper.bd .nil ps (pa_cons (pv 0) (pa_cons (pv 1) pa_nil))))
      (pss_cons (ps_expr (pe_call (okx_check_days D) (hr.mono (by decide)) (by rfl) D.h_check_days.gl D.h_check_days.fn.kp D.h_check_days.bd .nil ps (pa_cons (pv 2) (pa_cons (pv 5) pa_nil))))
      (pss_cons (ps_expr (pe_call (okx_check_number D) (hr.mono (by decide)) (by rfl) D.h_check_number.gl D.h_check_number.fn.kp D.h_check_number.bd .nil ps (pa_cons (pv 3) (pa_cons pe_int pa_nil))))
      (pss_cons (ps_expr (pe_call (okx_check_number D) (hr.mono (by decide)) (by rfl) D.h_check_number.gl D.h_check_number.fn.kp D.h_check_number.bd .nil ps (pa_cons (pv 4) (pa_cons pe_int pa_nil))))
      (pss_cons (ps_set (i := 6) nd rfl (.inl rfl) (pe_lst pa_nil))
      (pss_cons (ps_set (i := 7) nd rfl (.inl rfl) (pe_lst pa_nil))
      (pss_cons (PS.nox (ps_for PassesOwn.never rfl (pi_list (pe_call (ok_spells D) (hr.mono (by decide)) (by rfl) D.h_spells.gl D.h_spells.fn.kp D.h_spells.bd .nil pass0 (pa_cons (pv 0) (pa_cons (pv 1) (pa_cons (pv 2) (pa_cons (pv 5) pa_nil)))))) (pg_tup rfl (pgs_cons (pg_name (i := 8) nd rfl (Or.inl rfl)) (pgs_cons (pg_name (i := 9) nd rfl (Or.inl rfl)) pgs_nil))) (pss_one (ps_if (pt_val (pv 8)) (pss_one (ps_set (i := 6) nd rfl (.inl rfl) (pe_op op_cat (pv 6) (pe_call (ok_days_behind D) (hr.mono (by decide)) (by rfl) D.h_days_behind.gl D.h_days_behind.fn.kp D.h_days_behind.bd .nil pass0 (pa_cons (pv 9) (pa_cons (pv 3) pa_nil)))))) (pss_one (PS.nox (ps_for PassesOwn.never rfl (pi_list (pe_call (ok_days_behind D) (hr.mono (by decide)) (by rfl) D.h_days_behind.gl D.h_days_behind.fn.kp D.h_days_behind.bd .nil pass0 (pa_cons (pv 9) (pa_cons (pv 4) pa_nil)))) (pg_name (i := 10) nd rfl (Or.inl rfl)) (pss_one (ps_set (i := 6) nd rfl (.inl rfl) (pe_call (ok_given_back D) (hr.mono (by decide)) (by rfl) D.h_given_back.gl D.h_given_back.fn.kp D.h_given_back.bd .nil pass0 (pa_cons (pv 6) (pa_cons (pv 10) (pa_cons (pv 7) pa_nil)))))))))))))
      (pss_one (ps_ret (pe_tup (pa_cons (pv 6) (pa_cons (pv 7) pa_nil))))))))))), ?_⟩
    refine ⟨_, rfl, _, rfl, b, rk, es, fp, kv, rfl, W, hO.ko, hO.kt, fun hk1 H1 s1 => ?_, e1⟩
    have hO1 := hO.mono s1
    refine ⟨_, rfl, _, rfl, dv, nv, rfl, hO1.d, hO1.n, fun hd1 => ?_, fun hd1 => e2 hk1 hd1 H1 s1⟩
    refine ⟨_, rfl, tv, 0, rfl, hO1.t, by decide, fun ht1 => ?_, fun ht1 => e3 hk1 hd1 (by rw [ht1]; rfl) H1 s1⟩
    refine ⟨_, rfl, lv, 0, rfl, hL.mono s1, by decide, fun hl1 => ?_, fun hl1 => e3 hk1 hd1 (by rw [hl1, Bool.and_false]) H1 s1⟩
    obtain ⟨z, rfl, hz⟩ := keep_str hk1
    have hd2 := hd1
    rw [Bool.and_eq_true] at hd2
    obtain ⟨day, rfl, d0⟩ := fromI hd2.1
    obtain ⟨kn, rfl, hk⟩ := kn_opt hd2.2
    obtain ⟨term, rfl, t0⟩ := fromI ht1
    obtain ⟨leave, rfl, v0⟩ := fromI hl1
    have q : ∀ (T o G : Addr) (rows : List LD.Row) (qs : List Giv) (H' : Hp), H' T = some (.tup [.ref o, .ref G]) → H o = none → H G = none → PartsAt D.C_Stretch H' o rows → IsOwed (outB es z kn) term leave (day + 1).toNat rows → rows.length ≤ 62 → GivAt H' G qs → IsGiv (outB es z kn) term leave (day + 1).toNat qs → qs.length ≤ 4000 → Same H H' → Q (.ref T) H' := fun T o G rows qs H' eT _ _ _ _ _ _ _ _ s => q0 hk1 hd1 ht1 hl1 T o G H' eT s
    refine ⟨by show 0 ≤ sizeLine; decide, fun O nO => ?_⟩
    have s2 := same_upd (o := .lst []) nO
    have eO := upd_same (H := H1) (a := O) (o := .lst [])
    generalize upd H1 O (.lst []) = H2 at *
    refine ⟨by show 0 ≤ sizeLine; decide, fun G nG => ?_⟩
    have s3 := same_upd (o := .lst []) nG
    have eG := upd_same (H := H2) (a := G) (o := .lst [])
    generalize upd H2 G (.lst []) = H3 at *
    have s13 := s2.trans s3
    have nG0 : H G = none := (s1.trans s2).free nG
    have nO0 : H O = none := s1.free nO
    have nOG : O ≠ G := ne_of_none eO nG
    refine ⟨_, rfl, _, rfl, _, rfl, _, rfl, b, rk, es, fp, z, day, kn, rfl, W.mono (s1.trans s13), hz, hl, hk, d0, fun l rs H4 nl R rl ra s4 => ?_⟩
    obtain ⟨ts, el, hts⟩ := ra
    have tl : ts.length = (spF day rs).length := Paired.length hts
    have sl := spF_len day rs
    have RS := rest_spR R d0
    generalize spF day rs = ss at *
    have nlG : l ≠ G := (ne_of_none eG nl).symm
    have t0' := t0
    refine ⟨l, rfl, ⟨_, SqL.of el⟩, for_list (xs := ts.map V.ref) (fun i σ H' => ∃ (O' : Addr) (rows : List LD.Row) (qs : List Giv) (n : Nat) (x8 x9 x10 : Option V), σ = [some (.ref b), some (.str z), some (.int day), some (.int term), some (.int leave), some (knV kn), some (.ref O'), some (.ref G), x8, x9, x10] ∧ SameB G H4 H' ∧ Rest (outB es z kn) day n (ss.drop i) ∧ IsOwed (outB es z kn) term leave n rows ∧ IsGiv (outB es z kn) term leave n qs ∧ PartsAt D.C_Stretch H' O' rows ∧ O' ≠ G ∧ H O' = none ∧ GivAt H' G qs ∧ rows.length ≤ i ∧ qs.length ≤ 64 * i)
      ⟨O, [], [], 0, none, none, none, rfl, SameB.of (Same.refl _), RS, ⟨⟨(fun r hr => by cases hr), List.Pairwise.nil⟩, (fun r hr => by cases hr), rfl⟩, ⟨rfl, (fun r hr => by cases hr), List.Pairwise.nil, (fun r hr => by cases hr)⟩, ⟨[], s4 _ _ (s3 _ _ eO), .nil⟩, nOG, nO0, ⟨[], s4 _ _ eG, .nil⟩, Nat.le_refl _, Nat.le_refl _⟩ (fun i σ H' _ ⟨_, _, _, _, _, _, _, _, s, _⟩ => SqL.of (s _ _ nlG el)) ?_ ?_⟩
    · rintro i y σ H5 hy ⟨O', rows, qs, n, x8, x9, x10, rfl, s5, RT, IO, IG, ⟨xs, eO5, hxs⟩, nO', nOH, GA, rl5, ql5⟩
      obtain ⟨t, r, rfl, hr, ⟨sx, ht, dx, hsx⟩⟩ := pick_at hts hy
      have il := (List.getElem?_eq_some_iff.mp hr).1
      obtain ⟨e, v, er, ne, ed, hg, hb, RT'⟩ := RT.at hr
      subst er
      have ntG : t ≠ G := ne_of ht (s4 _ _ eG) (by intro z; cases z)
      have nsG : sx ≠ G := ne_of hsx (s4 _ _ eG) (by intro z; cases z)
      have hst : StrAt D.C_Stretch H5 sx (n : Int) (some (e : Int)) := ⟨dx, s5 _ _ nsG hsx⟩
      have s05 : SameB G H H5 := (SameB.of (s1.trans (s13.trans s4))).trans s5
      have xl : xs.length = rows.length := Paired.length hxs
      refine ⟨t, _, rfl, SqT.of (s5 _ _ ntG ht), rfl, _, _, rfl, _, _, rfl, rfl, ?_⟩
      refine ⟨_, rfl, v, rfl, ?_⟩
      cases v with
      | true =>
        refine iteT ⟨_, rfl, _, rfl, _, rfl, sx, n, e, term, rfl, hst, by omega, t0, fun l' H6 nl' ⟨zs, el', hzs⟩ s6 => ?_⟩
        have zl : zs.length = (behindF n e term).length := Paired.length hzs
        have zl1 := behind_len n e term
        refine ⟨O', l', _, _, rfl, rfl, s6 _ _ eO5, el', by rw [List.length_map, List.length_map]; exact Nat.le_of_lt (small2k (by omega)), fun N nN => ?_⟩
        rw [← List.map_append]
        have s7 := same_upd (o := .lst ((xs ++ zs).map V.ref)) nN
        have eN := upd_same (H := H6) (a := N) (o := .lst ((xs ++ zs).map V.ref))
        generalize upd H6 N (.lst ((xs ++ zs).map V.ref)) = H7 at *
        have s57 := s6.trans s7
        have ng := GA.mono s57
        have nN0 : H N = none := by
          cases e : H N with
          | none => rfl
          | some w =>
            by_cases hNG : N = G
            · obtain ⟨gs, eg, _⟩ := GA
              rw [hNG, s6 _ _ eg] at nN
              cases nN
            · rw [(s05.trans (SameB.of s6)) _ _ hNG e] at nN
              cases nN
        have nNG : N ≠ G := fun hNG => by
          obtain ⟨gs, eg, _⟩ := GA
          rw [hNG, s6 _ _ eg] at nN
          cases nN
        refine ⟨N, rows ++ behindF n e term, qs, e + 1, _, _, _, rfl, s5.trans (SameB.of s57), RT', IO.out t0 v0 hb ne hg, IG.out t0 v0 ne hg, ⟨xs ++ zs, eN, paired_app (paired_imp (fun _ _ h => h.mono s57) hxs) (paired_imp (fun _ _ h => h.mono s7) hzs)⟩, nNG, nN0, ng, by rw [List.length_append]; omega, by omega⟩
      | false =>
        refine iteF ⟨_, rfl, _, rfl, sx, n, e, leave, rfl, hst, by omega, v0, fun l' H6 nl' ⟨zs, el', hzs⟩ s6 => ?_⟩
        have zl : zs.length = (behindF n e leave).length := Paired.length hzs
        have zl1 := behind_len n e leave
        have IG' := IG.ash IO t0 v0 (by rcases hb with h | h; exact .inl h; exact .inr h) ne hg
        have IO' := IO.ash t0 v0 (by rcases hb with h | h; exact .inl h; exact .inr h) ne hg
        have g5 := GA
        obtain ⟨gs0, eg0, _⟩ := g5
        have nlG' : l' ≠ G := (ne_of_none eg0 nl').symm
        have hrows : ∀ r ∈ rows, ∃ j, r.2 = some j ∧ 0 ≤ r.1 ∧ r.1 ≤ j := fun r hr => by
          obtain ⟨j, ej⟩ := IO.fin r hr
          have ok := IO.asc.ok r hr
          exact ⟨j, ej, ok.1, ok.2 j ej⟩
        refine ⟨l', rfl, ⟨_, SqL.of el'⟩, for_list (xs := zs.map V.ref) (fun k σ H' => ∃ (O2 : Addr) (x10 : Option V), σ = [some (.ref b), some (.str z), some (.int day), some (.int term), some (.int leave), some (knV kn), some (.ref O2), some (.ref G), some (.bl false), some (.ref sx), x10] ∧ SameB G H6 H' ∧ PartsAt D.C_Stretch H' O2 (if k = 0 then rows else giveF rows ((n : Int) + leave) e) ∧ O2 ≠ G ∧ H O2 = none ∧ GivAt H' G (if k = 0 then qs else qs ++ giveG rows ((n : Int) + leave) e))
          ⟨O', x10, rfl, SameB.of (Same.refl _), ⟨xs, s6 _ _ eO5, paired_imp (fun _ _ h => h.mono s6) hxs⟩, nO', nOH, GA.mono s6⟩ (fun k σ H' _ ⟨_, _, _, s, _⟩ => SqL.of (s _ _ nlG' el')) ?_ ?_⟩
        · rintro k y σ H7 hy ⟨O2, x10', rfl, s7, pa2, nO2, nO2H, GA2⟩
          obtain ⟨xf, p, rfl, hp, dxf, hxf⟩ := pick_at hzs hy
          have kl := (List.getElem?_eq_some_iff.mp hp).1
          have k0 : k = 0 := by omega
          subst k0
          have pe : behindF (n : Int) (e : Int) leave = [((n : Int) + leave, some (e : Int))] := by
            unfold behindF at kl ⊢
            split
            · rfl
            · rename_i hne
              rw [if_neg hne] at kl
              cases kl
          rw [pe] at hp
          have hp : p = ((n : Int) + leave, some (e : Int)) := (Option.some.inj hp).symm
          subst hp
          have hxf7 := s7 _ _ (ne_of hxf (s6 _ _ eg0) (by intro z; cases z)) hxf
          have pa2 : PartsAt D.C_Stretch H7 O2 rows := pa2
          have GA2 : GivAt H7 G qs := GA2
          refine ⟨_, rfl, _, rfl, _, rfl, O2, xf, G, rows, (n : Int) + leave, e, qs, rfl, pa2, ⟨dxf, hxf7⟩, GA2, by omega, hrows, by omega, by omega, nO2, fun O3 H8 nO3 pa3 GA3 s8 => ?_⟩
          have nO3G : O3 ≠ G := fun e => by
            obtain ⟨gs, eg, _⟩ := GA2
            rw [e, eg] at nO3
            cases nO3
          have nO30 : H O3 = none := by
            cases e : H O3 with
            | none => rfl
            | some w =>
              rw [((s05.trans (SameB.of s6)).trans s7) _ _ nO3G e] at nO3
              cases nO3
          exact ⟨O3, _, rfl, s7.trans s8, pa3, nO3G, nO30, GA3⟩
        · rintro σ H7 ⟨O2, x10', rfl, s7, pa2, nO2, nO2H, GA2⟩
          rw [List.length_map] at pa2 GA2
          have pa3 : PartsAt D.C_Stretch H7 O2 (giveF rows ((n : Int) + leave) e) := by
            by_cases hz : zs.length = 0
            · rw [if_pos hz] at pa2
              have : ¬ (n : Int) + leave ≤ e := fun h => by
                have : behindF (n : Int) (e : Int) leave = [((n : Int) + leave, some (e : Int))] := if_pos h
                rw [this] at zl
                rw [hz] at zl
                cases zl
              rw [(give_done this).1]
              exact pa2
            · rw [if_neg hz] at pa2
              exact pa2
          have GA3 : GivAt H7 G (qs ++ giveG rows ((n : Int) + leave) e) := by
            by_cases hz : zs.length = 0
            · rw [if_pos hz] at GA2
              have : ¬ (n : Int) + leave ≤ e := fun h => by
                have : behindF (n : Int) (e : Int) leave = [((n : Int) + leave, some (e : Int))] := if_pos h
                rw [this] at zl
                rw [hz] at zl
                cases zl
              rw [(give_done this).2, List.append_nil]
              exact GA2
            · rw [if_neg hz] at GA2
              exact GA2
          have k1 := give_len (rows := rows) (d := (n : Int) + leave) (l := e)
          have k2 := giveG_len (rows := rows) (d := (n : Int) + leave) (l := e)
          exact ⟨O2, _, qs ++ giveG rows ((n : Int) + leave) e, e + 1, _, _, _, rfl, (s5.trans (SameB.of s6)).trans s7, RT', IO', IG', pa3, nO2, nO2H, GA3, by omega, by rw [List.length_append]; omega⟩
    · rintro σ H5 ⟨O', rows, qs, n, x8, x9, x10, rfl, s5, RT, IO, IG, pa, nO', nOH, GA, rl5, ql5⟩
      rw [List.length_map, tl] at RT rl5 ql5
      have en := RT.fin
      have e2 : (day + 1).toNat = n := by omega
      refine ⟨_, rfl, _, rfl, by show 2 ≤ sizeLine; decide, fun T nT => ?_⟩
      have s6 := same_upd (o := .tup [V.ref O', V.ref G]) nT
      have eT := upd_same (H := H5) (a := T) (o := .tup [V.ref O', V.ref G])
      generalize upd H5 T (.tup [V.ref O', V.ref G]) = H6 at *
      rw [← e2] at IO IG
      exact q T O' G rows qs H6 eT nOH nG0 (pa.mono s6) IO (by omega) (GA.mono s6) IG (by omega) fun a o e => s6 _ _ (s5 _ _ (ne_of_none e nG0) ((s1.trans (s13.trans s4)) _ _ e))
theorem sc_days_owed : FnScope ["book", "keeper", "day", "term", "leave", "known"] ["book", "keeper", "day", "term", "leave", "known"] (defScope s_days_owed) := ⟨rfl, rfl, rfl, by decide +kernel, rfl, by decide +kernel, by decide +kernel⟩
theorem ok_days_owed (D : All K P mg) : FnOk P w K mg base (L2.CX P w) 10 D.f_days_owed D.d_days_owed ["book", "keeper", "day", "term", "leave", "known"] (spOwedX D.C_Book D.C_History D.C_NoKeeper D.C_NoDay D.C_NoNumber) := by
  refine D.q_days_owed.ok sc_days_owed (fun vs H Q E h => ?_) (fun cdv A outer s H vs Q E hr h => ?_)
  · first | (obtain ⟨_, rfl, _⟩ := h; rfl) | (obtain ⟨_, _, rfl, _⟩ := h; rfl) | (obtain ⟨_, _, _, rfl, _⟩ := h; rfl) | (obtain ⟨_, _, _, _, rfl, _⟩ := h; rfl) | (obtain ⟨_, _, _, _, _, rfl, _⟩ := h; rfl) | (obtain ⟨_, _, _, _, _, _, rfl, _⟩ := h; rfl) | (obtain ⟨_, _, _, _, _, _, _, rfl, _⟩ := h; rfl) | (obtain ⟨_, _, _, _, _, _, _, _, rfl, _⟩ := h; rfl) | (obtain ⟨_, _, _, _, _, _, _, _, _, rfl, _⟩ := h; rfl) | (obtain ⟨_, _, _, _, _, _, _, _, _, _, rfl, _⟩ := h; rfl) | (obtain ⟨_, _, _, _, _, _, _, _, _, _, _, rfl, _⟩ := h; rfl) | (obtain ⟨_, _, _, _, _, _, _, _, _, _, _, _, rfl, _⟩ := h; rfl) | (obtain ⟨_, _, _, _, _, _, _, _, _, _, _, _, _, rfl, _⟩ := h; rfl) | (obtain ⟨_, _, _, _, _, _, _, _, _, _, _, _, _, _, rfl, _⟩ := h; rfl) | (obtain ⟨_, _, _, _, _, _, _, _, _, _, _, _, _, _, _, rfl, _⟩ := h; rfl)
  · have T := D.T
    have nd := sc_days_owed.nd
    have hu := hr.units
    have hu1 := hu_of hr
    have hu0 := hr.units0
    have ps : Passes (L2.CX P w) (cxOf (L2.CX P w) P w K mg base ["book", "keeper", "day", "term", "leave", "known"] "days_owed" (defScope s_days_owed) D.f_days_owed cdv A outer s H E) E := passes_call (takes_of rfl rfl rfl rfl) (fun _ _ _ _ h => h)
    obtain ⟨b, rk, es, fp, kv, dv, tv, lv, nv, rfl, W, hl, hO, hL, q0, e1, e2, e3⟩ := h
    refine ⟨_, pss_one (ps_ret (pe_ix ix_tup (pe_call (ok_settled D) (hr.mono (by decide)) (by rfl) D.h_settled.gl D.h_settled.fn.kp D.h_settled.bd .nil ps (pa_cons (pv 0) (pa_cons (pv 1) (pa_cons (pv 2) (pa_cons (pv 3) (pa_cons (pv 4) (pa_cons (pv 5) pa_nil))))))) pe_int (fun _ _ => rfl))), ?_⟩
    exact ⟨_, rfl, _, rfl, _, rfl, _, rfl, _, rfl, _, rfl, b, rk, es, fp, kv, dv, tv, lv, nv, rfl, W, hl, hO, hL, fun a1 a2 a3 a4 T o G H1 eT s1 => ⟨T, _, 0, _, rfl, rfl, SqT.of eT, atI_nat (j := 0) rfl, q0 a1 a2 a3 a4 _ H1 s1⟩, e1, e2, e3⟩
theorem sc_days_given : FnScope ["book", "keeper", "day", "term", "leave", "known"] ["book", "keeper", "day", "term", "leave", "known"] (defScope s_days_given) := ⟨rfl, rfl, rfl, by decide +kernel, rfl, by decide +kernel, by decide +kernel⟩
theorem ok_days_given (D : All K P mg) : FnOk P w K mg base (L2.CX P w) 10 D.f_days_given D.d_days_given ["book", "keeper", "day", "term", "leave", "known"] (spOwedX D.C_Book D.C_History D.C_NoKeeper D.C_NoDay D.C_NoNumber) := by
  refine D.q_days_given.ok sc_days_given (fun vs H Q E h => ?_) (fun cdv A outer s H vs Q E hr h => ?_)
  · first | (obtain ⟨_, rfl, _⟩ := h; rfl) | (obtain ⟨_, _, rfl, _⟩ := h; rfl) | (obtain ⟨_, _, _, rfl, _⟩ := h; rfl) | (obtain ⟨_, _, _, _, rfl, _⟩ := h; rfl) | (obtain ⟨_, _, _, _, _, rfl, _⟩ := h; rfl) | (obtain ⟨_, _, _, _, _, _, rfl, _⟩ := h; rfl) | (obtain ⟨_, _, _, _, _, _, _, rfl, _⟩ := h; rfl) | (obtain ⟨_, _, _, _, _, _, _, _, rfl, _⟩ := h; rfl) | (obtain ⟨_, _, _, _, _, _, _, _, _, rfl, _⟩ := h; rfl) | (obtain ⟨_, _, _, _, _, _, _, _, _, _, rfl, _⟩ := h; rfl) | (obtain ⟨_, _, _, _, _, _, _, _, _, _, _, rfl, _⟩ := h; rfl) | (obtain ⟨_, _, _, _, _, _, _, _, _, _, _, _, rfl, _⟩ := h; rfl) | (obtain ⟨_, _, _, _, _, _, _, _, _, _, _, _, _, rfl, _⟩ := h; rfl) | (obtain ⟨_, _, _, _, _, _, _, _, _, _, _, _, _, _, rfl, _⟩ := h; rfl) | (obtain ⟨_, _, _, _, _, _, _, _, _, _, _, _, _, _, _, rfl, _⟩ := h; rfl)
  · have T := D.T
    have nd := sc_days_given.nd
    have hu := hr.units
    have hu1 := hu_of hr
    have hu0 := hr.units0
    have ps : Passes (L2.CX P w) (cxOf (L2.CX P w) P w K mg base ["book", "keeper", "day", "term", "leave", "known"] "days_given" (defScope s_days_given) D.f_days_given cdv A outer s H E) E := passes_call (takes_of rfl rfl rfl rfl) (fun _ _ _ _ h => h)
    obtain ⟨b, rk, es, fp, kv, dv, tv, lv, nv, rfl, W, hl, hO, hL, q0, e1, e2, e3⟩ := h
    refine ⟨_, pss_one (ps_ret (pe_ix ix_tup (pe_call (ok_settled D) (hr.mono (by decide)) (by rfl) D.h_settled.gl D.h_settled.fn.kp D.h_settled.bd .nil ps (pa_cons (pv 0) (pa_cons (pv 1) (pa_cons (pv 2) (pa_cons (pv 3) (pa_cons (pv 4) (pa_cons (pv 5) pa_nil))))))) pe_int (fun _ _ => rfl))), ?_⟩
    exact ⟨_, rfl, _, rfl, _, rfl, _, rfl, _, rfl, _, rfl, b, rk, es, fp, kv, dv, tv, lv, nv, rfl, W, hl, hO, hL, fun a1 a2 a3 a4 T o G H1 eT s1 => ⟨T, _, 1, _, rfl, rfl, SqT.of eT, atI_nat (j := 1) rfl, q0 a1 a2 a3 a4 _ H1 s1⟩, e1, e2, e3⟩
end
end K74
set_option Elab.async false
set_option linter.all false
set_option maxRecDepth 100000
set_option maxHeartbeats 1600000
/-! Own layer: what is handed in to days owed, right and wrong. -/
namespace LT
open PySem PySem.Spec PyProof.Rows L2 NdefX
/-- a text that shows shortly -/
structure Sho (z : Str) : Prop where
  ln : z.length ≤ 20
  ch : ∀ c ∈ z.cps.toList, c < 16 ^ 8
theorem Sho.repr {z : Str} (h : Sho z) : (reprText z).length ≤ 202 := by
  have h1 := StrLaws.reprText_len z h.ch
  have := h.ln
  omega
theorem Nm.sho {z : Str} (h : Nm z) : Sho z := ⟨by have := h.l8; omega, fun c hc => by
  have := h.al c hc
  unfold small at this
  rw [Bool.and_eq_true, decide_eq_true_eq, decide_eq_true_eq] at this
  omega⟩
inductive Hx (H : Hp) : V → PyData → Prop
  | non : Hx H .non .none
  | bl (b : Bool) : Hx H (.bl b) (.bool b)
  | int (i : Int) : i.natAbs ≤ 10 ^ 61 → Hx H (.int i) (.int i)
  | str (z : Str) : Sho z → Hx H (.str z) (.str z)
  | li {a : Addr} (n : Int) : n.natAbs ≤ 10 ^ 61 → H a = some (.lst [.int n]) → Hx H (.ref a) (.list [.int n])
  | ls {a : Addr} (z : Str) : Sho z → H a = some (.lst [.str z]) → Hx H (.ref a) (.list [.str z])
  | ti {a : Addr} (n : Int) : n.natAbs ≤ 10 ^ 61 → H a = some (.tup [.int n]) → Hx H (.ref a) (.tuple [.int n])
  | ts {a : Addr} (z : Str) : Sho z → H a = some (.tup [.str z]) → Hx H (.ref a) (.tuple [.str z])
  | dk {a : Addr} : H a = some (.dK []) → Hx H (.ref a) (.dict [])
theorem Hx.mono {H H' : Hp} {v : V} {d : PyData} (h : Hx H v d) (s : Same H H') : Hx H' v d := by
  cases h with
  | non => exact .non
  | bl b => exact .bl b
  | int i hi => exact .int i hi
  | str z a => exact .str z a
  | li n hn e => exact .li n hn (s _ _ e)
  | ls n hn e => exact .ls n hn (s _ _ e)
  | ti n hn e => exact .ti n hn (s _ _ e)
  | ts n hn e => exact .ts n hn (s _ _ e)
  | dk e => exact .dk (s _ _ e)
theorem Hx.look {H H' : Hp} {p : Addr} {v : V} {d : PyData} (h : Hx H v d) (hp : Pot H p) (s : SameB p H H') : Hx H' v d := by
  cases h with
  | non => exact .non
  | bl b => exact .bl b
  | int i hi => exact .int i hi
  | str z a => exact .str z a
  | li n hn e => exact .li n hn (s _ _ (ne_of_pot hp e) e)
  | ls n hn e => exact .ls n hn (s _ _ (ne_of_pot hp e) e)
  | ti n hn e => exact .ti n hn (s _ _ (ne_of_pot hp e) e)
  | ts n hn e => exact .ts n hn (s _ _ (ne_of_pot hp e) e)
  | dk e => exact .dk (s _ _ (ne_of_pot hp e) e)
/-- .. where a list is put otherwise -/
theorem Hx.other {H : Hp} {a : Addr} {xs : List V} {o : HO} {v : V} {d : PyData} (h : Hx H v d) (e : H a = some (.lst xs)) (n : 2 ≤ xs.length) : Hx (L2.upd H a o) v d := by
  have ne : ∀ {b : Addr} {u : HO}, H b = some u → (∀ x, u ≠ .lst x ∨ x.length ≤ 1) → L2.upd H a o b = some u := fun {b u} hb hu => by
    rw [upd_ne (fun z => ?_)]
    · exact hb
    · rw [z, e] at hb
      cases hb
      rcases hu xs with k | k
      · exact k rfl
      · omega
  cases h with
  | non => exact .non
  | bl b => exact .bl b
  | int i hi => exact .int i hi
  | str z a => exact .str z a
  | li n hn e => exact .li n hn (ne e fun x => by
      by_cases h : x.length ≤ 1
      · exact .inr h
      · exact .inl fun z => by cases z; exact h (Nat.le_refl _))
  | ls n hn e => exact .ls n hn (ne e fun x => by
      by_cases h : x.length ≤ 1
      · exact .inr h
      · exact .inl fun z => by cases z; exact h (Nat.le_refl _))
  | ti n hn e => exact .ti n hn (ne e fun x => .inl nofun)
  | ts n hn e => exact .ts n hn (ne e fun x => .inl nofun)
  | dk e => exact .dk (ne e fun x => .inl nofun)
theorem Hx.odd {H : Hp} {v : V} {d : PyData} (h : Hx H v d) : Odd H v := by
  cases h with
  | non => exact .non
  | bl b => exact .bl b
  | int i hi => exact .int i
  | str z a => exact .str z
  | li n hn e => exact .lst e
  | ls n hn e => exact .lst e
  | ti n hn e => exact .tup e
  | ts n hn e => exact .tup e
  | dk e => exact .dK e
theorem Hx.tx {H : Hp} {v : V} {d : PyData} (h : Hx H v d) : TxL v := fun z e => by
  subst e
  cases h with
  | str z a =>
    have := a.ln
    rw [sizeLine_eq]
    omega
theorem Hx.sd {K : PySem.W.Frag} {H : Hp} {v : V} {d : PyData} (h : Hx H v d) : Sd K H v d := by
  cases h with
  | non => exact .dp .non (by simp [PyData.hasDict])
  | bl b => exact .dp (.bl b) (by simp [PyData.hasDict])
  | int i hi => exact .dp (.int i) (by simp [PyData.hasDict])
  | str z a => exact .dp (.str z) (by simp [PyData.hasDict])
  | li n hn e => exact .dp (.lst (SqL.of e) (.cons (.int n) .nil)) (by simp [PyData.hasDict, PyData.hasDictAll])
  | ls n hn e => exact .dp (.lst (SqL.of e) (.cons (.str n) .nil)) (by simp [PyData.hasDict, PyData.hasDictAll])
  | ti n hn e => exact .dp (.tup (SqT.of e) (.cons (.int n) .nil)) (by simp [PyData.hasDict, PyData.hasDictAll])
  | ts n hn e => exact .dp (.tup (SqT.of e) (.cons (.str n) .nil)) (by simp [PyData.hasDict, PyData.hasDictAll])
  | dk e => exact .ed e
theorem Hx.show {H : Hp} {v : V} {d : PyData} (h : Hx H v d) : d.showable = true ∧ d.depth ≤ 3 ∧ d.shown.length ≤ 1000 := by
  cases h with
  | non => exact ⟨by simp [PyData.showable], by simp [PyData.depth], by simp only [PyData.shown]; decide +kernel⟩
  | bl b => exact ⟨by simp [PyData.showable], by simp [PyData.depth], by cases b <;> simp only [PyData.shown] <;> decide +kernel⟩
  | int i hi =>
    have := tlen61 hi
    exact ⟨by simp only [PyData.showable]; exact decide_eq_true (lg61 hi), by simp [PyData.depth], by simp only [PyData.shown]; omega⟩
  | str z a =>
    have := a.repr
    exact ⟨by simp [PyData.showable], by simp [PyData.depth], by simp only [PyData.shown]; omega⟩
  | li n hn e =>
    have := tlen61 hn
    have l := listText_len_le [Str.ofString (toString n)]
    simp only [List.map_cons, List.map_nil, List.sum_cons, List.sum_nil, List.length_cons, List.length_nil] at l
    exact ⟨by simp only [PyData.showable, PyData.showableAll, decide_eq_true (lg61 hn), Bool.and_self], by simp [PyData.depth, PyData.depthAll], by simp only [PyData.shown, PyData.shownAll]; omega⟩
  | ls z a e =>
    have := a.repr
    have l := listText_len_le [reprText z]
    simp only [List.map_cons, List.map_nil, List.sum_cons, List.sum_nil, List.length_cons, List.length_nil] at l
    exact ⟨by simp [PyData.showable, PyData.showableAll], by simp [PyData.depth, PyData.depthAll], by simp only [PyData.shown, PyData.shownAll]; omega⟩
  | ti n hn e =>
    have := tlen61 hn
    have l := tupleText_len_le [Str.ofString (toString n)]
    simp only [List.map_cons, List.map_nil, List.sum_cons, List.sum_nil, List.length_cons, List.length_nil] at l
    exact ⟨by simp only [PyData.showable, PyData.showableAll, decide_eq_true (lg61 hn), Bool.and_self], by simp [PyData.depth, PyData.depthAll], by simp only [PyData.shown, PyData.shownAll]; omega⟩
  | ts z a e =>
    have := a.repr
    have l := tupleText_len_le [reprText z]
    simp only [List.map_cons, List.map_nil, List.sum_cons, List.sum_nil, List.length_cons, List.length_nil] at l
    exact ⟨by simp [PyData.showable, PyData.showableAll], by simp [PyData.depth, PyData.depthAll], by simp only [PyData.shown, PyData.shownAll]; omega⟩
  | dk e => exact ⟨by simp [PyData.showable, PyData.showableKv], by simp [PyData.depth, PyData.depthKv], by simp only [PyData.shown, PyData.shownKv]; decide +kernel⟩
/-- what repr of such a list wants -/
theorem hx_list {K : PySem.W.Frag} {H : Hp} {vs : List V} {ds : List PyData} (h : Paired (Hx H) vs ds) (hl : ds.length ≤ 20) : Paired (Sd K H) vs ds ∧ (PyData.list ds).showable = true ∧ (PyData.list ds).depth ≤ 60 ∧ (PyData.list ds).shown.length ≤ sizeLine := by
  have all : PyData.showableAll ds = true ∧ PyData.depthAll ds ≤ 3 ∧ (∀ t ∈ PyData.shownAll ds, t.length ≤ 1000) ∧ (PyData.shownAll ds).length = ds.length := by
    clear hl
    induction h with
    | nil => exact ⟨by simp [PyData.showableAll], by simp [PyData.depthAll], by simp [PyData.shownAll], by simp [PyData.shownAll]⟩
    | cons a _ ih =>
      obtain ⟨i1, i2, i3, i4⟩ := ih
      obtain ⟨b1, b2, b3⟩ := a.show
      refine ⟨by simp only [PyData.showableAll, i1, b1, Bool.and_self], by simp only [PyData.depthAll]; omega, fun t ht => ?_, by simp only [PyData.shownAll, List.length_cons, i4]⟩
      simp only [PyData.shownAll] at ht
      rcases List.mem_cons.mp ht with rfl | ht
      · exact b3
      · exact i3 t ht
  obtain ⟨i1, i2, i3, i4⟩ := all
  exact ⟨paired_imp (fun _ _ h => h.sd) h, LV.list_shows i1 (by omega) i3 (by omega)⟩
/-! ### strange names -/
def cand5 (c : Nat) : Str := (⟨#[c]⟩ : Str) ++ Str.ofString "qzq"
theorem cand5_codes (c : Nat) : (cand5 c).cps.toList = [c, 113, 122, 113] := by
  unfold cand5
  rw [str_app_codes, show (Str.ofString "qzq").cps.toList = [113, 122, 113] by decide +kernel]
  rfl
theorem cand5_len (c : Nat) : (cand5 c).length = 4 := by
  show (cand5 c).cps.size = 4
  rw [← Array.length_toList, cand5_codes]
  rfl
theorem cand5_sho {c : Nat} (h : small c = true) : Sho (cand5 c) := by
  refine ⟨by rw [cand5_len]; decide, fun x hx => ?_⟩
  rw [cand5_codes] at hx
  unfold small at h
  rw [Bool.and_eq_true, decide_eq_true_eq, decide_eq_true_eq] at h
  simp only [List.mem_cons, List.not_mem_nil, or_false] at hx
  rcases hx with rfl | rfl | rfl | rfl <;> omega
theorem cand5_left {zs : List Str} (h : zs.length ≤ 25) : (abc.cps.toList.filter fun c => !decide (cand5 c ∈ zs)) ≠ [] := fun e => by
  have all : ∀ x ∈ abc.cps.toList.map cand5, x ∈ zs := fun x hx => by
    obtain ⟨c, hc, rfl⟩ := List.mem_map.mp hx
    rw [List.filter_eq_nil_iff] at e
    have := e c hc
    simpa using this
  have nd : (abc.cps.toList.map cand5).Nodup := by decide +kernel
  have := List.Nodup.length_le_of_subset nd all
  rw [List.length_map, abc_len] at this
  omega
theorem blank_no {z : Str} {zs : List Str} (h : Names zs) : z ++ Str.ofString " " ∉ zs := fun hm => by
  have := (h.nm _ hm).al 32 (by rw [str_app_codes, show (Str.ofString " ").cps.toList = [32] by decide +kernel]; exact List.mem_append_right _ List.mem_cons_self)
  exact absurd this (by decide)
theorem blank_sho {z : Str} (h : Nm z) : Sho (z ++ Str.ofString " ") := by
  refine ⟨by rw [str_app_len]; have := h.l8; have : (Str.ofString " ").length = 1 := by decide +kernel
             omega, fun c hc => ?_⟩
  rw [str_app_codes, show (Str.ofString " ").cps.toList = [32] by decide +kernel] at hc
  rcases List.mem_append.mp hc with hc | hc
  · exact h.sho.ch c hc
  · rw [List.mem_singleton.mp hc]; decide
theorem upper_codes {z : Str} (h : Nm z) : (Txt.upper z).cps.toList = z.cps.toList.map PyProof.Rows.up1 := by
  have hs : ∀ c ∈ z.cps.toList, c < 128 := fun c hc => by
    have := h.al c hc
    unfold small at this
    rw [Bool.and_eq_true, decide_eq_true_eq, decide_eq_true_eq] at this
    omega
  rw [PyProof.Rows.upper_ascii (x := z) hs]
  show (z.cps.map PyProof.Rows.up1).toList = _
  rw [Array.toList_map]
theorem up_big {c : Nat} (h : small c = true) : small (PyProof.Rows.up1 c) = false ∧ PyProof.Rows.up1 c < 128 := by
  have all : ∀ c ∈ List.range' 97 26, small (PyProof.Rows.up1 c) = false ∧ PyProof.Rows.up1 c < 128 := by decide +kernel
  unfold small at h
  rw [Bool.and_eq_true, decide_eq_true_iff, decide_eq_true_iff] at h
  exact all c (List.mem_range'_1.mpr ⟨h.1, by omega⟩)
theorem upper_no {z : Str} {zs : List Str} (h : Names zs) (hz : Nm z) : Txt.upper z ∉ zs := fun hm => by
  have l1 := hz.l1
  have e := upper_codes hz
  have al := (h.nm _ hm).al
  rw [e] at al
  cases hc : z.cps.toList with
  | nil =>
    have : z.length = z.cps.toList.length := (Array.length_toList ..).symm
    rw [hc] at this
    rw [this] at l1
    exact absurd l1 (by decide)
  | cons c r =>
    have := al (PyProof.Rows.up1 c) (by rw [hc]; exact List.mem_cons_self)
    rw [(up_big (hz.al c (by rw [hc]; exact List.mem_cons_self))).1] at this
    cases this
theorem upper_sho {z : Str} (hz : Nm z) : Sho (Txt.upper z) := by
  have e := upper_codes hz
  refine ⟨?_, fun c hc => ?_⟩
  · have h1 : (Txt.upper z).length = (Txt.upper z).cps.toList.length := (Array.length_toList ..).symm
    have h2 : z.length = z.cps.toList.length := (Array.length_toList ..).symm
    rw [h1, e, List.length_map, ← h2]
    have := hz.l8
    omega
  · rw [e] at hc
    obtain ⟨c0, h0, rfl⟩ := List.mem_map.mp hc
    have := (up_big (hz.al c0 h0)).2
    omega
/-! ### promises -/
def spNoKeeper : Sp := fun vs H Q _ => ∃ (p L : Addr) (zs : List Str), vs = [.ref p, .ref L] ∧ Pot H p ∧ H L = some (.lst (zs.map V.str)) ∧ Names zs ∧ 0 < zs.length ∧ zs.length ≤ 20 ∧
  ∀ (v : V) (d : PyData) (H' : Hp), Hx H' v d → (∀ z, v = .str z → z ∉ zs) → Pot H' p → SameB p H H' → Q v H'
def spNoDay : Sp := fun vs H Q _ => ∃ (p : Addr), vs = [.ref p] ∧ Pot H p ∧ ∀ (v : V) (d : PyData) (H' : Hp), Hx H' v d → fromB v 0 = false → knB v = false → Pot H' p → SameB p H H' → Q v H'
/-- is what is handed in right, by place -/
def chk (zs : List Str) (k : Nat) (v : V) : Bool :=
  if k = 0 then (match v with | .str z => decide (z ∈ zs) | _ => false) else if k = 2 then knB v else fromB v 0
theorem chk_keep {rk : List (Str × Int)} {zs : List Str} (e : rk.map (·.1) = zs) (v : V) : chk zs 0 v = keepB rk v := by
  subst e
  cases v <;> rfl
structure HdA (H : Hp) (zs : List Str) (bad : Nat → Bool) (vs : List V) (ds : List PyData) : Prop where
  hx : Paired (Hx H) vs ds
  ln : vs.length = 5
  ck : ∀ k v, vs[k]? = some v → chk zs k v = !bad k
def spHanded : Sp := fun vs H Q _ => ∃ (p L B : Addr) (zs : List Str) (bad : Nat → Bool), vs = [.ref p, .ref L, .ref B] ∧ Pot H p ∧ H L = some (.lst (zs.map V.str)) ∧ Names zs ∧ 0 < zs.length ∧ zs.length ≤ 20 ∧ H B = some (.lst ((List.range 5).map fun k => V.bl (bad k))) ∧
  ∀ (G : Addr) (ws : List V) (ds : List PyData) (H' : Hp), H G = none → H' G = some (.lst ws) → HdA H' zs bad ws ds → Pot H' p → SameB p H H' → Q (.ref G) H'
def dueW (way : Int) (bad : Nat → Bool) : Str :=
  if bad 0 = true then Str.ofString "keeper" else if (bad 1 || bad 2) = true then Str.ofString "day" else if (bad 3 || (bad 4 && decide (0 < way))) = true then Str.ofString "number" else Str.ofString "told"
def spWord74 (CB CH : Addr) : Sp := fun vs H Q _ => ∃ (way : Int) (b G : Addr) (rk : List (Str × Int)) (es : List Evt) (fp : List Addr) (zs : List Str) (bad : Nat → Bool) (ws : List V) (ds : List PyData), vs = [.int way, .ref b, .ref G] ∧ 0 ≤ way ∧ way ≤ 2 ∧ Bk CB CH H b rk es fp ∧ es.length ≤ 60 ∧ rk.map (·.1) = zs ∧ H G = some (.lst ws) ∧ HdA H zs bad ws ds ∧
  ∀ H', Same H H' → Q (.str (dueW way bad)) H'
def spDue74 : Sp := fun vs H Q _ => ∃ (way : Int) (B : Addr) (bad : Nat → Bool), vs = [.int way, .ref B] ∧ H B = some (.lst ((List.range 5).map fun k => V.bl (bad k))) ∧ Q (.str (dueW way bad)) H
def spTruths (CB CH : Addr) : Sp := fun vs H Q _ => ∃ (way : Int) (b : Addr) (rk : List (Str × Int)) (es : List Evt) (fp : List Addr) (z : Str), vs = [.int way, .ref b, .str z] ∧ 0 ≤ way ∧ way ≤ 2 ∧ Bk CB CH H b rk es fp ∧ es.length ≤ 60 ∧ z ∈ rk.map (·.1) ∧ Nm z ∧ ∀ H', Same H H' → Q (.bl true) H'
end LT
namespace LT
open PySem PySem.Spec PyProof.Rows L2 NdefX
theorem pairedSetX {α β : Type} {R : α → β → Prop} : ∀ {xs : List α} {ys : List β} (i : Nat) {a : α} {b : β}, Paired R xs ys → R a b → Paired R (xs.set i a) (ys.set i b)
  | _, _, _, _, _, .nil, _ => by simpa using Paired.nil
  | _, _, 0, _, _, .cons h k, r => .cons r k
  | _, _, i + 1, _, _, .cons h k, r => .cons h (pairedSetX i k r)
theorem HdA.set {H : Hp} {zs : List Str} {bad : Nat → Bool} {vs : List V} {ds : List PyData} (h : HdA H zs bad vs ds) (i : Nat) {v : V} {d : PyData} {b : Bool} (hx : Hx H v d) (hc : chk zs i v = !b) : HdA H zs (fun k => if k = i then b else bad k) (vs.set i v) (ds.set i d) := by
  refine ⟨pairedSetX i h.hx hx, by rw [List.length_set]; exact h.ln, fun k u hk => ?_⟩
  rw [List.getElem?_set] at hk
  by_cases e : i = k
  · subst e
    rw [if_pos rfl] at hk
    split at hk
    · cases hk
      rw [if_pos rfl]
      exact hc
    · cases hk
  · rw [if_neg e] at hk
    rw [if_neg (Ne.symm e)]
    exact h.ck k u hk
theorem HdA.look {H H' : Hp} {p : Addr} {zs : List Str} {bad : Nat → Bool} {vs : List V} {ds : List PyData} (h : HdA H zs bad vs ds) (hp : Pot H p) (s : SameB p H H') : HdA H' zs bad vs ds := ⟨paired_imp (fun _ _ k => k.look hp s) h.hx, h.ln, h.ck⟩
theorem HdA.mono {H H' : Hp} {zs : List Str} {bad : Nat → Bool} {vs : List V} {ds : List PyData} (h : HdA H zs bad vs ds) (s : Same H H') : HdA H' zs bad vs ds := ⟨paired_imp (fun _ _ k => k.mono s) h.hx, h.ln, h.ck⟩
theorem HdA.cg {H : Hp} {zs : List Str} {bad bad' : Nat → Bool} {vs : List V} {ds : List PyData} (h : HdA H zs bad vs ds) (e : ∀ k, k < 5 → bad k = bad' k) : HdA H zs bad' vs ds := ⟨h.hx, h.ln, fun k v hk => by
  have := (List.getElem?_eq_some_iff.mp hk).1
  have := h.ln
  rw [← e k (by omega)]
  exact h.ck k v hk⟩
/-- .. where the list itself is put otherwise -/
theorem HdA.upd {H : Hp} {G : Addr} {xs : List V} {o : HO} {zs : List Str} {bad : Nat → Bool} {vs : List V} {ds : List PyData} (h : HdA H zs bad vs ds) (e : H G = some (.lst xs)) (n : 2 ≤ xs.length) : HdA (L2.upd H G o) zs bad vs ds := ⟨paired_imp (fun _ _ k => k.other e n) h.hx, h.ln, h.ck⟩
theorem HdA.get {H : Hp} {zs : List Str} {bad : Nat → Bool} {vs : List V} {ds : List PyData} (h : HdA H zs bad vs ds) : ∃ kv dv nv tv lv dk dd dn dt dl, vs = [kv, dv, nv, tv, lv] ∧ ds = [dk, dd, dn, dt, dl] ∧ Hx H kv dk ∧ Hx H dv dd ∧ Hx H nv dn ∧ Hx H tv dt ∧ Hx H lv dl ∧ chk zs 0 kv = !bad 0 ∧ fromB dv 0 = !bad 1 ∧ knB nv = !bad 2 ∧ fromB tv 0 = !bad 3 ∧ fromB lv 0 = !bad 4 := by
  obtain ⟨hx, ln, ck⟩ := h
  match vs, ln with
  | [kv, dv, nv, tv, lv], _ =>
    have c0 := ck 0 kv rfl
    have c1 := ck 1 dv rfl
    have c2 := ck 2 nv rfl
    have c3 := ck 3 tv rfl
    have c4 := ck 4 lv rfl
    cases hx with
    | cons a hx =>
      cases hx with
      | cons b hx =>
        cases hx with
        | cons c hx =>
          cases hx with
          | cons d hx =>
            cases hx with
            | cons e hx =>
              cases hx
              exact ⟨kv, dv, nv, tv, lv, _, _, _, _, _, rfl, rfl, a, b, c, d, e, c0, c1, c2, c3, c4⟩
theorem ixNn {n j : Nat} (hj : j < n) : ixN n (j : Int) = some j := by
  unfold ixN
  rw [if_pos (by omega), if_pos (by omega)]
  rfl
theorem len_no_pot {ws : List V} (h : ws.length = 5) (a b : Int) : HO.lst ws ≠ .lst [.int a, .int b] := fun e => by
  have := HO.lst.inj e
  rw [this] at h
  cases h
/-- the list of what is handed in, as it is made -/
structure HdI (H0 H' : Hp) (p G : Addr) (zs : List Str) (bad : Nat → Bool) : Prop where
  ex : ∃ ws ds, H' G = some (.lst ws) ∧ HdA H' zs bad ws ds
  pot : Pot H' p
  sm : SameB p H0 H'
theorem HdI.look {H0 H' H'' : Hp} {p G : Addr} {zs : List Str} {bad : Nat → Bool} (h : HdI H0 H' p G zs bad) (s : SameB p H' H'') (hp : Pot H'' p) : HdI H0 H'' p G zs bad := by
  obtain ⟨ws, ds, e, k⟩ := h.ex
  exact ⟨⟨ws, ds, s _ _ (ne_of_pot h.pot e (len_no_pot k.ln)) e, k.look h.pot s⟩, hp, h.sm.trans s⟩
theorem HdI.cg {H0 H' : Hp} {p G : Addr} {zs : List Str} {bad bad' : Nat → Bool} (h : HdI H0 H' p G zs bad) (e : ∀ k, k < 5 → bad k = bad' k) : HdI H0 H' p G zs bad' := by
  obtain ⟨ws, ds, e1, k⟩ := h.ex
  exact ⟨⟨ws, ds, e1, k.cg e⟩, h.pot, h.sm⟩
theorem HdI.put {H0 H' : Hp} {p G : Addr} {zs : List Str} {bad : Nat → Bool} (h : HdI H0 H' p G zs bad) (hG : H0 G = none) (j : Nat) (hj : j < 5) {v : V} {d : PyData} {b : Bool} (hx : Hx H' v d) (hc : chk zs j v = !b) :
    ∃ ws, H' G = some (.lst ws) ∧ ixN ws.length (j : Int) = some j ∧ HdI H0 (L2.upd H' G (.lst (ws.set j v))) p G zs (fun k => if k = j then b else bad k) := by
  obtain ⟨ws, ds, e, k⟩ := h.ex
  have hl := k.ln
  refine ⟨ws, e, ixNn (by omega), ⟨_, _, upd_same, (k.set j hx hc).upd e (by omega)⟩, ?_, SameB.new hG h.sm⟩
  have n := ne_of_pot h.pot e (len_no_pot hl)
  exact h.pot.upd n
theorem chk_day {zs : List Str} {k : Nat} {v : V} (hk : 1 ≤ k) (h1 : fromB v 0 = false) (h2 : knB v = false) : chk zs k v = false := by
  unfold chk
  rw [if_neg (by omega)]
  split
  · exact h2
  · exact h1
theorem chk_no {zs : List Str} {v : V} (h : ∀ z, v = .str z → z ∉ zs) : chk zs 0 v = false := by
  cases v with
  | str z => exact decide_eq_false (h z rfl)
  | _ => rfl
theorem chk_non {zs : List Str} {k : Nat} (h0 : 1 ≤ k) (h2 : k ≠ 2) : chk zs k .non = false := by
  unfold chk
  rw [if_neg (by omega), if_neg h2]
  rfl
theorem bools_at {bad : Nat → Bool} {k : Nat} (h : k < 5) : atI ((List.range 5).map fun k => V.bl (bad k)) (k : Int) = some (.bl (bad k)) := atI_nat (by rw [List.getElem?_map, List.getElem?_range h]; rfl)
theorem bools_no_pot {bad : Nat → Bool} (a b : Int) : HO.lst ((List.range 5).map fun k => V.bl (bad k)) ≠ .lst [.int a, .int b] := fun e => by cases HO.lst.inj e
/-- xs.index(y) in an except suite -/
theorem pe_indexS {X : Cx} {a : Addr} {oe : Obj} {pn : List (Addr × Obj)} {o e : Expr} {to : TE} {t : TA} {apos cpos : Pos} (ho : PE (X.suite a ((a, oe) :: pn)) o to) (ha : PA (X.suite a ((a, oe) :: pn)) [e] t)
    (hbase : attributeBase o "index" X.env (eval o X.env) = eval o X.env := by rfl)
    (hfew : ((backTo cpos (starEach [e] X.env)).all (fun x => !x.1) && (backToKw cpos (keywordEach [] X.env)).all (fun x => x.1.isSome)
      && decide (([e] : List Expr).length + ([] : List Keyword).length + (if ([] : List Keyword).isEmpty then 0 else 1) < 30)) = true := by rfl)
    (hline : (apos.endLine == cpos.line) = true := by rfl) (hs : starEach [e] X.env = (false, eval e X.env) :: starEach [] X.env := by rfl) (hplain : (backTo cpos (starEach [] X.env)).any (·.1) = false := by rfl) :
    PE (X.suite a ((a, oe) :: pn)) (.Call (.Attribute o "index" apos) [e] [] cpos) (tBM X.K "list" (rIndex X.K) to t) :=
  pe_bm (X := X.suite a ((a, oe) :: pn)) PySem.F.plainAttrs_list PySem.F.slot_list_index PySem.F.type_list_index (mt_index (X := X.suite a ((a, oe) :: pn))) ho ha hbase hfew hline hs hplain
theorem hd_five {H : Hp} {zs : List Str} {z : Str} (hz : z ∈ zs) (hs : Sho z) {t : Int} (h0 : 0 ≤ t) (h1 : t ≤ 1) : HdA H zs (fun _ => false) [.str z, .int t, .int t, .int t, .int t] [.str z, .int t, .int t, .int t, .int t] := by
  have i : Hx H (.int t) (.int t) := .int _ (by omega)
  refine ⟨.cons (.str _ hs) (.cons i (.cons i (.cons i (.cons i .nil)))), rfl, fun k v hk => ?_⟩
  match k, hk with
  | 0, hk => cases hk; exact decide_eq_true hz
  | 1, hk => cases hk; exact decide_eq_true h0
  | 2, hk => cases hk; exact decide_eq_true h0
  | 3, hk => cases hk; exact decide_eq_true h0
  | 4, hk => cases hk; exact decide_eq_true h0
  | n + 5, hk => cases hk
theorem due_told (way : Int) : dueW way (fun _ => false) = Str.ofString "told" := rfl
theorem hd_truth {H : Hp} {zs : List Str} {z : Str} (hz : z ∈ zs) (hs : Sho z) {t : Int} (h0 : 0 ≤ t) (h1 : t ≤ 1) {k : Nat} (k1 : 1 ≤ k) (b : Bool) :
    HdA H zs (fun j => decide (j = k)) ([V.str z, .int t, .int t, .int t, .int t].set k (.bl b)) ([PyData.str z, .int t, .int t, .int t, .int t].set k (.bool b)) :=
  ((hd_five hz hs h0 h1).set k (b := true) (.bl b) (chk_day k1 rfl rfl)).cg fun j _ => by
    by_cases e : j = k
    · rw [if_pos e, decide_eq_true e]
    · rw [if_neg e, decide_eq_false e]
theorem bools_of {i : Nat} (h : i < 4) : [V.bl false] ++ ((List.range 4).map fun (j : Nat) => V.bl (decide (V.int (1 + (i : Int)) = V.int (1 + (j : Int))))) = (List.range 5).map fun j => V.bl (decide (j = i + 1)) := by
  have e : ∀ j : Nat, decide (V.int (1 + (i : Int)) = V.int (1 + (j : Int))) = decide (j + 1 = i + 1) := fun j => by
    rw [decide_eq_decide]
    exact ⟨fun h => by have := V.int.inj h; omega, fun h => by rw [show (1 : Int) + (i : Int) = 1 + (j : Int) by omega]⟩
  match i, h with
  | 0, _ => rfl
  | 1, _ => rfl
  | 2, _ => rfl
  | 3, _ => rfl
end LT
set_option Elab.async false
set_option linter.all false
set_option maxRecDepth 100000
set_option maxHeartbeats 1600000
/-! Own layer: within a try: calls with defaults, by keywords. -/
namespace LTS
open LT
open PySem PySem.Spec PyProof.Rows L2
section
variable {X : Cx} {CX : CXT} {k n : Nat} {f C : Addr} {fd : FuncData} {ps ks : List Str} {sp : Sp} {dvs : List V} {ds : List Value} {E : L2.St → XK} {x m : Str} {p pos apos : Pos} {e o : Expr} {es : List Expr} {kws : List Keyword} {ta : TE} {t tk : TA}
  {g : List Value → List Value → List Value} {gV : List V → List V → List V}
theorem run_fnSD {pins : List (Addr × Obj)} {σ : L2.St} {H : Hp} {s : Shared} {Q : VK} {us : List Value} {vs : List V} (F : FnOk X.prog X.w X.K X.mg X.base CX k f fd ps sp) (hr : Room k X.A) (hb : L2.Binds X.K fd ps ds) (hd : Vals dvs ds) (hx : PassesAt CX X σ (E σ))
    (I : Inv X pins σ H s) (r : Vals vs us) (h : sp (vs ++ dvs) H Q (E σ)) : wpAny (model X.prog X.w) X.A (call (.ref f) us) (EP X pins σ Q) X.xe s := by
  have r2 : Vals (vs ++ dvs) (us ++ ds) := r.append hd
  have hl : (us ++ ds).length = ps.length := by rw [← r2.length]; exact F.len _ _ _ _ h
  refine wpAny_call (codeAny_mono (F.run X.A X.stack s H ⟨us, []⟩ (us ++ ds) (vs ++ dvs) Q (E σ) hr I.env0 (hb s us I.kIn hl) r2 h) fun r s' hq => ?_)
  cases r with
  | error e => exact hx pins H s e s' I hq
  | ok fl =>
    cases fl with
    | ret u => exact I.after hq
    | next => exact False.elim hq
    | brk => exact False.elim hq
    | cont => exact False.elim hq
def tCallSD (sp : Sp) (dvs : List V) (E : L2.St → XK) (t : TA) : TE := fun σ H Q => t σ H fun vs H1 => sp (vs ++ dvs) H1 Q (E σ)
theorem pe_callSD (F : FnOk X.prog X.w X.K X.mg X.base CX k f fd ps sp) (hr : Room k X.A) (hg : Gl X x) (hm : X.mg x = some (.ref f)) (hk : PySem.W.keepIn X.K (.ref f) = true) (hb : L2.Binds X.K fd ps ds) (hd : Vals dvs ds) (hx : ∀ σ, PassesAt CX X σ (E σ))
    (ha : PA X (e :: es) t) (hdb : (x == ("__debug__" : Str)) = false := by decide) (he : starEach (e :: es) X.env = (false, eval e X.env) :: starEach es X.env := by rfl) (hpl : (backTo pos (starEach es X.env)).any (·.1) = false := by rfl) :
    PE X (.Call (.Name x p) (e :: es) [] pos) (tCallSD sp dvs E t) := by
  refine ⟨fun pins s σ H Q I h => ?_⟩
  refine wpAny_Call_Name_kw (ld_glob I hg hm ?_ hdb)
  refine PySem.W.callWith_K (h₀ := X.base) I.ok.mod.kin hk (thn (ha.run pos pins s σ H _ I h) fun us s1 ⟨vs, H1, I1, r, q⟩ => ⟨I1.kIn, ?_⟩) he hpl
  exact run_fnSD F hr hb hd (hx σ) I1 r q
end
/-- what a handler does with each of some classes, once -/
theorem joinE {EE : L2.XK} {J : Addr → Hp → Prop} {goal : Prop} (k : (∀ c Hx, J c Hx → EE (.ref c) none Hx) → goal) (h : ∀ c Hx, J c Hx → EE (.ref c) none Hx) : goal := k h
end LTS
set_option Elab.async false
set_option linter.all false
set_option maxRecDepth 100000
set_option maxHeartbeats 1600000
set_option pp.maxSteps 300
namespace K74
open PySem PySem.Spec PyProof.Rows L2 LT NdefX LamX
section
variable {P : Program} {w : World} {K : PySem.W.Frag} {mg : Str → Option Value} {base : Heap}
theorem sc__law_no_keeper : FnScope ["_law_pot_here", "_law_names_here", "_law_strange", "_law_some", "_law_letter"] ["_law_pot_here", "_law_names_here"] (defScope s__law_no_keeper) := ⟨rfl, rfl, rfl, by decide +kernel, rfl, by decide +kernel, by decide +kernel⟩
theorem ok__law_no_keeper (D : All K P mg) : FnOk P w K mg base CX0 2 D.f__law_no_keeper D.d__law_no_keeper ["_law_pot_here", "_law_names_here"] spNoKeeper := by
  refine D.h__law_no_keeper.fn.ok sc__law_no_keeper (fun vs H Q E h => ?_) (fun cdv A outer s H vs Q E hr h => ?_)
  · first | (obtain ⟨_, rfl, _⟩ := h; rfl) | (obtain ⟨_, _, rfl, _⟩ := h; rfl) | (obtain ⟨_, _, _, rfl, _⟩ := h; rfl) | (obtain ⟨_, _, _, _, rfl, _⟩ := h; rfl) | (obtain ⟨_, _, _, _, _, rfl, _⟩ := h; rfl) | (obtain ⟨_, _, _, _, _, _, rfl, _⟩ := h; rfl) | (obtain ⟨_, _, _, _, _, _, _, rfl, _⟩ := h; rfl) | (obtain ⟨_, _, _, _, _, _, _, _, rfl, _⟩ := h; rfl) | (obtain ⟨_, _, _, _, _, _, _, _, _, rfl, _⟩ := h; rfl) | (obtain ⟨_, _, _, _, _, _, _, _, _, _, rfl, _⟩ := h; rfl) | (obtain ⟨_, _, _, _, _, _, _, _, _, _, _, rfl, _⟩ := h; rfl) | (obtain ⟨_, _, _, _, _, _, _, _, _, _, _, _, rfl, _⟩ := h; rfl) | (obtain ⟨_, _, _, _, _, _, _, _, _, _, _, _, _, rfl, _⟩ := h; rfl) | (obtain ⟨_, _, _, _, _, _, _, _, _, _, _, _, _, _, rfl, _⟩ := h; rfl) | (obtain ⟨_, _, _, _, _, _, _, _, _, _, _, _, _, _, _, rfl, _⟩ := h; rfl)
  · have T := D.T
    have nd := sc__law_no_keeper.nd
    have hu := hr.units
    have hu1 := hu_of hr
    have hu0 := hr.units0
    obtain ⟨p, L, zs, rfl, hp, hL, hzs, z0, z1, q⟩ := h
    refine ⟨_, pss_cons (ps_set (i := 2) nd rfl (.inl rfl) (pe_ix ix_list (pe_lc (own := [("_law_letter", 4)]) (g := gName 4) rfl nd (pi_str pe_str) (blkOk_by (N := ["_law_pot_here", "_law_names_here", "_law_strange", "_law_some", "_law_letter"]) (sc := defScope s__law_no_keeper) (by decide +kernel)) (fun _ _ _ _ _ => (pg_name (i := 4) nd rfl (Or.inl rfl))) (fun _ _ _ _ _ => pts_one (pt_cmpR (show OpR _ (compareOp .NotIn) (rIn K true) from op_notIn_seq) (pe_op op_add_str (pv 4) pe_str) (pv 1) (by rfl))) (fun _ _ _ _ _ => (pe_op op_add_str (pv 4) pe_str))) pe_int (fun _ _ => rfl)))
      (pss_cons (ps_set (i := 3) nd rfl (.inl rfl) (pe_lst (pa_cons pe_non (pa_cons pe_int (pa_cons pe_bl (pa_cons pe_str (pa_cons pe_str (pa_cons (pv 2) (pa_cons (pe_tup (pa_cons (pe_ix ix_list (pv 1) pe_int (fun _ _ => rfl)) pa_nil)) (pa_cons (pe_lst (pa_cons (pe_ix ix_list (pv 1) pe_int (fun _ _ => rfl)) pa_nil)) (pa_cons pe_dnewK (pa_cons (pe_op op_add_str (pe_ix ix_list (pv 1) pe_int (fun _ _ => rfl)) pe_str) (pa_cons (pe_upper (pe_ix ix_list (pv 1) pe_int (fun _ _ => rfl))) pa_nil)))))))))))))
      (pss_one (ps_ret (pe_ix ix_list (pv 3) (pe_call (ok__law_take D) (hr.mono (by decide)) (by rfl) D.h__law_take.gl D.h__law_take.fn.kp D.h__law_take.bd .nil pass0 (pa_cons (pv 0) (pa_cons pe_int pa_nil))) (fun _ _ => rfl))))), ?_⟩
    have n0l : ∃ n0, zs[0]? = some n0 := ⟨_, List.getElem?_eq_getElem z0⟩
    obtain ⟨n0, hn0⟩ := n0l
    have nm0 := hzs.nm n0 (List.mem_of_getElem? hn0)
    have n8 := nm0.l8
    have hat : atI (zs.map V.str) 0 = some (.str n0) := atI_nat (j := 0) (by rw [List.getElem?_map, hn0]; rfl)
    refine ⟨abc, rfl, fun D nD => ?_⟩
    have nLD : L ≠ D := ne_of_none hL nD
    refine lc_it walk_str (fun i H' => Same H H' ∧ H' D = some (.lst (((abc.cps.toList.take i).filter fun c => !decide (cand5 c ∈ zs)).map fun c => V.str (cand5 c)))) ⟨same_upd nD, upd_same⟩ (fun _ _ _ _ => trivial) ?_ ?_
    · rintro j x H6 H7 hj ⟨s6, eD⟩ ⟨rfl, c, hc, rfl⟩
      have hc' : abc.cps.toList[j]? = some c := by rw [Array.getElem?_toList]; exact hc
      have grow : ((abc.cps.toList.take (j + 1)).filter fun c => !decide (cand5 c ∈ zs)) = ((abc.cps.toList.take j).filter fun c => !decide (cand5 c ∈ zs)) ++ if decide (cand5 c ∈ zs) = true then [] else [c] := by
        rw [take_snoc hc', List.filter_append, List.filter_cons, List.filter_nil]
        cases decide (cand5 c ∈ zs) <;> rfl
      have l1 : (⟨#[c]⟩ : Str).length = 1 := rfl
      have l3 : (Str.ofString "qzq").length = 3 := by decide +kernel
      have jl := (List.getElem?_eq_some_iff.mp hc').1
      rw [abc_len] at jl
      refine ⟨rfl, _, rfl, _, _, rfl, rfl, small_txt (by omega), _, rfl, L, _, rfl, .inl (SqL.of (s6 _ _ hL)), rfl, strs_flat zs, _, rfl, ?_⟩
      have ein : inV (.str ((⟨#[c]⟩ : Str) ++ Str.ofString "qzq")) (zs.map V.str) = decide (cand5 c ∈ zs) := inV_dec _ _
      show (if (!inV (.str ((⟨#[c]⟩ : Str) ++ Str.ofString "qzq")) (zs.map V.str)) = true then _ else _)
      by_cases hm2 : cand5 c ∈ zs
      · rw [ein, decide_eq_true hm2]
        rw [decide_eq_true hm2, if_pos rfl, List.append_nil] at grow
        refine iteF ⟨s6, ?_⟩
        rw [grow]
        exact eD
      · rw [ein, decide_eq_false hm2]
        rw [decide_eq_false hm2, if_neg nofun] at grow
        refine iteT ⟨_, rfl, _, _, rfl, rfl, small_txt (by omega), _, eD, ?_, same_app nD s6, ?_⟩
        · rw [List.length_map]
          have := List.length_filter_le (fun c => !decide (cand5 c ∈ zs)) (abc.cps.toList.take j)
          rw [List.length_take] at this
          exact small2k (by omega)
        · rw [upd_same, grow, List.map_append]
          rfl
    · rintro H1 ⟨s1, eD⟩
      rw [← Array.length_toList, List.take_length] at eD
      have ne := cand5_left (show zs.length ≤ 25 by omega)
      have mm := fun c (hc : c ∈ abc.cps.toList.filter fun c => !decide (cand5 c ∈ zs)) => List.mem_filter.mp hc
      generalize abc.cps.toList.filter (fun c => !decide (cand5 c ∈ zs)) = cs at *
      cases cs with
      | nil => exact absurd rfl ne
      | cons c0 cr =>
        obtain ⟨q1, q2⟩ := mm c0 List.mem_cons_self
        have hL1 := s1 _ _ hL
        have hp1 := hp.mono s1
        have lb : (Str.ofString " ").length = 1 := by decide +kernel
        refine ⟨D, _, 0, .str (cand5 c0), rfl, rfl, SqL.of eD, atI_nat (j := 0) rfl, ?_⟩
        refine ⟨_, rfl, _, rfl, L, _, 0, .str n0, rfl, rfl, SqL.of hL1, hat, by show 1 ≤ sizeLine; decide, fun t nt => ?_⟩
        have s2 := same_upd (o := .tup [V.str n0]) nt
        have et := upd_same (H := H1) (a := t) (o := .tup [V.str n0])
        generalize upd H1 t (.tup [V.str n0]) = H2 at *
        have hL2 := s2 _ _ hL1
        refine ⟨_, rfl, L, _, 0, .str n0, rfl, rfl, SqL.of hL2, hat, by show 1 ≤ sizeLine; decide, fun l nl => ?_⟩
        have s3 := same_upd (o := .lst [V.str n0]) nl
        have el := upd_same (H := H2) (a := l) (o := .lst [V.str n0])
        generalize upd H2 l (.lst [V.str n0]) = H3 at *
        have hL3 := s3 _ _ hL2
        refine fun dk ndk => ?_
        have s4 := same_upd (o := .dK []) ndk
        have ed := upd_same (H := H3) (a := dk) (o := .dK [])
        generalize upd H3 dk (.dK []) = H4 at *
        have hL4 := s4 _ _ hL3
        refine ⟨_, rfl, L, _, 0, .str n0, rfl, rfl, SqL.of hL4, hat, _, _, rfl, rfl, small_txt (by omega), ?_⟩
        refine ⟨_, rfl, L, _, 0, .str n0, rfl, rfl, SqL.of hL4, hat, ⟨_, rfl⟩, n0, rfl, rfl, by omega, by show 11 ≤ sizeLine; decide, fun S nS => ?_⟩
        have l1 : ∀ c : Nat, (⟨#[c]⟩ : Str).length = 1 := fun _ => rfl
        have s5 := same_upd (o := .lst [V.non, .int 7, .bl true, .str (Str.ofString ""), .str (Str.ofString "abcdefghi"), .str (cand5 c0), .ref t, .ref l, .ref dk, .str (n0 ++ Str.ofString " "), .str (Txt.upper n0)]) nS
        have eS := upd_same (H := H4) (a := S) (o := .lst [V.non, .int 7, .bl true, .str (Str.ofString ""), .str (Str.ofString "abcdefghi"), .str (cand5 c0), .ref t, .ref l, .ref dk, .str (n0 ++ Str.ofString " "), .str (Txt.upper n0)])
        obtain ⟨H5, hH5⟩ : ∃ H5, H5 = L2.upd H4 S (.lst [V.non, .int 7, .bl true, .str (Str.ofString ""), .str (Str.ofString "abcdefghi"), .str (cand5 c0), .ref t, .ref l, .ref dk, .str (n0 ++ Str.ofString " "), .str (Txt.upper n0)]) := ⟨_, rfl⟩
        rw [← hH5] at s5 eS ⊢
        have s15 := s2.trans (s3.trans (s4.trans s5))
        have s05 := s1.trans s15
        have hp5 := hp.mono s05
        refine ⟨_, rfl, _, rfl, p, 11, rfl, hp5, by decide, by decide, fun e H6 e0 e1 hp6 s6 => ?_⟩
        obtain ⟨v, hv, ev⟩ := at_any (xs := [V.non, .int 7, .bl true, .str (Str.ofString ""), .str (Str.ofString "abcdefghi"), .str (cand5 c0), .ref t, .ref l, .ref dk, .str (n0 ++ Str.ofString " "), .str (Txt.upper n0)]) e0 e1
        have eS6 := s6 _ _ (ne_of_pot hp5 eS) eS
        have fin : ∀ d, Hx H5 v d → (∀ z, v = .str z → z ∉ zs) → Q v H6 := fun d hx hn => q v d H6 (hx.look hp5 s6) hn hp6 ((SameB.of s05).trans s6)
        refine ⟨S, _, e, v, rfl, rfl, SqL.of eS6, ev, ?_⟩
        have ns : Sho (Str.ofString "") ∧ Sho (Str.ofString "abcdefghi") := by
          refine ⟨⟨by decide +kernel, ?_⟩, ⟨by decide +kernel, ?_⟩⟩
          · intro c hc; rw [show (Str.ofString "").cps.toList = [] by decide +kernel] at hc; cases hc
          · intro c hc
            have : (Str.ofString "abcdefghi").cps.toList.all (fun c => decide (c < 16 ^ 8)) = true := by decide +kernel
            exact of_decide_eq_true (List.all_eq_true.mp this c hc)
        have lg0 : Str.ofString "" ∉ zs := fun h => absurd (hzs.nm _ h).l1 (by decide +kernel)
        have lg9 : Str.ofString "abcdefghi" ∉ zs := fun h => absurd (hzs.nm _ h).l8 (by decide +kernel)
        simp only [List.mem_cons, List.not_mem_nil, or_false] at hv
        rcases hv with rfl | rfl | rfl | rfl | rfl | rfl | rfl | rfl | rfl | rfl | rfl
        · exact fin _ .non nofun
        · exact fin _ (.int 7 (by decide)) nofun
        · exact fin _ (.bl true) nofun
        · exact fin _ (.str _ ns.1) fun z e => by cases e; exact lg0
        · exact fin _ (.str _ ns.2) fun z e => by cases e; exact lg9
        · exact fin _ (.str _ (cand5_sho (abc_small c0 q1))) fun z e => by cases e; simpa using q2
        · exact fin _ (.ts n0 nm0.sho ((s3.trans (s4.trans s5)) _ _ et)) nofun
        · exact fin _ (.ls n0 nm0.sho ((s4.trans s5) _ _ el)) nofun
        · exact fin _ (.dk (s5 _ _ ed)) nofun
        · exact fin _ (.str _ (blank_sho nm0)) fun z e => by cases e; exact blank_no hzs
        · exact fin _ (.str _ (upper_sho nm0)) fun z e => by cases e; exact upper_no hzs nm0
theorem sc__law_no_day : FnScope ["_law_pot_here", "_law_pick"] ["_law_pot_here"] (defScope s__law_no_day) := ⟨rfl, rfl, rfl, by decide +kernel, rfl, by decide +kernel, by decide +kernel⟩
theorem ok__law_no_day (D : All K P mg) : FnOk P w K mg base CX0 2 D.f__law_no_day D.d__law_no_day ["_law_pot_here"] spNoDay := by
  refine D.h__law_no_day.fn.ok sc__law_no_day (fun vs H Q E h => ?_) (fun cdv A outer s H vs Q E hr h => ?_)
  · first | (obtain ⟨_, rfl, _⟩ := h; rfl) | (obtain ⟨_, _, rfl, _⟩ := h; rfl) | (obtain ⟨_, _, _, rfl, _⟩ := h; rfl) | (obtain ⟨_, _, _, _, rfl, _⟩ := h; rfl) | (obtain ⟨_, _, _, _, _, rfl, _⟩ := h; rfl) | (obtain ⟨_, _, _, _, _, _, rfl, _⟩ := h; rfl) | (obtain ⟨_, _, _, _, _, _, _, rfl, _⟩ := h; rfl) | (obtain ⟨_, _, _, _, _, _, _, _, rfl, _⟩ := h; rfl) | (obtain ⟨_, _, _, _, _, _, _, _, _, rfl, _⟩ := h; rfl) | (obtain ⟨_, _, _, _, _, _, _, _, _, _, rfl, _⟩ := h; rfl) | (obtain ⟨_, _, _, _, _, _, _, _, _, _, _, rfl, _⟩ := h; rfl) | (obtain ⟨_, _, _, _, _, _, _, _, _, _, _, _, rfl, _⟩ := h; rfl) | (obtain ⟨_, _, _, _, _, _, _, _, _, _, _, _, _, rfl, _⟩ := h; rfl) | (obtain ⟨_, _, _, _, _, _, _, _, _, _, _, _, _, _, rfl, _⟩ := h; rfl) | (obtain ⟨_, _, _, _, _, _, _, _, _, _, _, _, _, _, _, rfl, _⟩ := h; rfl)
  · have T := D.T
    have nd := sc__law_no_day.nd
    have hu := hr.units
    have hu1 := hu_of hr
    have hu0 := hr.units0
    obtain ⟨p, rfl, hp, q⟩ := h
    refine ⟨_, pss_cons (ps_set (i := 1) nd rfl (.inl rfl) (pe_call (ok__law_take D) (hr.mono (by decide)) (by rfl) D.h__law_take.gl D.h__law_take.fn.kp D.h__law_take.bd .nil pass0 (pa_cons (pv 0) (pa_cons pe_int pa_nil))))
      (pss_one (ps_ret (pe_ix ix_list (pe_lst (pa_cons (pe_un un_neg pe_int) (pa_cons pe_bl (pa_cons pe_bl (pa_cons pe_str (pa_cons (pe_lst (pa_cons pe_int pa_nil)) (pa_cons (pe_tup (pa_cons pe_int pa_nil)) (pa_cons pe_dnewK (pa_cons (pe_op op_sub (pe_un un_neg pe_int) (pe_call (ok__law_take D) (hr.mono (by decide)) (by rfl) D.h__law_take.gl D.h__law_take.fn.kp D.h__law_take.bd .nil pass0 (pa_cons (pv 0) (pa_cons (pe_op op_pow pe_int pe_int) pa_nil)))) pa_nil))))))))) (pv 1) (fun _ _ => rfl)))), ?_⟩
    refine ⟨_, rfl, p, 8, rfl, hp, by decide, by decide, fun e H1 e0 e1 hp1 s1 => ?_⟩
    refine ⟨_, rfl, by show 1 ≤ sizeLine; decide, fun l nl => ?_⟩
    have s2 := same_upd (o := .lst [V.int 0]) nl
    have el := upd_same (H := H1) (a := l) (o := .lst [V.int 0])
    generalize upd H1 l (.lst [V.int 0]) = H2 at *
    refine ⟨by show 1 ≤ sizeLine; decide, fun t nt => ?_⟩
    have s3 := same_upd (o := .tup [V.int 0]) nt
    have et := upd_same (H := H2) (a := t) (o := .tup [V.int 0])
    generalize upd H2 t (.tup [V.int 0]) = H3 at *
    refine fun dk ndk => ?_
    have s4 := same_upd (o := .dK []) ndk
    have ed := upd_same (H := H3) (a := dk) (o := .dK [])
    generalize upd H3 dk (.dK []) = H4 at *
    have s14 := s2.trans (s3.trans s4)
    have hp4 := hp1.mono s14
    refine ⟨_, rfl, _, rfl, _, _, rfl, rfl, ⟨by decide, by decide, by decide⟩, p, _, rfl, hp4, by decide, by decide, fun g H5 g0 g1 hp5 s5 => ⟨_, _, rfl, rfl, by show 8 ≤ sizeLine; decide, fun S nS => ?_⟩⟩
    have g1 : g < 10 ^ 50 := g1
    dsimp (config := { proj := false, iota := false }) only
    obtain ⟨big, hbig⟩ : ∃ big : Int, big = -1 - g := ⟨_, rfl⟩
    have s6 := same_upd (o := .lst [V.int (-1), .bl true, .bl false, .str (Str.ofString "0"), .ref l, .ref t, .ref dk, .int (-1 - g)]) nS
    have eS := upd_same (H := H5) (a := S) (o := .lst [V.int (-1), .bl true, .bl false, .str (Str.ofString "0"), .ref l, .ref t, .ref dk, .int (-1 - g)])
    have s16 := s1.trans ((SameB.of s14).trans (s5.trans (SameB.of s6)))
    have hp6 := hp5.mono s6
    obtain ⟨v, hv, ev⟩ := at_any (xs := [V.int (-1), .bl true, .bl false, .str (Str.ofString "0"), .ref l, .ref t, .ref dk, .int (-1 - g)]) e0 e1
    have fin : ∀ d, Hx (L2.upd H5 S (.lst [V.int (-1), .bl true, .bl false, .str (Str.ofString "0"), .ref l, .ref t, .ref dk, .int (-1 - g)])) v d → fromB v 0 = false → knB v = false → Q v (L2.upd H5 S (.lst [V.int (-1), .bl true, .bl false, .str (Str.ofString "0"), .ref l, .ref t, .ref dk, .int (-1 - g)])) := fun d hx h1 h2 => q v d _ hx h1 h2 hp6 s16
    refine ⟨_, rfl, S, _, e, v, rfl, rfl, SqL.of eS, ev, ?_⟩
    have n0 : Sho (Str.ofString "0") := by
      refine ⟨by decide +kernel, fun c hc => ?_⟩
      have : (Str.ofString "0").cps.toList.all (fun c => decide (c < 16 ^ 8)) = true := by decide +kernel
      exact of_decide_eq_true (List.all_eq_true.mp this c hc)
    have hl5 := s6 _ _ (s5 _ _ (ne_of_pot hp4 ((s3.trans s4) _ _ el)) ((s3.trans s4) _ _ el))
    have ht5 := s6 _ _ (s5 _ _ (ne_of_pot hp4 (s4 _ _ et)) (s4 _ _ et))
    have hd5 := s6 _ _ (s5 _ _ (ne_of_pot hp4 ed) ed)
    simp only [List.mem_cons, List.not_mem_nil, or_false] at hv
    rcases hv with rfl | rfl | rfl | rfl | rfl | rfl | rfl | rfl
    · exact fin _ (.int _ (by decide)) rfl rfl
    · exact fin _ (.bl true) rfl rfl
    · exact fin _ (.bl false) rfl rfl
    · exact fin _ (.str _ n0) rfl rfl
    · exact fin _ (.li 0 (by decide) hl5) rfl rfl
    · exact fin _ (.ti 0 (by decide) ht5) rfl rfl
    · exact fin _ (.dk hd5) rfl rfl
    · exact fin _ (.int _ (by omega)) (decide_eq_false (by omega)) (decide_eq_false (by omega))
theorem sc__law_handed : FnScope ["_law_pot_here", "_law_names_here", "_law_bad", "_law_good", "_law_k"] ["_law_pot_here", "_law_names_here", "_law_bad"] (defScope s__law_handed) := ⟨rfl, rfl, rfl, by decide +kernel, rfl, by decide +kernel, by decide +kernel⟩
theorem ok__law_handed (D : All K P mg) : FnOk P w K mg base CX0 3 D.f__law_handed D.d__law_handed ["_law_pot_here", "_law_names_here", "_law_bad"] spHanded := by
  refine D.h__law_handed.fn.ok sc__law_handed (fun vs H Q E h => ?_) (fun cdv A outer s H vs Q E hr h => ?_)
  · first | (obtain ⟨_, rfl, _⟩ := h; rfl) | (obtain ⟨_, _, rfl, _⟩ := h; rfl) | (obtain ⟨_, _, _, rfl, _⟩ := h; rfl) | (obtain ⟨_, _, _, _, rfl, _⟩ := h; rfl) | (obtain ⟨_, _, _, _, _, rfl, _⟩ := h; rfl) | (obtain ⟨_, _, _, _, _, _, rfl, _⟩ := h; rfl) | (obtain ⟨_, _, _, _, _, _, _, rfl, _⟩ := h; rfl) | (obtain ⟨_, _, _, _, _, _, _, _, rfl, _⟩ := h; rfl) | (obtain ⟨_, _, _, _, _, _, _, _, _, rfl, _⟩ := h; rfl) | (obtain ⟨_, _, _, _, _, _, _, _, _, _, rfl, _⟩ := h; rfl) | (obtain ⟨_, _, _, _, _, _, _, _, _, _, _, rfl, _⟩ := h; rfl) | (obtain ⟨_, _, _, _, _, _, _, _, _, _, _, _, rfl, _⟩ := h; rfl) | (obtain ⟨_, _, _, _, _, _, _, _, _, _, _, _, _, rfl, _⟩ := h; rfl) | (obtain ⟨_, _, _, _, _, _, _, _, _, _, _, _, _, _, rfl, _⟩ := h; rfl) | (obtain ⟨_, _, _, _, _, _, _, _, _, _, _, _, _, _, _, rfl, _⟩ := h; rfl)
  · have T := D.T
    have nd := sc__law_handed.nd
    have hu := hr.units
    have hu1 := hu_of hr
    have hu0 := hr.units0
    obtain ⟨p, L, B, zs, bad, rfl, hp, hL, hzs, z0, z1, hB, q⟩ := h
    refine ⟨_, pss_cons (ps_set (i := 3) nd rfl (.inl rfl) (pe_lst (pa_cons (pe_ix ix_list (pv 1) (pe_call (ok__law_take D) (hr.mono (by decide)) (by rfl) D.h__law_take.gl D.h__law_take.fn.kp D.h__law_take.bd .nil pass0 (pa_cons (pv 0) (pa_cons (pe_callB call_len_seq (by rfl) T.len PySem.boot_len (pa_cons (pv 1) pa_nil)) pa_nil))) (fun _ _ => rfl)) (pa_cons (pe_call (ok__law_take D) (hr.mono (by decide)) (by rfl) D.h__law_take.gl D.h__law_take.fn.kp D.h__law_take.bd .nil pass0 (pa_cons (pv 0) (pa_cons pe_int pa_nil))) (pa_cons (pe_call (ok__law_take D) (hr.mono (by decide)) (by rfl) D.h__law_take.gl D.h__law_take.fn.kp D.h__law_take.bd .nil pass0 (pa_cons (pv 0) (pa_cons pe_int pa_nil))) (pa_cons (pe_call (ok__law_take D) (hr.mono (by decide)) (by rfl) D.h__law_take.gl D.h__law_take.fn.kp D.h__law_take.bd .nil pass0 (pa_cons (pv 0) (pa_cons pe_int pa_nil))) pa_nil))))))
      (pss_cons (ps_expr (pe_bm PySem.F.plainAttrs_list PySem.F.slot_list_append PySem.F.type_list_append mt_append (pv 3) (pa_cons (pe_call (ok__law_take D) (hr.mono (by decide)) (by rfl) D.h__law_take.gl D.h__law_take.fn.kp D.h__law_take.bd .nil pass0 (pa_cons (pv 0) (pa_cons pe_int pa_nil))) pa_nil)))
      (pss_cons (ps_if (pt_cmpR op_eq (pe_call (ok__law_take D) (hr.mono (by decide)) (by rfl) D.h__law_take.gl D.h__law_take.fn.kp D.h__law_take.bd .nil pass0 (pa_cons (pv 0) (pa_cons pe_int pa_nil))) pe_int (nomark _)) (pss_one (ps_asg pe_non (pg_sub (pv 3) pe_int set_list))) pss_nil)
      (pss_cons (ps_if (pt_val (pe_ix ix_list (pv 2) pe_int (fun _ _ => rfl))) (pss_one (ps_asg (pe_call (ok__law_no_keeper D) (hr.mono (by decide)) (by rfl) D.h__law_no_keeper.gl D.h__law_no_keeper.fn.kp D.h__law_no_keeper.bd .nil pass0 (pa_cons (pv 0) (pa_cons (pv 1) pa_nil))) (pg_sub (pv 3) pe_int set_list))) pss_nil)
      (pss_cons (ps_for PassesOwn.never rfl (pi_range2 (by rfl) T.range (pa_cons pe_int (pa_cons pe_int pa_nil))) (pg_name (i := 4) nd rfl (Or.inl rfl)) (pss_one (ps_if (pt_val (pe_ix ix_list (pv 2) (pv 4) (fun _ _ => rfl))) (pss_cons (ps_asg (pe_call (ok__law_no_day D) (hr.mono (by decide)) (by rfl) D.h__law_no_day.gl D.h__law_no_day.fn.kp D.h__law_no_day.bd .nil pass0 (pa_cons (pv 0) pa_nil)) (pg_sub (pv 3) (pv 4) set_list))
      (pss_one (ps_if (PW.pt (pw_and (pt_cmpR op_ne (pv 4) pe_int (nomark _)) (pw_and1 (pt_cmpR op_eq (pe_call (ok__law_take D) (hr.mono (by decide)) (by rfl) D.h__law_take.gl D.h__law_take.fn.kp D.h__law_take.bd .nil pass0 (pa_cons (pv 0) (pa_cons pe_int pa_nil))) pe_int (nomark _))))) (pss_one (ps_asg pe_non (pg_sub (pv 3) (pv 4) set_list))) pss_nil))) pss_nil)))
      (pss_one (ps_ret (pv 3))))))), ?_⟩
    have n0l : ∃ n0, zs[0]? = some n0 := ⟨_, List.getElem?_eq_getElem z0⟩
    refine ⟨_, rfl, _, rfl, _, rfl, L, _, rfl, .inl (SqL.of hL), p, _, rfl, hp, by rw [List.length_map]; omega, by rw [List.length_map]; omega, fun e H1 e0 e1 hp1 s1 => ?_⟩
    obtain ⟨x, hx, ex⟩ := at_any e0 e1
    obtain ⟨n0, hn0, rfl⟩ := List.mem_map.mp hx
    have nm0 := hzs.nm n0 hn0
    have hzs' : ∀ z, z ∈ zs → z ∈ zs := fun _ h => h
    have hL1 := s1 _ _ (ne_of_pot hp hL strs_no_pot) hL
    refine ⟨L, _, e, .str n0, rfl, rfl, SqL.of hL1, ex, ?_⟩
    refine ⟨_, rfl, p, 40, rfl, hp1, by decide, by decide, fun d1 H2 d10 d11 hp2 s2 => ?_⟩
    refine ⟨_, rfl, p, 40, rfl, hp2, by decide, by decide, fun d2 H3 d20 d21 hp3 s3 => ?_⟩
    refine ⟨_, rfl, p, 9, rfl, hp3, by decide, by decide, fun d3 H4 d30 d31 hp4 s4 => ⟨by show 4 ≤ sizeLine; decide, fun G nG => ?_⟩⟩
    have s5 := same_upd (o := .lst [V.str n0, V.int d1, V.int d2, V.int d3]) nG
    have eG := upd_same (H := H4) (a := G) (o := .lst [V.str n0, V.int d1, V.int d2, V.int d3])
    generalize upd H4 G (.lst [V.str n0, V.int d1, V.int d2, V.int d3]) = H5 at *
    have hp5 := hp4.mono s5
    refine ⟨_, rfl, .inl ⟨rfl, _, SqL.of eG⟩, _, rfl, p, 9, rfl, hp5, by decide, by decide, fun d4 H6 d40 d41 hp6 s6 => ?_⟩
    have eG6 := s6 _ _ (ne_of_pot hp5 eG) eG
    refine ⟨G, _, _, rfl, rfl, eG6, by show 4 < sizeLine; decide, ?_⟩
    have nG0 : H G = none := SameB.none (s1.trans (s2.trans (s3.trans s4))) hp4 nG
    have J0 : HdI H (L2.upd H6 G (.lst ([V.str n0, V.int d1, V.int d2, V.int d3] ++ [V.int d4]))) p G zs (fun _ => false) := by
      refine ⟨⟨_, [.str n0, .int d1, .int d2, .int d3, .int d4], upd_same, HdA.upd ⟨.cons (.str _ nm0.sho) (.cons (.int _ (by omega)) (.cons (.int _ (by omega)) (.cons (.int _ (by omega)) (.cons (.int _ (by omega)) .nil)))), rfl, ?_⟩ eG6 (by show 2 ≤ 4; decide)⟩, hp6.upd (ne_of_pot hp6 eG6), SameB.new nG0 (s1.trans (s2.trans (s3.trans (s4.trans ((SameB.of s5).trans s6)))))⟩
      intro k v hk
      match k, hk with
      | 0, hk =>
        cases hk
        exact decide_eq_true (hzs' n0 hn0)
      | 1, hk => cases hk; exact decide_eq_true d10
      | 2, hk => cases hk; exact decide_eq_true d20
      | 3, hk => cases hk; exact decide_eq_true d30
      | 4, hk => cases hk; exact decide_eq_true d40
      | n + 5, hk => cases hk
    generalize L2.upd H6 G (.lst ([V.str n0, V.int d1, V.int d2, V.int d3] ++ [V.int d4])) = H7 at *
    apply joinA (α := Unit) (J := fun _ Hx => HdI H Hx p G zs (fun _ => false)) (sl := fun _ => [some (.ref p), some (.ref L), some (.ref B), some (.ref G), none])
    · intro h
      refine ⟨_, rfl, p, 2, rfl, J0.pot, by decide, by decide, fun t H8 t0 t1 hp8 s8 => ⟨rfl, _, rfl, ite2 (fun _ => ?_) (fun _ => h () H8 (J0.look s8 hp8))⟩⟩
      obtain ⟨ws, e, x, J⟩ := (J0.look s8 hp8).put nG0 2 (by decide) (v := .non) (b := false) .non rfl
      exact ⟨_, rfl, G, ws, 2, 2, rfl, rfl, e, x, h () _ (J.cg fun k _ => by split <;> rfl)⟩
    clear J0
    rintro ⟨⟩ H8 J8
    have nBp := ne_of_pot hp hB bools_no_pot
    have nLp := ne_of_pot hp hL strs_no_pot
    apply joinA (α := Unit) (J := fun _ Hx => HdI H Hx p G zs (fun k => decide (k < 0 + 1) && bad k)) (sl := fun _ => [some (.ref p), some (.ref L), some (.ref B), some (.ref G), none])
    · intro h
      refine ⟨_, rfl, B, _, 0, .bl (bad 0), rfl, rfl, SqL.of (J8.sm _ _ nBp hB), bools_at (k := 0) (by decide), _, rfl, ite2 (fun hb => ?_) (fun hb => ?_)⟩
      · refine ⟨_, rfl, _, rfl, p, L, zs, rfl, J8.pot, J8.sm _ _ nLp hL, hzs, z0, z1, fun v d H' hx hn hp' s' => ?_⟩
        obtain ⟨ws, e, x, J⟩ := (J8.look s' hp').put nG0 0 (by decide) (b := true) hx (chk_no hn)
        exact ⟨_, rfl, G, ws, 0, 0, rfl, rfl, e, x, h () _ (J.cg fun k _ => by
          split
          · rename_i e
            rw [e, hb]
            rfl
          · rename_i e
            rw [decide_eq_false (by omega)]
            rfl)⟩
      · exact h () _ (J8.cg fun k _ => by
          by_cases e : k = 0
          · rw [e, eq_false_of_ne_true hb, Bool.and_false]
          · rw [decide_eq_false (by omega)]
            rfl)
    rintro ⟨⟩ H9 J9
    refine ⟨1, 5, rfl, ⟨by decide, by decide, by decide, by decide⟩, for_range (lo := 1) (n := 4) (fun i σ H' => (∃ x4, σ = [some (.ref p), some (.ref L), some (.ref B), some (.ref G), x4]) ∧ HdI H H' p G zs (fun k => decide (k < i + 1) && bad k)) ⟨⟨none, rfl⟩, J9⟩ ?_ ?_⟩
    · rintro i σ H1 hi ⟨⟨x4, rfl⟩, J1⟩
      refine ⟨_, rfl, _, rfl, B, _, 1 + (i : Int), .bl (bad (i + 1)), rfl, rfl, SqL.of (J1.sm _ _ nBp hB), by rw [Int.add_comm]; exact bools_at (k := i + 1) (by omega), _, rfl, ite2 (fun hb => ?_) (fun hb => ?_)⟩
      · refine ⟨_, rfl, p, rfl, J1.pot, fun v d H2 hx h1 h2 hp2 s2 => ?_⟩
        obtain ⟨ws, e, x, J2⟩ := (J1.look s2 hp2).put nG0 (i + 1) (by omega) (b := true) hx (chk_day (by omega) h1 h2)
        have J2 := J2.cg (bad' := fun k => decide (k < i + 1 + 1) && bad k) fun k _ => by
          split
          · rename_i e
            rw [e, hb, decide_eq_true (by omega)]
            rfl
          · rename_i e
            by_cases l : k < i + 1
            · rw [decide_eq_true l, decide_eq_true (by omega)]
            · rw [decide_eq_false l, decide_eq_false (by omega)]
        refine ⟨_, rfl, _, rfl, G, ws, 1 + (i : Int), i + 1, rfl, rfl, e, by rw [Int.add_comm]; exact x, ?_⟩
        generalize L2.upd H2 G (.lst (ws.set (i + 1) v)) = H3 at *
        refine ⟨_, rfl, rfl, _, rfl, ite2 (fun hk2 => ⟨_, rfl, p, 5, rfl, J2.pot, by decide, by decide, fun t H4 t0 t1 hp4 s4 => ⟨rfl, _, rfl, ite2 (fun _ => ?_) (fun _ => ⟨⟨_, rfl⟩, J2.look s4 hp4⟩)⟩⟩) (fun _ => iteF ⟨⟨_, rfl⟩, J2⟩)⟩
        have n2 : i + 1 ≠ 2 := fun e => by
          rw [show (1 : Int) + (i : Int) = 2 by omega] at hk2
          cases hk2
        obtain ⟨ws', e', x', J3⟩ := (J2.look s4 hp4).put nG0 (i + 1) (by omega) (b := true) .non (chk_non (by omega) n2)
        refine ⟨_, rfl, _, rfl, G, ws', 1 + (i : Int), i + 1, rfl, rfl, e', by rw [Int.add_comm]; exact x', ⟨_, rfl⟩, J3.cg fun k _ => ?_⟩
        split
        · rename_i e
          rw [e, hb, decide_eq_true (by omega)]
          rfl
        · rfl
      · exact ⟨⟨_, rfl⟩, J1.cg fun k _ => by
          by_cases e : k = i + 1
          · rw [e, eq_false_of_ne_true hb, Bool.and_false, Bool.and_false]
          · by_cases l : k < i + 1
            · rw [decide_eq_true l, decide_eq_true (by omega)]
            · rw [decide_eq_false l, decide_eq_false (by omega)]⟩
    · rintro σ H1 ⟨⟨x4, rfl⟩, J1⟩
      obtain ⟨ws, ds, e, k⟩ := J1.ex
      exact ⟨_, rfl, q G ws ds H1 nG0 e (k.cg fun j hj => by rw [decide_eq_true (show j < 4 + 1 from hj)]; rfl) J1.pot J1.sm⟩
end
end K74
set_option Elab.async false
set_option linter.all false
set_option maxRecDepth 100000
set_option maxHeartbeats 8000000
set_option pp.maxSteps 300
namespace K74
open PySem PySem.Spec PyProof.Rows L2 LT NdefX LamX
section
variable {P : Program} {w : World} {K : PySem.W.Frag} {mg : Str → Option Value} {base : Heap}
theorem sc__law_word : FnScope ["_law_way", "_law_book_here", "_law_handed_here", "_law_keeper", "_law_day", "_law_known", "_law_term", "_law_leave", "_law_found", "e", "_law_kinds", "_law_beside"] ["_law_way", "_law_book_here", "_law_handed_here"] (defScope s__law_word) := ⟨rfl, rfl, rfl, by decide +kernel, rfl, by decide +kernel, by decide +kernel⟩
theorem ok__law_word (D : All K P mg) : FnOk P w K mg base CX0 12 D.f__law_word D.d__law_word ["_law_way", "_law_book_here", "_law_handed_here"] (spWord74 D.C_Book D.C_History) := by
  refine D.h__law_word.fn.ok sc__law_word (fun vs H Q E h => ?_) (fun cdv A outer s H vs Q E hr h => ?_)
  · first | (obtain ⟨_, rfl, _⟩ := h; rfl) | (obtain ⟨_, _, rfl, _⟩ := h; rfl) | (obtain ⟨_, _, _, rfl, _⟩ := h; rfl) | (obtain ⟨_, _, _, _, rfl, _⟩ := h; rfl) | (obtain ⟨_, _, _, _, _, rfl, _⟩ := h; rfl) | (obtain ⟨_, _, _, _, _, _, rfl, _⟩ := h; rfl) | (obtain ⟨_, _, _, _, _, _, _, rfl, _⟩ := h; rfl) | (obtain ⟨_, _, _, _, _, _, _, _, rfl, _⟩ := h; rfl) | (obtain ⟨_, _, _, _, _, _, _, _, _, rfl, _⟩ := h; rfl) | (obtain ⟨_, _, _, _, _, _, _, _, _, _, rfl, _⟩ := h; rfl) | (obtain ⟨_, _, _, _, _, _, _, _, _, _, _, rfl, _⟩ := h; rfl) | (obtain ⟨_, _, _, _, _, _, _, _, _, _, _, _, rfl, _⟩ := h; rfl) | (obtain ⟨_, _, _, _, _, _, _, _, _, _, _, _, _, rfl, _⟩ := h; rfl) | (obtain ⟨_, _, _, _, _, _, _, _, _, _, _, _, _, _, rfl, _⟩ := h; rfl) | (obtain ⟨_, _, _, _, _, _, _, _, _, _, _, _, _, _, _, rfl, _⟩ := h; rfl)
  · have T := D.T
    have nd := sc__law_word.nd
    have hu := hr.units
    have hu1 := hu_of hr
    have hu0 := hr.units0
    obtain ⟨way, b, G, rk, es, fp, zs, bad, ws, ds, rfl, w0, w2, W, hl, ek, hG, HD, q⟩ := h
    obtain ⟨_, v5_days_over, b5_days_over⟩ := D.q_days_over.binds1 (ps := ["book", "keeper", "day", "term", "known"]) 5 1 (by simp) (by rfl) (fun _ _ _ _ _ _ _ us its h1 h2 => match us, its, h1, h2 with | [_, _, _, _, _], [_], _, _ => ⟨_, rfl, rfl⟩)
    obtain ⟨_, v6_days_owed, b6_days_owed⟩ := D.q_days_owed.binds1 (ps := ["book", "keeper", "day", "term", "leave", "known"]) 6 2 (by simp) (by rfl) (fun _ _ _ _ _ _ _ us its h1 h2 => match us, its, h1, h2 with | [_, _, _, _, _, _], [_, _], _, _ => ⟨_, rfl, rfl⟩)
    obtain ⟨_, v6_days_given, b6_days_given⟩ := D.q_days_given.binds1 (ps := ["book", "keeper", "day", "term", "leave", "known"]) 6 2 (by simp) (by rfl) (fun _ _ _ _ _ _ _ us its h1 h2 => match us, its, h1, h2 with | [_, _, _, _, _, _], [_, _], _, _ => ⟨_, rfl, rfl⟩)
    refine ⟨_, pss_cons (ps_asg (pv 2) (pg_lst rfl (pgs_cons (pg_name (i := 3) nd rfl (Or.inl rfl)) (pgs_cons (pg_name (i := 4) nd rfl (Or.inl rfl)) (pgs_cons (pg_name (i := 5) nd rfl (Or.inl rfl)) (pgs_cons (pg_name (i := 6) nd rfl (Or.inl rfl)) (pgs_cons (pg_name (i := 7) nd rfl (Or.inl rfl)) pgs_nil)))))))
      (pss_cons (ps_set (i := 8) nd rfl (.inl rfl) pe_str)
      (pss_cons (ps_try_as (i := 9) rfl rfl nd rfl rfl ⟨rfl, by decide, .inl D.g_LightsError⟩ L2.takes0 (fun W pn xe tk _ => (pss_one (ps_if (pt_cmpR op_eq (pv 0) pe_int (nomark _)) (pss_one (ps_expr (LTS.pe_callSD (ok_days_over D) (hr.mono (by decide)) (by rfl) D.gl_days_over D.kp_days_over b5_days_over v5_days_over (fun σ => passAt tk σ) (pa_cons (pv 1) (pa_cons (pv 3) (pa_cons (pv 4) (pa_cons (pv 6) (pa_cons (pv 5) pa_nil)))))))) (pss_one (ps_if (pt_cmpR op_eq (pv 0) pe_int (nomark _)) (pss_one (ps_expr (LTS.pe_callSD (ok_days_owed D) (hr.mono (by decide)) (by rfl) D.gl_days_owed D.kp_days_owed b6_days_owed v6_days_owed (fun σ => passAt tk σ) (pa_cons (pv 1) (pa_cons (pv 3) (pa_cons (pv 4) (pa_cons (pv 6) (pa_cons (pv 7) (pa_cons (pv 5) pa_nil))))))))) (pss_one (ps_expr (LTS.pe_callSD (ok_days_given D) (hr.mono (by decide)) (by rfl) D.gl_days_given D.kp_days_given b6_days_given v6_days_given (fun σ => passAt tk σ) (pa_cons (pv 1) (pa_cons (pv 3) (pa_cons (pv 4) (pa_cons (pv 6) (pa_cons (pv 7) (pa_cons (pv 5) pa_nil)))))))))))))) (fun a oe cls d pn hz hf => (pss_cons (ps_set (i := 10) nd rfl (.inl rfl) (pe_lst (pa_cons (pe_callB (call_isS hz hf) (by rfl) T.isi (by decide +kernel) (pa_cons (pv 9) (pa_cons (pe_glob (v := .ref D.C_NoKeeper) (by rfl) D.g_NoKeeper rfl) pa_nil))) (pa_cons (pe_callB (call_isS hz hf) (by rfl) T.isi (by decide +kernel) (pa_cons (pv 9) (pa_cons (pe_glob (v := .ref D.C_NoDay) (by rfl) D.g_NoDay rfl) pa_nil))) (pa_cons (pe_callB (call_isS hz hf) (by rfl) T.isi (by decide +kernel) (pa_cons (pv 9) (pa_cons (pe_glob (v := .ref D.C_NoNumber) (by rfl) D.g_NoNumber rfl) pa_nil))) pa_nil)))))
      (pss_cons (ps_set (i := 11) nd rfl (.inl rfl) (pe_callB (call_isST hz hf) (by rfl) T.isi (by decide +kernel) (pa_cons (pv 9) (pa_cons (pe_tup (pa_cons (pe_glob (v := .ref D.C_Barred) (by rfl) D.g_Barred rfl) (pa_cons (pe_glob (v := .ref D.C_NoName) (by rfl) D.g_NoName rfl) (pa_cons (pe_glob (v := .ref D.C_NoPlace) (by rfl) D.g_NoPlace rfl) (pa_cons (pe_glob (v := .ref D.C_NoStretches) (by rfl) D.g_NoStretches rfl) pa_nil))))) pa_nil))))
      (pss_cons (ps_set (i := 8) nd rfl (.inl rfl) pe_str)
      (pss_one (ps_if (PW.pt (pw_and (pt_val (pe_callB (call_isS hz hf) (by rfl) T.isi (by decide +kernel) (pa_cons (pv 9) (pa_cons (pe_glob (v := .ref D.C_Wrong) (by rfl) D.g_Wrong rfl) pa_nil)))) (pw_and (pt_val (pe_callB (call_isS hz hf) (by rfl) T.isi (by decide +kernel) (pa_cons (pv 9) (pa_cons (pe_bltn (v := .ty "ValueError") (by rfl) T.ve (by decide +kernel) rfl) pa_nil)))) (pw_and (pt_not (pt_val (pv 11))) (pw_and1 (pt_cmpR op_eq (LT.pe_countS (pv 10) (pa_cons pe_bl pa_nil)) pe_int (nomark _))))))) (pss_one (ps_set (i := 8) nd rfl (.inl rfl) (pe_ix ix_listS (pe_lst (pa_cons pe_str (pa_cons pe_str (pa_cons pe_str pa_nil)))) (LT.pe_indexS (pv 10) (pa_cons pe_bl pa_nil)) (fun _ _ => rfl)))) pss_nil)))))))
      (pss_one (ps_ret (pv 8))))), ?_⟩
    obtain ⟨kv, dv, nv, tv, lv, dk, dd, dn, dt, dl, rfl, rfl, xk, xd, xn, xt, xl, ck, cd, cn, ct, cl⟩ := HD.get
    have O : OwX rk H kv dv tv nv := ⟨xk.odd, xk.tx, xd.odd, xt.odd, xn.odd⟩
    rw [chk_keep ek] at ck
    refine ⟨_, rfl, G, _, rfl, SqL.of hG, rfl, kv, _, rfl, dv, _, rfl, nv, _, rfl, tv, _, rfl, lv, _, rfl, rfl, ?_⟩
    have c0 : bad 0 = !keepB rk kv := by rw [ck, Bool.not_not]
    have c12 : (bad 1 || bad 2) = !(fromB dv 0 && knB nv) := by rw [cd, cn, Bool.not_and, Bool.not_not, Bool.not_not]
    have c34 : (bad 3 || bad 4) = !(fromB tv 0 && fromB lv 0) := by rw [ct, cl, Bool.not_and, Bool.not_not, Bool.not_not]
    have c3 : bad 3 = !fromB tv 0 := by rw [ct, Bool.not_not]
    have c5 : 0 < way → (bad 3 || (bad 4 && decide (0 < way))) = (bad 3 || bad 4) := fun h => by rw [decide_eq_true h, Bool.and_true]
    have c6 : way = 0 → (bad 3 || (bad 4 && decide (0 < way))) = bad 3 := fun h => by rw [h]; exact (by rw [show decide ((0 : Int) < 0) = false from rfl, Bool.and_false, Bool.or_false])
    have tl : bad 0 = false → (bad 1 || bad 2) = false → (bad 3 || (bad 4 && decide (0 < way))) = false → ∀ Hx, Same H Hx → Q (.str (Str.ofString "told")) Hx := fun h1 h2 h3 Hx s => by
      have := q Hx s
      unfold dueW at this
      rw [h1, if_neg nofun, h2, if_neg nofun, h3, if_neg nofun] at this
      exact this
    apply LTS.joinE (J := fun c Hx => Same H Hx ∧ ((c = D.C_NoKeeper ∧ bad 0 = true) ∨ (c = D.C_NoDay ∧ bad 0 = false ∧ (bad 1 || bad 2) = true) ∨ (c = D.C_NoNumber ∧ bad 0 = false ∧ (bad 1 || bad 2) = false ∧ (bad 3 || (bad 4 && decide (0 < way))) = true)))
    · intro hE
      have r0 : keepB rk kv = false → ∀ Hx, Same H Hx → _ := fun k Hx s => hE D.C_NoKeeper Hx ⟨s, .inl ⟨rfl, by rw [c0, k]; rfl⟩⟩
      have r1 : keepB rk kv = true → (fromB dv 0 && knB nv) = false → ∀ Hx, Same H Hx → _ := fun k d Hx s => hE D.C_NoDay Hx ⟨s, .inr (.inl ⟨rfl, by rw [c0, k]; rfl, by rw [c12, d]; rfl⟩)⟩
      have r2 : keepB rk kv = true → (fromB dv 0 && knB nv) = true → (bad 3 || (bad 4 && decide (0 < way))) = true → ∀ Hx, Same H Hx → _ := fun k d n Hx s => hE D.C_NoNumber Hx ⟨s, .inr (.inr ⟨rfl, by rw [c0, k]; rfl, by rw [c12, d]; rfl, n⟩)⟩
      refine ⟨_, rfl, rfl, _, rfl, ?_⟩
      by_cases h0 : way = 0
      · rw [decide_eq_true (show V.int way = V.int 0 by rw [h0])]
        have e6 := c6 h0
        exact iteT ⟨_, rfl, _, rfl, _, rfl, _, rfl, _, rfl, b, rk, es, fp, kv, dv, tv, nv, rfl, W, hl, O, fun k d t r Hx s => ⟨_, rfl, tl (by rw [c0, k]; rfl) (by rw [c12, d]; rfl) (by rw [e6, c3, t]; rfl) Hx s⟩, r0, r1, fun k d n => r2 k d (by rw [e6, c3, n]; rfl)⟩
      · have e5 := c5 (by omega)
        have n3 : (fromB tv 0 && fromB lv 0) = false → (bad 3 || (bad 4 && decide (0 < way))) = true := fun n => by rw [e5, c34, n]; rfl
        have t3 : fromB tv 0 = true → fromB lv 0 = true → (bad 3 || (bad 4 && decide (0 < way))) = false := fun t l => by rw [e5, c34, t, l]; rfl
        rw [decide_eq_false (show ¬ V.int way = V.int 0 from fun e => h0 (V.int.inj e))]
        refine iteF ⟨_, rfl, rfl, _, rfl, ite2 (fun h => ?_) (fun h => ?_)⟩
        · exact ⟨_, rfl, _, rfl, _, rfl, _, rfl, _, rfl, _, rfl, b, rk, es, fp, kv, dv, tv, lv, nv, rfl, W, hl, O, xl.odd, fun k d t l r Hx s => ⟨_, rfl, tl (by rw [c0, k]; rfl) (by rw [c12, d]; rfl) (t3 t l) Hx s⟩, r0, r1, fun k d n => r2 k d (n3 n)⟩
        · exact ⟨_, rfl, _, rfl, _, rfl, _, rfl, _, rfl, _, rfl, b, rk, es, fp, kv, dv, tv, lv, nv, rfl, W, hl, O, xl.odd, fun k d t l r Hx s => ⟨_, rfl, tl (by rw [c0, k]; rfl) (by rw [c12, d]; rfl) (t3 t l) Hx s⟩, r0, r1, fun k d n => r2 k d (n3 n)⟩
    · rintro c Hx ⟨s, ⟨rfl, h1⟩ | ⟨rfl, h1, h2⟩ | ⟨rfl, h1, h2, h3⟩⟩
      · refine ⟨true, D.exm_NoKeeper_LightsError, fun _ e ne => ?_, fun z => nomatch z⟩
        have hD : HasD none Hx := .inl rfl
        refine ⟨_, rfl, _, _, _, true, rfl, D.x_NoKeeper, hD, rfl, .own _, D.kit_NoKeeper_NoKeeper, _, rfl, _, _, _, false, rfl, D.x_NoKeeper, hD, rfl, .own _, D.kit_NoKeeper_NoDay, _, rfl, _, _, _, false, rfl, D.x_NoKeeper, hD, rfl, .own _, D.kit_NoKeeper_NoNumber, by show 3 ≤ sizeLine; decide, fun l nl => ?_⟩
        have s1 := same_upd (o := .lst [V.bl true, .bl false, .bl false]) nl
        have el := upd_same (H := Hx) (a := l) (o := .lst [V.bl true, .bl false, .bl false])
        generalize L2.upd Hx l (.lst [V.bl true, .bl false, .bl false]) = H2 at *
        refine ⟨_, rfl, by show 4 ≤ sizeLine; decide, fun tp ntp => ?_⟩
        have s2 := same_upd (o := .tup [V.ref D.C_Barred, .ref D.C_NoName, .ref D.C_NoPlace, .ref D.C_NoStretches]) ntp
        have et := upd_same (H := H2) (a := tp) (o := .tup [V.ref D.C_Barred, .ref D.C_NoName, .ref D.C_NoPlace, .ref D.C_NoStretches])
        generalize L2.upd H2 tp (.tup [V.ref D.C_Barred, .ref D.C_NoName, .ref D.C_NoPlace, .ref D.C_NoStretches]) = H3 at *
        have hD3 := hD.mono (s1.trans s2)
        have el3 := s2 _ _ el
        refine ⟨_, tp, _, [.ref D.C_Barred, .ref D.C_NoName, .ref D.C_NoPlace, .ref D.C_NoStretches], false, rfl, D.x_NoKeeper, hD3, rfl, et, .cons (.own _) (.cons (.own _) (.cons (.own _) (.cons (.own _) .nil))), kitAny_cons (b := false) D.kit_NoKeeper_Barred (fun _ => kitAny_cons (b := false) D.kit_NoKeeper_NoName (fun _ => kitAny_cons (b := false) D.kit_NoKeeper_NoPlace (fun _ => kitAny_cons (b := false) D.kit_NoKeeper_NoStretches (fun _ => rfl) nofun) nofun) nofun) nofun, ?_⟩
        refine ⟨_, rfl, _, _, _, true, rfl, D.x_NoKeeper, hD3, rfl, .own _, D.kit_NoKeeper_Wrong, _, rfl, ?_⟩
        refine ⟨_, rfl, _, _, _, true, rfl, D.x_NoKeeper, hD3, rfl, .ty _, D.kv_NoKeeper, _, rfl, ?_⟩
        refine ⟨_, rfl, _, rfl, ?_⟩
        refine ⟨_, rfl, .inl ⟨rfl, _, SqL.of el3⟩, l, _, _, rfl, rfl, SqL.of el3, rfl, rfl, rfl, _, rfl, ?_⟩
        rw [decide_eq_true (by rfl)]
        refine iteT ⟨by show 3 ≤ sizeLine; decide, fun w nw => ?_⟩
        have s3 := same_upd (o := .lst [V.str (Str.ofString "keeper"), .str (Str.ofString "day"), .str (Str.ofString "number")]) nw
        have ew := upd_same (H := H3) (a := w) (o := .lst [V.str (Str.ofString "keeper"), .str (Str.ofString "day"), .str (Str.ofString "number")])
        generalize L2.upd H3 w (.lst [V.str (Str.ofString "keeper"), .str (Str.ofString "day"), .str (Str.ofString "number")]) = H4 at *
        have el4 := s3 _ _ el3
        refine ⟨_, rfl, .inl ⟨rfl, _, SqL.of el4⟩, l, _, _, 0, .bl true, rfl, rfl, SqL.of el4, rfl, rfl, rfl, rfl, fun m z' hm hz => ?_, w, _, 0, .str (Str.ofString "keeper"), rfl, rfl, SqL.of ew, atI_nat (j := 0) rfl, ?_⟩
        · match m, hm, hz with
          | m, hm, _ => omega
        · have := q _ ((s.trans s1).trans (s2.trans s3))
          unfold dueW at this
          rw [if_pos h1] at this
          exact ⟨_, rfl, this⟩
      · refine ⟨true, D.exm_NoDay_LightsError, fun _ e ne => ?_, fun z => nomatch z⟩
        have hD : HasD none Hx := .inl rfl
        refine ⟨_, rfl, _, _, _, false, rfl, D.x_NoDay, hD, rfl, .own _, D.kit_NoDay_NoKeeper, _, rfl, _, _, _, true, rfl, D.x_NoDay, hD, rfl, .own _, D.kit_NoDay_NoDay, _, rfl, _, _, _, false, rfl, D.x_NoDay, hD, rfl, .own _, D.kit_NoDay_NoNumber, by show 3 ≤ sizeLine; decide, fun l nl => ?_⟩
        have s1 := same_upd (o := .lst [V.bl false, .bl true, .bl false]) nl
        have el := upd_same (H := Hx) (a := l) (o := .lst [V.bl false, .bl true, .bl false])
        generalize L2.upd Hx l (.lst [V.bl false, .bl true, .bl false]) = H2 at *
        refine ⟨_, rfl, by show 4 ≤ sizeLine; decide, fun tp ntp => ?_⟩
        have s2 := same_upd (o := .tup [V.ref D.C_Barred, .ref D.C_NoName, .ref D.C_NoPlace, .ref D.C_NoStretches]) ntp
        have et := upd_same (H := H2) (a := tp) (o := .tup [V.ref D.C_Barred, .ref D.C_NoName, .ref D.C_NoPlace, .ref D.C_NoStretches])
        generalize L2.upd H2 tp (.tup [V.ref D.C_Barred, .ref D.C_NoName, .ref D.C_NoPlace, .ref D.C_NoStretches]) = H3 at *
        have hD3 := hD.mono (s1.trans s2)
        have el3 := s2 _ _ el
        refine ⟨_, tp, _, [.ref D.C_Barred, .ref D.C_NoName, .ref D.C_NoPlace, .ref D.C_NoStretches], false, rfl, D.x_NoDay, hD3, rfl, et, .cons (.own _) (.cons (.own _) (.cons (.own _) (.cons (.own _) .nil))), kitAny_cons (b := false) D.kit_NoDay_Barred (fun _ => kitAny_cons (b := false) D.kit_NoDay_NoName (fun _ => kitAny_cons (b := false) D.kit_NoDay_NoPlace (fun _ => kitAny_cons (b := false) D.kit_NoDay_NoStretches (fun _ => rfl) nofun) nofun) nofun) nofun, ?_⟩
        refine ⟨_, rfl, _, _, _, true, rfl, D.x_NoDay, hD3, rfl, .own _, D.kit_NoDay_Wrong, _, rfl, ?_⟩
        refine ⟨_, rfl, _, _, _, true, rfl, D.x_NoDay, hD3, rfl, .ty _, D.kv_NoDay, _, rfl, ?_⟩
        refine ⟨_, rfl, _, rfl, ?_⟩
        refine ⟨_, rfl, .inl ⟨rfl, _, SqL.of el3⟩, l, _, _, rfl, rfl, SqL.of el3, rfl, rfl, rfl, _, rfl, ?_⟩
        rw [decide_eq_true (by rfl)]
        refine iteT ⟨by show 3 ≤ sizeLine; decide, fun w nw => ?_⟩
        have s3 := same_upd (o := .lst [V.str (Str.ofString "keeper"), .str (Str.ofString "day"), .str (Str.ofString "number")]) nw
        have ew := upd_same (H := H3) (a := w) (o := .lst [V.str (Str.ofString "keeper"), .str (Str.ofString "day"), .str (Str.ofString "number")])
        generalize L2.upd H3 w (.lst [V.str (Str.ofString "keeper"), .str (Str.ofString "day"), .str (Str.ofString "number")]) = H4 at *
        have el4 := s3 _ _ el3
        refine ⟨_, rfl, .inl ⟨rfl, _, SqL.of el4⟩, l, _, _, 1, .bl true, rfl, rfl, SqL.of el4, rfl, rfl, rfl, rfl, fun m z' hm hz => ?_, w, _, 1, .str (Str.ofString "day"), rfl, rfl, SqL.of ew, atI_nat (j := 1) rfl, ?_⟩
        · match m, hm, hz with
          | 0, _, hz => cases hz; rfl
        · have := q _ ((s.trans s1).trans (s2.trans s3))
          unfold dueW at this
          rw [h1, if_neg nofun, if_pos h2] at this
          exact ⟨_, rfl, this⟩
      · refine ⟨true, D.exm_NoNumber_LightsError, fun _ e ne => ?_, fun z => nomatch z⟩
        have hD : HasD none Hx := .inl rfl
        refine ⟨_, rfl, _, _, _, false, rfl, D.x_NoNumber, hD, rfl, .own _, D.kit_NoNumber_NoKeeper, _, rfl, _, _, _, false, rfl, D.x_NoNumber, hD, rfl, .own _, D.kit_NoNumber_NoDay, _, rfl, _, _, _, true, rfl, D.x_NoNumber, hD, rfl, .own _, D.kit_NoNumber_NoNumber, by show 3 ≤ sizeLine; decide, fun l nl => ?_⟩
        have s1 := same_upd (o := .lst [V.bl false, .bl false, .bl true]) nl
        have el := upd_same (H := Hx) (a := l) (o := .lst [V.bl false, .bl false, .bl true])
        generalize L2.upd Hx l (.lst [V.bl false, .bl false, .bl true]) = H2 at *
        refine ⟨_, rfl, by show 4 ≤ sizeLine; decide, fun tp ntp => ?_⟩
        have s2 := same_upd (o := .tup [V.ref D.C_Barred, .ref D.C_NoName, .ref D.C_NoPlace, .ref D.C_NoStretches]) ntp
        have et := upd_same (H := H2) (a := tp) (o := .tup [V.ref D.C_Barred, .ref D.C_NoName, .ref D.C_NoPlace, .ref D.C_NoStretches])
        generalize L2.upd H2 tp (.tup [V.ref D.C_Barred, .ref D.C_NoName, .ref D.C_NoPlace, .ref D.C_NoStretches]) = H3 at *
        have hD3 := hD.mono (s1.trans s2)
        have el3 := s2 _ _ el
        refine ⟨_, tp, _, [.ref D.C_Barred, .ref D.C_NoName, .ref D.C_NoPlace, .ref D.C_NoStretches], false, rfl, D.x_NoNumber, hD3, rfl, et, .cons (.own _) (.cons (.own _) (.cons (.own _) (.cons (.own _) .nil))), kitAny_cons (b := false) D.kit_NoNumber_Barred (fun _ => kitAny_cons (b := false) D.kit_NoNumber_NoName (fun _ => kitAny_cons (b := false) D.kit_NoNumber_NoPlace (fun _ => kitAny_cons (b := false) D.kit_NoNumber_NoStretches (fun _ => rfl) nofun) nofun) nofun) nofun, ?_⟩
        refine ⟨_, rfl, _, _, _, true, rfl, D.x_NoNumber, hD3, rfl, .own _, D.kit_NoNumber_Wrong, _, rfl, ?_⟩
        refine ⟨_, rfl, _, _, _, true, rfl, D.x_NoNumber, hD3, rfl, .ty _, D.kv_NoNumber, _, rfl, ?_⟩
        refine ⟨_, rfl, _, rfl, ?_⟩
        refine ⟨_, rfl, .inl ⟨rfl, _, SqL.of el3⟩, l, _, _, rfl, rfl, SqL.of el3, rfl, rfl, rfl, _, rfl, ?_⟩
        rw [decide_eq_true (by rfl)]
        refine iteT ⟨by show 3 ≤ sizeLine; decide, fun w nw => ?_⟩
        have s3 := same_upd (o := .lst [V.str (Str.ofString "keeper"), .str (Str.ofString "day"), .str (Str.ofString "number")]) nw
        have ew := upd_same (H := H3) (a := w) (o := .lst [V.str (Str.ofString "keeper"), .str (Str.ofString "day"), .str (Str.ofString "number")])
        generalize L2.upd H3 w (.lst [V.str (Str.ofString "keeper"), .str (Str.ofString "day"), .str (Str.ofString "number")]) = H4 at *
        have el4 := s3 _ _ el3
        refine ⟨_, rfl, .inl ⟨rfl, _, SqL.of el4⟩, l, _, _, 2, .bl true, rfl, rfl, SqL.of el4, rfl, rfl, rfl, rfl, fun m z' hm hz => ?_, w, _, 2, .str (Str.ofString "number"), rfl, rfl, SqL.of ew, atI_nat (j := 2) rfl, ?_⟩
        · match m, hm, hz with
          | 0, _, hz => cases hz; rfl
          | 1, _, hz => cases hz; rfl
        · have := q _ ((s.trans s1).trans (s2.trans s3))
          unfold dueW at this
          rw [h1, if_neg nofun, h2, if_neg nofun, if_pos h3] at this
          exact ⟨_, rfl, this⟩
end
end K74
set_option Elab.async false
set_option linter.all false
set_option maxRecDepth 100000
set_option maxHeartbeats 1600000
set_option pp.maxSteps 300
namespace K74
open PySem PySem.Spec PyProof.Rows L2 LT NdefX LamX
section
variable {P : Program} {w : World} {K : PySem.W.Frag} {mg : Str → Option Value} {base : Heap}
theorem sc__law_due : FnScope ["_law_way", "_law_bad"] ["_law_way", "_law_bad"] (defScope s__law_due) := ⟨rfl, rfl, rfl, by decide +kernel, rfl, by decide +kernel, by decide +kernel⟩
theorem ok__law_due (D : All K P mg) : FnOk P w K mg base CX0 1 D.f__law_due D.d__law_due ["_law_way", "_law_bad"] spDue74 := by
  refine D.h__law_due.fn.ok sc__law_due (fun vs H Q E h => ?_) (fun cdv A outer s H vs Q E hr h => ?_)
  · first | (obtain ⟨_, rfl, _⟩ := h; rfl) | (obtain ⟨_, _, rfl, _⟩ := h; rfl) | (obtain ⟨_, _, _, rfl, _⟩ := h; rfl) | (obtain ⟨_, _, _, _, rfl, _⟩ := h; rfl) | (obtain ⟨_, _, _, _, _, rfl, _⟩ := h; rfl) | (obtain ⟨_, _, _, _, _, _, rfl, _⟩ := h; rfl) | (obtain ⟨_, _, _, _, _, _, _, rfl, _⟩ := h; rfl) | (obtain ⟨_, _, _, _, _, _, _, _, rfl, _⟩ := h; rfl) | (obtain ⟨_, _, _, _, _, _, _, _, _, rfl, _⟩ := h; rfl) | (obtain ⟨_, _, _, _, _, _, _, _, _, _, rfl, _⟩ := h; rfl) | (obtain ⟨_, _, _, _, _, _, _, _, _, _, _, rfl, _⟩ := h; rfl) | (obtain ⟨_, _, _, _, _, _, _, _, _, _, _, _, rfl, _⟩ := h; rfl) | (obtain ⟨_, _, _, _, _, _, _, _, _, _, _, _, _, rfl, _⟩ := h; rfl) | (obtain ⟨_, _, _, _, _, _, _, _, _, _, _, _, _, _, rfl, _⟩ := h; rfl) | (obtain ⟨_, _, _, _, _, _, _, _, _, _, _, _, _, _, _, rfl, _⟩ := h; rfl)
  · have T := D.T
    have nd := sc__law_due.nd
    have hu := hr.units
    have hu1 := hu_of hr
    have hu0 := hr.units0
    obtain ⟨way, B, bad, rfl, hB, q⟩ := h
    refine ⟨_, pss_cons (ps_if (pt_val (pe_ix ix_list (pv 1) pe_int (fun _ _ => rfl))) (pss_one (ps_ret pe_str)) pss_nil)
      (pss_cons (ps_if (PW.pt (pw_or (pt_val (pe_ix ix_list (pv 1) pe_int (fun _ _ => rfl))) (pw_or1 (pt_val (pe_ix ix_list (pv 1) pe_int (fun _ _ => rfl)))))) (pss_one (ps_ret pe_str)) pss_nil)
      (pss_cons (ps_if (PW.pt (pw_or (pt_val (pe_ix ix_list (pv 1) pe_int (fun _ _ => rfl))) (pw_or1 (PW.pt (pw_and (pt_val (pe_ix ix_list (pv 1) pe_int (fun _ _ => rfl))) (pw_and1 (pt_cmpR op_gt (pv 0) pe_int (nomark _)))))))) (pss_one (ps_ret pe_str)) pss_nil)
      (pss_one (ps_ret pe_str)))), ?_⟩
    unfold dueW at q
    refine ⟨_, rfl, B, _, 0, .bl (bad 0), rfl, rfl, SqL.of hB, bools_at (k := 0) (by decide), _, rfl, ite2 (fun h0 => ?_) (fun h0 => ?_)⟩
    · rw [h0, if_pos rfl] at q
      exact q
    rw [eq_false_of_ne_true h0, if_neg nofun] at q
    refine ⟨_, rfl, B, _, 1, .bl (bad 1), rfl, rfl, SqL.of hB, bools_at (k := 1) (by decide), _, rfl, ite2 (fun h1 => ?_) (fun h1 => ?_)⟩
    · rw [h1, Bool.true_or, if_pos rfl] at q
      exact q
    rw [eq_false_of_ne_true h1, Bool.false_or] at q
    refine ⟨_, rfl, B, _, 2, .bl (bad 2), rfl, rfl, SqL.of hB, bools_at (k := 2) (by decide), _, rfl, ite2 (fun h2 => ?_) (fun h2 => ?_)⟩
    · rw [h2, if_pos rfl] at q
      exact q
    rw [eq_false_of_ne_true h2, if_neg nofun] at q
    refine ⟨_, rfl, B, _, 3, .bl (bad 3), rfl, rfl, SqL.of hB, bools_at (k := 3) (by decide), _, rfl, ite2 (fun h3 => ?_) (fun h3 => ?_)⟩
    · rw [h3, Bool.true_or, if_pos rfl] at q
      exact q
    rw [eq_false_of_ne_true h3, Bool.false_or] at q
    refine ⟨_, rfl, B, _, 4, .bl (bad 4), rfl, rfl, SqL.of hB, bools_at (k := 4) (by decide), _, rfl, ite2 (fun h4 => ?_) (fun h4 => ?_)⟩
    · rw [h4, Bool.true_and] at q
      refine ⟨_, rfl, _, _, rfl, rfl, ?_⟩
      refine ⟨_, rfl, ite2 (fun h5 => ?_) (fun h5 => ?_)⟩
      · rw [if_pos h5] at q
        exact q
      · rw [if_neg h5] at q
        exact q
    · rw [eq_false_of_ne_true h4, Bool.false_and, if_neg nofun] at q
      exact iteF q
theorem sc__law_truths_right : FnScope ["_law_way", "_law_book_here", "_law_name", "_law_k", "_law_truth", "_law_handed_here", "_law_due_here", "_law_j"] ["_law_way", "_law_book_here", "_law_name"] (defScope s__law_truths_right) := ⟨rfl, rfl, rfl, by decide +kernel, rfl, by decide +kernel, by decide +kernel⟩
theorem ok__law_truths_right (D : All K P mg) : FnOk P w K mg base CX0 13 D.f__law_truths_right D.d__law_truths_right ["_law_way", "_law_book_here", "_law_name"] (spTruths D.C_Book D.C_History) := by
  refine D.h__law_truths_right.fn.ok sc__law_truths_right (fun vs H Q E h => ?_) (fun cdv A outer s H vs Q E hr h => ?_)
  · first | (obtain ⟨_, rfl, _⟩ := h; rfl) | (obtain ⟨_, _, rfl, _⟩ := h; rfl) | (obtain ⟨_, _, _, rfl, _⟩ := h; rfl) | (obtain ⟨_, _, _, _, rfl, _⟩ := h; rfl) | (obtain ⟨_, _, _, _, _, rfl, _⟩ := h; rfl) | (obtain ⟨_, _, _, _, _, _, rfl, _⟩ := h; rfl) | (obtain ⟨_, _, _, _, _, _, _, rfl, _⟩ := h; rfl) | (obtain ⟨_, _, _, _, _, _, _, _, rfl, _⟩ := h; rfl) | (obtain ⟨_, _, _, _, _, _, _, _, _, rfl, _⟩ := h; rfl) | (obtain ⟨_, _, _, _, _, _, _, _, _, _, rfl, _⟩ := h; rfl) | (obtain ⟨_, _, _, _, _, _, _, _, _, _, _, rfl, _⟩ := h; rfl) | (obtain ⟨_, _, _, _, _, _, _, _, _, _, _, _, rfl, _⟩ := h; rfl) | (obtain ⟨_, _, _, _, _, _, _, _, _, _, _, _, _, rfl, _⟩ := h; rfl) | (obtain ⟨_, _, _, _, _, _, _, _, _, _, _, _, _, _, rfl, _⟩ := h; rfl) | (obtain ⟨_, _, _, _, _, _, _, _, _, _, _, _, _, _, _, rfl, _⟩ := h; rfl)
  · have T := D.T
    have nd := sc__law_truths_right.nd
    have hu := hr.units
    have hu1 := hu_of hr
    have hu0 := hr.units0
    obtain ⟨way, b, rk, es, fp, z, rfl, w0, w2, W, hl, hz, nz, q⟩ := h
    refine ⟨_, pss_cons (ps_if (PW.pt (pw_or (pt_cmpR op_ne (pe_call (ok__law_word D) (hr.mono (by decide)) (by rfl) D.h__law_word.gl D.h__law_word.fn.kp D.h__law_word.bd .nil pass0 (pa_cons (pv 0) (pa_cons (pv 1) (pa_cons (pe_lst (pa_cons (pv 2) (pa_cons pe_int (pa_cons pe_int (pa_cons pe_int (pa_cons pe_int pa_nil)))))) pa_nil)))) pe_str (nomark _)) (pw_or1 (pt_cmpR op_ne (pe_call (ok__law_word D) (hr.mono (by decide)) (by rfl) D.h__law_word.gl D.h__law_word.fn.kp D.h__law_word.bd .nil pass0 (pa_cons (pv 0) (pa_cons (pv 1) (pa_cons (pe_lst (pa_cons (pv 2) (pa_cons pe_int (pa_cons pe_int (pa_cons pe_int (pa_cons pe_int pa_nil)))))) pa_nil)))) pe_str (nomark _))))) (pss_one (ps_ret pe_bl)) pss_nil)
      (pss_cons (ps_for PassesOwn.never rfl (pi_range2 (by rfl) T.range (pa_cons pe_int (pa_cons pe_int pa_nil))) (pg_name (i := 3) nd rfl (Or.inr rfl)) (pss_one (ps_for PassesOwn.never rfl (pi_list (pe_lst (pa_cons pe_bl (pa_cons pe_bl pa_nil)))) (pg_name (i := 4) nd rfl (Or.inl rfl)) (pss_cons (ps_set (i := 5) nd rfl (.inl rfl) (pe_op op_cat (pe_lst (pa_cons (pv 2) pa_nil)) (pe_op op_rep (pe_lst (pa_cons (pe_callTy call_int1 (by rfl) T.int (by decide +kernel) (pa_cons (pv 4) pa_nil)) pa_nil)) pe_int)))
      (pss_cons (ps_asg (pv 4) (pg_sub (pv 5) (pv 3) set_list))
      (pss_cons (ps_set (i := 6) nd rfl (.inl rfl) (pe_call (ok__law_due D) (hr.mono (by decide)) (by rfl) D.h__law_due.gl D.h__law_due.fn.kp D.h__law_due.bd .nil pass0 (pa_cons (pv 0) (pa_cons (pe_op op_cat (pe_lst (pa_cons pe_bl pa_nil)) (pe_lc (own := [("_law_j", 7)]) (g := gName 7) (tt := tYes) rfl nd (pi_range2 (by rfl) T.range (pa_cons pe_int (pa_cons pe_int pa_nil))) (blkOk_by (N := ["_law_way", "_law_book_here", "_law_name", "_law_k", "_law_truth", "_law_handed_here", "_law_due_here", "_law_j"]) (sc := defScope s__law_truths_right) (by decide +kernel)) (fun _ _ _ _ _ => (pg_name (i := 7) nd rfl (Or.inl rfl))) (fun _ _ _ _ _ => pts_nil) (fun _ _ _ _ _ => (pe_cmpR op_eq (pv 3) (pv 7) (nomark _))))) pa_nil))))
      (pss_one (ps_if (PW.pt (pw_and (pt_cmpR op_ne (pv 6) pe_str (nomark _)) (pw_and1 (pt_cmpR op_ne (pe_call (ok__law_word D) (hr.mono (by decide)) (by rfl) D.h__law_word.gl D.h__law_word.fn.kp D.h__law_word.bd .nil pass0 (pa_cons (pv 0) (pa_cons (pv 1) (pa_cons (pv 5) pa_nil)))) (pv 6) (nomark _))))) (pss_one (ps_ret pe_bl)) pss_nil))))))))
      (pss_one (ps_ret pe_bl))), ?_⟩
    refine ⟨_, rfl, _, rfl, _, rfl, by show 5 ≤ sizeLine; decide, fun L nL => ?_⟩
    have s1 := same_upd (o := .lst [V.str z, V.int 1, V.int 1, V.int 1, V.int 1]) nL
    have eL := upd_same (H := H) (a := L) (o := .lst [V.str z, V.int 1, V.int 1, V.int 1, V.int 1])
    generalize upd H L (.lst [V.str z, V.int 1, V.int 1, V.int 1, V.int 1]) = H1 at *
    refine ⟨way, b, L, rk, es, fp, _, _, _, _, rfl, w0, w2, W.mono s1, hl, rfl, eL, hd_five hz nz.sho (by decide) (by decide), fun H2 s2 => ?_⟩
    have ne : ∀ y : Str, (!decide (V.str y = V.str y)) = false := fun y => by rw [decide_eq_true rfl]; rfl
    refine ⟨rfl, _, rfl, ?_⟩
    rw [due_told, ne]
    refine iteF ⟨_, rfl, _, rfl, _, rfl, by show 5 ≤ sizeLine; decide, fun Lz nLz => ?_⟩
    have s3 := same_upd (o := .lst [V.str z, V.int 0, V.int 0, V.int 0, V.int 0]) nLz
    have eLz := upd_same (H := H2) (a := Lz) (o := .lst [V.str z, V.int 0, V.int 0, V.int 0, V.int 0])
    generalize upd H2 Lz (.lst [V.str z, V.int 0, V.int 0, V.int 0, V.int 0]) = H3 at *
    have s03 := s1.trans (s2.trans s3)
    refine ⟨way, b, Lz, rk, es, fp, _, _, _, _, rfl, w0, w2, W.mono s03, hl, rfl, eLz, hd_five hz nz.sho (by decide) (by decide), fun H4 s4 => ?_⟩
    refine ⟨rfl, _, rfl, ?_⟩
    rw [due_told, ne]
    refine iteF ?_
    have s04 := s03.trans s4
    refine ⟨1, 5, rfl, ⟨by decide, by decide, by decide, by decide⟩, for_range (lo := 1) (n := 4) (fun i σ H' => (∃ x3 x4 x5 x6 x7, σ = [some (.int way), some (.ref b), some (.str z), x3, x4, x5, x6, x7]) ∧ Same H H') ⟨⟨none, none, none, none, none, rfl⟩, s04⟩ ?_ ?_⟩
    · rintro i σ H5 hi ⟨⟨x3, x4, x5, x6, x7, rfl⟩, s5⟩
      refine ⟨by show 2 ≤ sizeLine; decide, fun M nM => ?_⟩
      have s6 := same_upd (o := .lst [V.bl true, V.bl false]) nM
      have eM := upd_same (H := H5) (a := M) (o := .lst [V.bl true, V.bl false])
      generalize upd H5 M (.lst [V.bl true, V.bl false]) = H6 at *
      refine ⟨M, rfl, ⟨_, SqL.of eM⟩, for_it (walk_list (K := K) (a := M) (xs := [V.bl true, V.bl false])) (fun _ σ H' => (∃ x4 x5 x6 x7, σ = [some (.int way), some (.ref b), some (.str z), some (.int (1 + (i : Int))), x4, x5, x6, x7]) ∧ Same H6 H')
        ⟨⟨x4, x5, x6, x7, rfl⟩, Same.refl _⟩ (fun _ _ _ _ h => SqL.of (h.2 _ _ eM)) ?_ ?_⟩
      · rintro j x σ H7' H7 hj ⟨⟨y4, y5, y6, y7, rfl⟩, s7⟩ ⟨rfl, hx⟩
        obtain ⟨tr, rfl⟩ : ∃ tr, x = V.bl tr := by
          match j, hx with
          | 0, hx => cases hx; exact ⟨_, rfl⟩
          | 1, hx => cases hx; exact ⟨_, rfl⟩
        have s07 := s5.trans (s6.trans s7)
        refine ⟨_, rfl, by show 1 ≤ sizeLine; decide, fun A1 nA1 => ?_⟩
        have s8 := same_upd (o := .lst [V.str z]) nA1
        have eA1 := upd_same (H := H7) (a := A1) (o := .lst [V.str z])
        generalize upd H7 A1 (.lst [V.str z]) = H8 at *
        refine ⟨_, rfl, .inr ⟨tr, rfl, ?_⟩⟩
        obtain ⟨t, ht⟩ : ∃ t : Int, t = if tr then 1 else 0 := ⟨_, rfl⟩
        have t0 : 0 ≤ t := by rw [ht]; cases tr <;> decide
        have t1 : t ≤ 1 := by rw [ht]; cases tr <;> decide
        rw [← ht]
        refine ⟨by show 1 ≤ sizeLine; decide, fun A2 nA2 => ?_⟩
        have s9 := same_upd (o := .lst [V.int t]) nA2
        have eA2 := upd_same (H := H8) (a := A2) (o := .lst [V.int t])
        generalize upd H8 A2 (.lst [V.int t]) = H9 at *
        refine ⟨A2, 4, _, rfl, rfl, eA2, by decide, by decide, by show 4 ≤ sizeLine; decide, fun A3 nA3 => ?_⟩
        rw [show (List.replicate (4 : Int).toNat [V.int t]).flatten = [V.int t, V.int t, V.int t, V.int t] from rfl]
        have s10 := same_upd (o := .lst [V.int t, V.int t, V.int t, V.int t]) nA3
        have eA3 := upd_same (H := H9) (a := A3) (o := .lst [V.int t, V.int t, V.int t, V.int t])
        generalize upd H9 A3 (.lst [V.int t, V.int t, V.int t, V.int t]) = H10 at *
        refine ⟨A1, A3, _, _, rfl, rfl, (s9.trans s10) _ _ eA1, eA3, by show 1 + 4 ≤ sizeLine; decide, fun A4 nA4 => ?_⟩
        have s11 := same_upd (o := .lst ([V.str z] ++ [V.int t, V.int t, V.int t, V.int t])) nA4
        have eA4 := upd_same (H := H10) (a := A4) (o := .lst ([V.str z] ++ [V.int t, V.int t, V.int t, V.int t]))
        generalize upd H10 A4 (.lst ([V.str z] ++ [V.int t, V.int t, V.int t, V.int t])) = H11 at *
        have k5 : i + 1 < 5 := by omega
        refine ⟨_, rfl, _, rfl, _, rfl, A4, _, 1 + (i : Int), i + 1, rfl, rfl, eA4, by rw [Int.add_comm]; exact ixNn (n := 5) k5, ?_⟩
        have s12 : Same H10 (L2.upd H11 A4 (.lst (([V.str z] ++ [V.int t, V.int t, V.int t, V.int t]).set (i + 1) (.bl tr)))) := fun c o e => by
          rw [upd_ne (ne_of_none e nA4)]
          exact s11 c o e
        have e12 := upd_same (H := H11) (a := A4) (o := .lst (([V.str z] ++ [V.int t, V.int t, V.int t, V.int t]).set (i + 1) (.bl tr)))
        generalize L2.upd H11 A4 (.lst (([V.str z] ++ [V.int t, V.int t, V.int t, V.int t]).set (i + 1) (.bl tr))) = H12 at *
        have s012 := s07.trans (s8.trans (s9.trans (s10.trans s12)))
        refine ⟨_, rfl, by show 1 ≤ sizeLine; decide, fun A5 nA5 => ?_⟩
        have s13 := same_upd (o := .lst [V.bl false]) nA5
        have eA5 := upd_same (H := H12) (a := A5) (o := .lst [V.bl false])
        generalize upd H12 A5 (.lst [V.bl false]) = H13 at *
        refine ⟨1, 5, rfl, ⟨by decide, by decide, by decide, by decide⟩, fun A6 nA6 => ?_⟩
        refine lc_range (lo := 1) (n := 4) (fun m H' => Same H13 H' ∧ H' A6 = some (.lst ((List.range m).map fun (j : Nat) => V.bl (decide (V.int (1 + (i : Int)) = V.int (1 + (j : Int))))))) ⟨same_upd nA6, upd_same⟩ ?_ ?_
        · rintro m H14 hm ⟨s14, e14⟩
          refine ⟨rfl, _, rfl, _, rfl, rfl, _, e14, ?_, same_app nA6 s14, ?_⟩
          · rw [List.length_map, List.length_range]
            exact small2k (by omega)
          · rw [upd_same, List.range_succ, List.map_append]
            rfl
        · rintro H14 ⟨s14, e14⟩
          have eA5' := s14 _ _ eA5
          refine ⟨A5, A6, _, _, rfl, rfl, eA5', e14, by show 1 + 4 ≤ sizeLine; decide, fun A7 nA7 => ?_⟩
          rw [bools_of (show i < 4 by omega)]
          have s15 := same_upd (o := .lst ((List.range 5).map fun j => V.bl (decide (j = i + 1)))) nA7
          have eA7 := upd_same (H := H14) (a := A7) (o := .lst ((List.range 5).map fun j => V.bl (decide (j = i + 1))))
          generalize upd H14 A7 (.lst ((List.range 5).map fun j => V.bl (decide (j = i + 1)))) = H15 at *
          have s1215 := s13.trans (s14.trans s15)
          have s015 := s012.trans s1215
          refine ⟨way, A7, _, rfl, eA7, ?_⟩
          have s615 := s7.trans (s8.trans (s9.trans (s10.trans (s12.trans s1215))))
          refine ⟨_, rfl, rfl, _, rfl, ite2 (fun hd => ?_) (fun hd => iteF ⟨⟨_, _, _, _, rfl⟩, s615⟩)⟩
          refine ⟨_, rfl, _, rfl, _, rfl, way, b, A4, rk, es, fp, _, _, _, _, rfl, w0, w2, W.mono s015, hl, rfl, s1215 _ _ e12, hd_truth hz nz.sho t0 t1 (by omega) tr, fun H16 s16 => ?_⟩
          refine ⟨_, rfl, rfl, _, rfl, ?_⟩
          rw [ne]
          exact iteF ⟨⟨_, _, _, _, rfl⟩, s615.trans s16⟩
      · rintro σ H7 ⟨⟨y4, y5, y6, y7, rfl⟩, s7⟩
        exact ⟨⟨_, _, _, _, _, rfl⟩, s5.trans (s6.trans s7)⟩
    · rintro σ H5 ⟨⟨x3, x4, x5, x6, x7, rfl⟩, s5⟩
      exact q _ s5
end
end K74
set_option Elab.async false
set_option linter.all false
set_option maxRecDepth 100000
set_option maxHeartbeats 1600000
/-! Own layer: sorted of a list of tuples of whole numbers, texts, None. -/
namespace LT
open PySem PySem.Spec PyProof.Rows L2
/-! ### a walk over the items of a dict that has just been made -/
end LT
set_option Elab.async false
set_option linter.all false
set_option maxRecDepth 100000
set_option maxHeartbeats 1600000
/-! Own layer: sorted of a dict whose keys are tuples. -/
namespace LT
open PySem PySem.Spec PyProof.Rows L2
end LT
set_option Elab.async false
set_option linter.all false
set_option maxRecDepth 100000
set_option maxHeartbeats 1600000
/-! Own layer: entries as a law makes them: a dict by kind, known, name, day; sorted. -/
namespace LT
open PySem PySem.Spec PyProof.Rows L2 NdefX
abbrev EvK := Bool × Int × Str × Int
def evK (e : Evt) : EvK := (e.mv, e.kn, e.who, e.day)
def tellD (es : List Evt) : List (EvK × V) := es.foldl (fun t e => putA t (evK e) e.w) []
theorem tellD_snoc (es : List Evt) (e : Evt) : tellD (es ++ [e]) = putA (tellD es) (evK e) e.w := by
  unfold tellD
  rw [List.foldl_append]
  rfl
theorem tellD_nd : ∀ es : List Evt, ((tellD es).map (·.1)).Nodup ∧ (tellD es).length ≤ es.length := by
  refine snoc_ind ⟨List.nodup_nil, Nat.le_refl _⟩ fun es e ih => ?_
  rw [tellD_snoc]
  refine ⟨nodup_put ih.1, ?_⟩
  have h2 : (putA (tellD es) (evK e) e.w).length ≤ (tellD es).length + 1 := by
    unfold putA
    split
    · rw [List.length_map]
      omega
    · rw [List.length_append]
      exact Nat.le_refl _
  have := ih.2
  rw [List.length_append]
  show _ ≤ es.length + 1
  omega
theorem entA_snoc (es : List Evt) (e : Evt) (mv : Bool) (who : Str) (d kn : Int) : entA (es ++ [e]) mv who d kn = if (mv, kn, who, d) = evK e then some e.w else entA es mv who d kn := by
  unfold entA
  rw [histE_snoc]
  unfold stepH
  by_cases ho : ofE mv who e = true
  · obtain ⟨h1, h2⟩ := ofE_iff.mp ho
    rw [if_pos ho, getA_note]
    by_cases hd : d = e.day
    · rw [if_pos hd]
      show getA (putA ((getA (histE es mv who) e.day).getD []) e.kn e.w) kn = _
      rw [getA_put]
      by_cases hk : kn = e.kn
      · rw [if_pos hk, if_pos (by unfold evK; rw [h1, h2, hd, hk])]
      · rw [if_neg hk, if_neg (fun z => hk (congrArg (fun p : EvK => p.2.1) z)), hd]
    · rw [if_neg hd, if_neg (fun z => hd (congrArg (fun p : EvK => p.2.2.2) z))]
  · rw [if_neg ho, if_neg (fun z => ho (ofE_iff.mpr ⟨(congrArg (fun p : EvK => p.1) z).symm, (congrArg (fun p : EvK => p.2.2.1) z).symm⟩))]
theorem tellD_val : ∀ es : List Evt, ∀ (mv : Bool) (kn : Int) (who : Str) (d : Int), getA (tellD es) (mv, kn, who, d) = entA es mv who d kn := by
  refine snoc_ind (fun _ _ _ _ => rfl) fun es e ih mv kn who d => ?_
  rw [tellD_snoc, getA_put, entA_snoc, ih]
def evOfK (p : EvK × V) : Evt := ⟨p.1.1, p.1.2.1, p.1.2.2.1, p.1.2.2.2, p.2⟩
def entW (es : List Evt) : List Evt := ((tellD es).map evOfK).mergeSort evLe
theorem entW_is (es : List Evt) : IsEnts es (entW es) := by
  have nd := (tellD_nd es).1
  refine ents_of ?_ fun e => ?_
  · rw [List.pairwise_map]
    have : (tellD es).Pairwise fun a b => a.1 ≠ b.1 := List.pairwise_map.mp nd
    refine this.imp fun {a b} h s => h ?_
    obtain ⟨h1, h2, h3, h4⟩ := s
    obtain ⟨⟨a1, a2, a3, a4⟩, a5⟩ := a
    obtain ⟨⟨b1, b2, b3, b4⟩, b5⟩ := b
    simp only [evOfK] at h1 h2 h3 h4
    simp only [h1, h2, h3, h4]
  · rw [← tellD_val]
    constructor
    · intro h
      obtain ⟨p, hp, rfl⟩ := List.mem_map.mp h
      exact getA_of_mem nd hp
    · intro h
      exact List.mem_map.mpr ⟨_, getA_mem h, rfl⟩
theorem entW_len (es : List Evt) : (entW es).length ≤ es.length := by
  unfold entW
  rw [List.length_mergeSort, List.length_map]
  exact (tellD_nd es).2
/-! ### the keys in the heap -/
end LT
set_option Elab.async false
set_option linter.all false
set_option maxRecDepth 100000
set_option maxHeartbeats 1600000
/-! Own layer: k74's law: a book's entries shown, flags by place. -/
namespace LT
open PySem PySem.Spec PyProof.Rows L2 NdefX LamX
theorem ents74 {K : PySem.W.Frag} {CB CH : Addr} {H : Hp} {b : Addr} {rk : List (Str × Int)} {es L : List Evt} {fp ts : List Addr} (W : Bk CB CH H b rk es fp) (k : ∀ e ∈ es, e.kn ≤ 190) (hl : es.length ≤ 60) (ie : IsEnts es L) (p : Paired (EvT H) ts L) :
    Paired (Sd K H) (ts.map V.ref) (L.map LV.evD) ∧ (PyData.list (L.map LV.evD)).showable = true ∧ (PyData.list (L.map LV.evD)).depth ≤ 60 ∧ (PyData.list (L.map LV.evD)).shown.length ≤ sizeLine := by
  obtain ⟨r, _, ok⟩ := W.ev
  refine LV.ents_show r (fun e he => ?_) ?_ p
  · have hm : e ∈ es := entA_in ((ie.mem e).mp he)
    exact ⟨ok e hm, by have := k e hm; omega⟩
  · rw [ie.uniq (entW_is es)]
    exact Nat.le_trans (entW_len es) hl
theorem bools5 {bs : List Bool} (h : bs.length = 5) : ∃ bad : Nat → Bool, bs.map V.bl = (List.range 5).map fun k => V.bl (bad k) := ⟨fun k => bs.getD k false, by
  match bs, h with
  | [a, b, c, d, e], _ => rfl⟩
theorem pot_xN {H H' : Hp} {p : Addr} (h : Pot H p) (e : ExtN H H') : Pot H' p := by
  obtain ⟨x, y, e1, r⟩ := h
  exact ⟨x, y, e _ _ e1 nofun, r⟩
theorem bk_pot {CB CH : Addr} {H H' : Hp} {p b : Addr} {rk : List (Str × Int)} {es : List Evt} {fp : List Addr} (W : Bk CB CH H b rk es fp) (np : p ∉ fp) (s : SameB p H H') : Bk CB CH H' b rk es fp :=
  W.by fun x hx o e => s _ _ (fun z => np (by rw [← z]; exact hx)) e
end LT
set_option Elab.async false
set_option linter.all false
set_option maxRecDepth 100000
set_option maxHeartbeats 1600000
set_option pp.maxSteps 300
namespace K74
open PySem PySem.Spec PyProof.Rows L2 LT NdefX LamX
section
variable {P : Program} {w : World} {K : PySem.W.Frag} {mg : Str → Option Value} {base : Heap}
def spLaw (K : PySem.W.Frag) (TL : List (Addr × Str)) : Sp := fun vs H Q _ => ∃ (a : Addr) (ns : List Int), vs = [.ref a] ∧ SqL K H a (ns.map V.int) ∧ ns.length ≤ 63 ∧ Tabs TL H ∧ ∀ H', Q (.bl true) H'
theorem sc_law : FnScope ["_law_script", "_law_k", "_law_pot_here", "_law_bad", "_law_names_here", "_law_rows", "_law_far_here", "_law_book_here", "_law_held", "_law_handed_here", "_law_way", "_law_before", "_law_turn"] ["_law_script"] (defScope s_law) := ⟨rfl, rfl, rfl, by decide +kernel, rfl, by decide +kernel, by decide +kernel⟩
theorem ok_law (D : All K P mg) (TB : TBs D base) {f : Addr} {fd : FuncData} (F : Fun K "law" "law" s_law f fd) : FnG P w K mg base CX0 15 f fd ["_law_script"] (spLaw K (TLs D)) := by
  refine okG F sc_law (fun h => ?_) (fun cdv A outer s H vs Q E hG hr h => ?_)
  · first | (obtain ⟨_, rfl, _⟩ := h; rfl) | (obtain ⟨_, _, rfl, _⟩ := h; rfl) | (obtain ⟨_, _, _, rfl, _⟩ := h; rfl) | (obtain ⟨_, _, _, _, rfl, _⟩ := h; rfl) | (obtain ⟨_, _, _, _, _, rfl, _⟩ := h; rfl) | (obtain ⟨_, _, _, _, _, _, rfl, _⟩ := h; rfl) | (obtain ⟨_, _, _, _, _, _, _, rfl, _⟩ := h; rfl) | (obtain ⟨_, _, _, _, _, _, _, _, rfl, _⟩ := h; rfl) | (obtain ⟨_, _, _, _, _, _, _, _, _, rfl, _⟩ := h; rfl) | (obtain ⟨_, _, _, _, _, _, _, _, _, _, rfl, _⟩ := h; rfl) | (obtain ⟨_, _, _, _, _, _, _, _, _, _, _, rfl, _⟩ := h; rfl) | (obtain ⟨_, _, _, _, _, _, _, _, _, _, _, _, rfl, _⟩ := h; rfl) | (obtain ⟨_, _, _, _, _, _, _, _, _, _, _, _, _, rfl, _⟩ := h; rfl) | (obtain ⟨_, _, _, _, _, _, _, _, _, _, _, _, _, _, rfl, _⟩ := h; rfl) | (obtain ⟨_, _, _, _, _, _, _, _, _, _, _, _, _, _, _, rfl, _⟩ := h; rfl)
  · have T := D.T
    have nd := sc_law.nd
    have hu := hr.units
    have hu1 := hu_of hr
    have hu0 := hr.units0
    have hG2 : (cxOf CX0 P w K mg base ["_law_script", "_law_k", "_law_pot_here", "_law_bad", "_law_names_here", "_law_rows", "_law_far_here", "_law_book_here", "_law_held", "_law_handed_here", "_law_way", "_law_before", "_law_turn"] "law" (defScope s_law) f cdv A outer s H E).nox.A.guards = some [] := hG
    obtain ⟨sc, ss, rfl, hS, hl, tab, q⟩ := h
    refine ⟨_, pss_cons (ps_for PassesOwn.never rfl (pi_range1 (by rfl) T.range (pa_cons (pe_callB (call_max2 rfl) (by rfl) T.max (by decide +kernel) (pa_cons pe_int (pa_cons (pe_callB (call_min2 rfl) (by rfl) T.min (by decide +kernel) (pa_cons pe_int (pa_cons (pe_callB call_len_seq (by rfl) T.len PySem.boot_len (pa_cons (pv 0) pa_nil)) pa_nil))) pa_nil))) pa_nil)) (pg_name (i := 1) nd rfl (Or.inl rfl)) (pss_cons (ps_set (i := 2) nd rfl (.inr rfl) (pe_call (ok__law_pot D) (hr.mono (by decide)) (by rfl) D.h__law_pot.gl D.h__law_pot.fn.kp D.h__law_pot.bd .nil pass0 (pa_cons (pv 0) (pa_cons (pv 1) pa_nil))))
      (pss_cons (ps_setLc (i := 3) (own := [("_law_turn", 12)]) (g := gName 12) (tt := tYes) rfl nd rfl rfl (sw_true rfl rfl rfl (by decide +kernel)) (pi_range1 (by rfl) T.range (pa_cons pe_int pa_nil)) (blkOk_by (N := ["_law_script", "_law_k", "_law_pot_here", "_law_bad", "_law_names_here", "_law_rows", "_law_far_here", "_law_book_here", "_law_held", "_law_handed_here", "_law_way", "_law_before", "_law_turn"]) (sc := defScope s_law) (by decide +kernel)) (fun _ _ _ _ _ => (pg_name (i := 12) nd rfl (Or.inl rfl))) (fun _ _ _ _ _ => pts_nil) (fun _ _ _ _ _ => (pe_cmpR op_eq (pe_call (ok__law_take D) (hr.mono (by decide)) (by rfl) D.h__law_take.gl D.h__law_take.fn.kp D.h__law_take.bd .nil pass0 (pa_cons (pv 2) (pa_cons pe_int pa_nil))) pe_int (nomark _))))
      (pss_cons (ps_asg (pe_call (ok__law_case D) (hr.mono (by decide)) (by rfl) D.h__law_case.gl D.h__law_case.fn.kp D.h__law_case.bd .nil pass0 (pa_cons (pv 2) pa_nil)) (pg_tup rfl (pgs_cons (pg_name (i := 4) nd rfl (Or.inl rfl)) (pgs_cons (pg_name (i := 5) nd rfl (Or.inl rfl)) (pgs_cons (pg_name (i := 6) nd rfl (Or.inl rfl)) pgs_nil)))))
      (pss_cons (ps_set (i := 7) nd rfl (.inl rfl) (pe_call (ok__law_book D) (hr.mono (by decide)) (by rfl) D.h__law_book.gl D.h__law_book.fn.kp D.h__law_book.bd .nil pass0 (pa_cons (pv 4) (pa_cons (pv 5) (pa_cons (pv 6) pa_nil)))))
      (pss_cons (ps_set (i := 8) nd rfl (.inl rfl) (pe_callB (call_reprSd hG2 hu) (by rfl) T.repr (by decide +kernel) (pa_cons (pe_meth0 (pv 7) D.Z_Book.cl D.me_Book_entries (ok_Book_entries D TB) (hr.mono (by decide)) D.lb_Book_entries .nil pass0) pa_nil)))
      (pss_cons (ps_set (i := 9) nd rfl (.inl rfl) (pe_call (ok__law_handed D) (hr.mono (by decide)) (by rfl) D.h__law_handed.gl D.h__law_handed.fn.kp D.h__law_handed.bd .nil pass0 (pa_cons (pv 2) (pa_cons (pv 4) (pa_cons (pv 3) pa_nil)))))
      (pss_cons (ps_for PassesOwn.never rfl (pi_range1 (by rfl) T.range (pa_cons pe_int pa_nil)) (pg_name (i := 10) nd rfl (Or.inl rfl)) (pss_cons (ps_set (i := 11) nd rfl (.inl rfl) (pe_callB (call_reprSd hG2 hu) (by rfl) T.repr (by decide +kernel) (pa_cons (pv 9) pa_nil)))
      (pss_cons (ps_if (PW.pt (pw_or (pt_cmpR op_ne (pe_call (ok__law_word D) (hr.mono (by decide)) (by rfl) D.h__law_word.gl D.h__law_word.fn.kp D.h__law_word.bd .nil pass0 (pa_cons (pv 10) (pa_cons (pv 7) (pa_cons (pv 9) pa_nil)))) (pe_call (ok__law_due D) (hr.mono (by decide)) (by rfl) D.h__law_due.gl D.h__law_due.fn.kp D.h__law_due.bd .nil pass0 (pa_cons (pv 10) (pa_cons (pv 3) pa_nil))) (nomark _)) (pw_or1 (pt_cmpR op_ne (pe_callB (call_reprSd hG2 hu) (by rfl) T.repr (by decide +kernel) (pa_cons (pv 9) pa_nil)) (pv 11) (nomark _))))) (pss_one (ps_ret pe_bl)) pss_nil)
      (pss_one (ps_if (pt_not (pt_val (pe_call (ok__law_truths_right D) (hr.mono (by decide)) (by rfl) D.h__law_truths_right.gl D.h__law_truths_right.fn.kp D.h__law_truths_right.bd .nil pass0 (pa_cons (pv 10) (pa_cons (pv 7) (pa_cons (pe_ix ix_list (pv 4) pe_int (fun _ _ => rfl)) pa_nil)))))) (pss_one (ps_ret pe_bl)) pss_nil)))))
      (pss_one (ps_if (pt_cmpR op_ne (pe_callB (call_reprSd hG2 hu) (by rfl) T.repr (by decide +kernel) (pa_cons (pe_meth0 (pv 7) D.Z_Book.cl D.me_Book_entries (ok_Book_entries D TB) (hr.mono (by decide)) D.lb_Book_entries .nil pass0) pa_nil)) (pv 8) (nomark _)) (pss_one (ps_ret pe_bl)) pss_nil))))))))))
      (pss_one (ps_ret pe_bl)), ?_⟩
    refine ⟨_, rfl, sc, _, rfl, .inl hS, _, _, rfl, _, _, rfl, ?_⟩
    generalize hN : (if (if (((ss.map V.int).length : Nat) : Int) < 6 then (((ss.map V.int).length : Nat) : Int) else 6) > 2 then (if (((ss.map V.int).length : Nat) : Int) < 6 then (((ss.map V.int).length : Nat) : Int) else 6) else 2) = N
    have hN6 : 1 ≤ N ∧ N ≤ 6 := by
      rw [← hN]
      split <;> (try split) <;> omega
    refine ⟨N, rfl, by omega, by omega, for_range (lo := 0) (n := N.toNat) (fun i σ H' => (∃ x1 x2 x3 x4 x5 x6 x7 x8 x9 x10 x11 x12, σ = [some (.ref sc), x1, x2, x3, x4, x5, x6, x7, x8, x9, x10, x11, x12]) ∧ ExtN H H' ∧ Tabs (TLs D) H')
      ⟨⟨none, none, none, none, none, none, none, none, none, none, none, none, rfl⟩, ExtN.of (Same.refl _), tab⟩ ?_ ?_⟩
    · rintro i σ H0 hi ⟨⟨x1, x2, x3, x4, x5, x6, x7, x8, x9, x10, x11, x12, rfl⟩, sm0, tab0⟩
      refine ⟨_, rfl, _, rfl, sc, ss, i, (by rw [Int.zero_add]; rfl), extN_seqL sm0 hS, by omega, fun p H1 np s1 hp1 => ?_⟩
      refine ⟨5, rfl, by decide, by decide, fun B nB => ?_⟩
      have nBp := hp1.ne nB
      refine lc_range (lo := 0) (n := 5) (fun m H' => Pot H' p ∧ SameB p H1 H' ∧ ∃ bs : List Bool, bs.length = m ∧ H' B = some (.lst (bs.map V.bl))) ⟨hp1.upd nBp, SameB.new nB (fun _ _ _ e => e), [], rfl, upd_same⟩ ?_ ?_
      · rintro m H2 hm ⟨hp2, s2, bs, hbs, eB⟩
        refine ⟨rfl, _, rfl, p, 4, rfl, hp2, by decide, by decide, fun t H3 t0 t1 hp3 s3 => ⟨rfl, ?_⟩⟩
        have eB3 := s3 B _ nBp eB
        refine ⟨_, eB3, by rw [List.length_map, hbs]; exact small2k (by omega), hp3.upd nBp, SameB.new nB (s2.trans s3), bs ++ [decide (V.int t = V.int 0)], by rw [List.length_append, hbs]; rfl, ?_⟩
        rw [upd_same, List.map_append]
        rfl
      rintro H2 ⟨hp2, s2, bs, hbs, eB⟩
      obtain ⟨bad, hbad⟩ := bools5 hbs
      rw [hbad] at eB
      refine ⟨_, rfl, p, rfl, hp2, fun Tc C H3 nT cs cg hp3 s3 => ?_⟩
      have eB3 := s3 B _ nBp eB
      refine ⟨Tc, _, rfl, SqT.of cs.hT, rfl, _, _, rfl, _, _, rfl, _, _, rfl, rfl, ?_⟩
      refine ⟨_, rfl, _, rfl, _, rfl, C.n, C.R, C.far, C.zs, C.es, rfl, cs.hn, cs.hR, cg.zs, by have := cg.z1; omega, cg.ok, cg.up, by have := cg.e1; omega, cg.f0, cg.f1, fun b rk es' fp H4 bk bc nf s4 => ?_⟩
      have hp4 := hp3.mono s4
      have cs4 := cs.mono s4
      have eB4 := s4 _ _ eB3
      have s04 : Same H0 H4 := fun a o e => s4 _ _ (s3 a o (ne_of_none e np) (s2 a o (ne_of_none e np) (s1 a o e)))
      have tab4 := tab0.ext s04
      have npf : p ∉ fp := fun hm => by
        obtain ⟨x, y, e1, _⟩ := hp3
        rw [nf _ hm] at e1
        cases e1
      have l60 : es'.length ≤ 60 := by
        obtain ⟨ls, e, _, l1⟩ := bc.ls
        have := cg.e1
        rw [e, List.length_append, shiftE_len]
        omega
      have kb : ∀ e ∈ es', e.kn ≤ 190 := bc.lk 190 (by decide) cg.k1
      obtain ⟨dxb, R, M, Lq, v, ixb⟩ := bk.ix
      refine ⟨_, rfl, b, dxb, _, rfl, ixb, rfl, b, rk, es', fp, rfl, bk, l60, tab4, fun l ts Ls H5 nl x5 T5 el hts ie => ?_⟩
      have bk5 := bk.extN x5
      have hp5 := pot_xN hp4 x5
      obtain ⟨g1, g2, g3, g4⟩ := ents74 (K := K) bk5 kb l60 ie hts
      refine ⟨l, _, _, rfl, SqL.of el, g1, g2, g3, g4, ?_⟩
      have eB5 := x5 _ _ eB4 nofun
      have cn5 := x5 _ _ cs4.hn nofun
      refine ⟨_, rfl, _, rfl, _, rfl, p, C.n, B, C.zs, bad, rfl, hp5, cn5, cg.zs, cg.z0, by have := cg.z1; omega, eB5, fun G ws ds H6 nG eG HD hp6 s6 => ?_⟩
      have bk6 := bk_pot bk5 npf s6
      have T6 := LV.tabs_pot T5 hp5 s6
      have eB6 := s6 B _ nBp eB5
      have cn6 := s6 _ _ (ne_of_pot hp5 cn5 strs_no_pot) cn5
      refine ⟨3, rfl, by decide, by decide, for_range (lo := 0) (n := 3) (fun w σ H' => (∃ y10 y11 y12, σ = [some (.ref sc), some (.int (0 + (i : Nat))), some (.ref p), some (.ref B), some (.ref C.n), some (.ref C.R), some (.int C.far), some (.ref b), some (.str (PyData.list (Ls.map LV.evD)).shown), some (.ref G), y10, y11, y12]) ∧ Same H6 H') ⟨⟨_, _, _, rfl⟩, Same.refl _⟩ ?_ ?_⟩
      · rintro w σ H7 hw ⟨⟨y10, y11, y12, rfl⟩, s7⟩
        have HD7 := HD.mono s7
        have dl : ds.length ≤ 20 := by rw [← Paired.length HD.hx, HD.ln]; decide
        obtain ⟨f1, f2, f3, f4⟩ := hx_list (K := K) HD7.hx dl
        have eG7 := s7 _ _ eG
        have bk7 := bk6.mono s7
        have ne : ∀ y : Str, (!decide (V.str y = V.str y)) = false := fun y => by rw [decide_eq_true rfl]; rfl
        refine ⟨_, rfl, G, ws, ds, rfl, SqL.of eG7, f1, f2, f3, f4, ?_⟩
        refine ⟨_, rfl, _, rfl, _, rfl, 0 + ((w : Nat) : Int), b, G, rk, es', fp, C.zs, bad, ws, ds, rfl, by omega, by omega, bk7, l60, bc.rk, eG7, HD7, fun H8 s8 => ?_⟩
        have s68 := s7.trans s8
        refine ⟨_, rfl, _, rfl, 0 + ((w : Nat) : Int), B, bad, rfl, s68 _ _ eB6, rfl, _, rfl, ?_⟩
        rw [ne]
        have HD8 := HD.mono s68
        obtain ⟨f5, f6, f7, f8⟩ := hx_list (K := K) HD8.hx dl
        refine iteF ⟨_, rfl, G, ws, ds, rfl, SqL.of (s68 _ _ eG), f5, f6, f7, f8, ?_⟩
        refine ⟨_, rfl, rfl, _, rfl, ?_⟩
        rw [ne]
        obtain ⟨z, hz⟩ : ∃ z, C.zs[0]? = some z := ⟨_, List.getElem?_eq_getElem cg.z0⟩
        have hzm := List.mem_of_getElem? hz
        have hat : atI (C.zs.map V.str) 0 = some (.str z) := atI_nat (j := 0) (by rw [List.getElem?_map, hz]; rfl)
        refine iteF ⟨_, rfl, _, rfl, _, rfl, C.n, _, 0, .str z, rfl, rfl, SqL.of (s68 _ _ cn6), hat, 0 + ((w : Nat) : Int), b, rk, es', fp, z, rfl, by omega, by omega, bk6.mono s68, l60, by rw [bc.rk]; exact hzm, cg.zs.nm z hzm, fun H9 s9 => ⟨_, rfl, iteF ⟨⟨_, _, _, rfl⟩, s68.trans s9⟩⟩⟩
      rintro σ H7 ⟨⟨y10, y11, y12, rfl⟩, s7⟩
      have bk7 := bk6.mono s7
      have T7 := T6.ext s7
      obtain ⟨dxc, R', M', Lq', v', ixc⟩ := bk7.ix
      refine ⟨_, rfl, b, dxc, _, rfl, ixc, rfl, b, rk, es', fp, rfl, bk7, l60, T7, fun l' ts' Ls' H8 nl' x8 T8 el' hts' ie' => ?_⟩
      have bk8 := bk7.extN x8
      rw [ie'.uniq ie] at hts'
      obtain ⟨g5, g6, g7, g8⟩ := ents74 (K := K) bk8 kb l60 ie hts'
      refine ⟨l', _, _, rfl, SqL.of el', g5, g6, g7, g8, _, rfl, rfl, _, rfl, ?_⟩
      rw [show (!decide (V.str (PyData.list (Ls.map LV.evD)).shown = V.str (PyData.list (Ls.map LV.evD)).shown)) = false by rw [decide_eq_true rfl]; rfl]
      have x08 : ExtN H0 H8 := fun c o e t => x8 c o (s7 c o (s6 c o (ne_of_none e np) (x5 c o (s04 c o e) t))) t
      exact iteF ⟨⟨_, _, _, _, _, _, _, _, _, _, _, _, rfl⟩, sm0.trans x08, T8⟩
    · rintro σ H1 ⟨⟨x1, x2, x3, x4, x5, x6, x7, x8, x9, x10, x11, x12, rfl⟩, _⟩
      exact q _
end
end K74
set_option Elab.async false
set_option linter.all false
set_option maxRecDepth 100000
set_option maxHeartbeats 3200000
namespace K74
open PySem PySem.Spec PyProof.Rows L2 LT NdefX
structure LeftC (K : PySem.W.Frag) (C_LightsError C_Wrong C_Barred C_NoDay C_NoName C_NoStretches C_NoNumber C_NoKeeper C_NoPlace C_History C_Book C_Stretch : Addr) : Prop where
  n_LightsError : PySem.W.nsIn K mainGlobals "LightsError" = some (some (.ref C_LightsError))
  n_Wrong : PySem.W.nsIn K mainGlobals "Wrong" = some (some (.ref C_Wrong))
  n_Barred : PySem.W.nsIn K mainGlobals "Barred" = some (some (.ref C_Barred))
  n_NoDay : PySem.W.nsIn K mainGlobals "NoDay" = some (some (.ref C_NoDay))
  n_NoName : PySem.W.nsIn K mainGlobals "NoName" = some (some (.ref C_NoName))
  n_NoStretches : PySem.W.nsIn K mainGlobals "NoStretches" = some (some (.ref C_NoStretches))
  n_NoNumber : PySem.W.nsIn K mainGlobals "NoNumber" = some (some (.ref C_NoNumber))
  n_NoKeeper : PySem.W.nsIn K mainGlobals "NoKeeper" = some (some (.ref C_NoKeeper))
  n_NoPlace : PySem.W.nsIn K mainGlobals "NoPlace" = some (some (.ref C_NoPlace))
  n_History : PySem.W.nsIn K mainGlobals "History" = some (some (.ref C_History))
  n_Book : PySem.W.nsIn K mainGlobals "Book" = some (some (.ref C_Book))
  n_Stretch : PySem.W.nsIn K mainGlobals "Stretch" = some (some (.ref C_Stretch))
  i_LightsError : PySem.W.isClsIn K C_LightsError = true
  ty_LightsError : PySem.W.typeIn K (.ref C_LightsError) = some (.type "type")
  i_Wrong : PySem.W.isClsIn K C_Wrong = true
  ty_Wrong : PySem.W.typeIn K (.ref C_Wrong) = some (.type "type")
  i_Barred : PySem.W.isClsIn K C_Barred = true
  ty_Barred : PySem.W.typeIn K (.ref C_Barred) = some (.type "type")
  i_NoDay : PySem.W.isClsIn K C_NoDay = true
  ty_NoDay : PySem.W.typeIn K (.ref C_NoDay) = some (.type "type")
  i_NoName : PySem.W.isClsIn K C_NoName = true
  ty_NoName : PySem.W.typeIn K (.ref C_NoName) = some (.type "type")
  i_NoStretches : PySem.W.isClsIn K C_NoStretches = true
  ty_NoStretches : PySem.W.typeIn K (.ref C_NoStretches) = some (.type "type")
  i_NoNumber : PySem.W.isClsIn K C_NoNumber = true
  ty_NoNumber : PySem.W.typeIn K (.ref C_NoNumber) = some (.type "type")
  i_NoKeeper : PySem.W.isClsIn K C_NoKeeper = true
  ty_NoKeeper : PySem.W.typeIn K (.ref C_NoKeeper) = some (.type "type")
  i_NoPlace : PySem.W.isClsIn K C_NoPlace = true
  ty_NoPlace : PySem.W.typeIn K (.ref C_NoPlace) = some (.type "type")
  sb_LightsError : PySem.W.subIn K (.ref C_LightsError) (.type "BaseException") = some true
  cn : PySem.W.specialIn K (.builtin "object.__class__") "__get__" = some (some (.builtin "getset_descriptor.__get__"))
  ct : PySem.W.takesIn K (.builtin "object.__class__") = some true
  x_NoDay : PySem.W.excIn K C_NoDay [.type "ValueError", .type "Exception", .type "BaseException", .type "object"] "ValueError.__new__" = true
  k_NoDay : PySem.W.keepIn K (.ref C_NoDay) = true
  b_NoDay : PySem.W.subIn K (.ref C_NoDay) (.type "BaseException") = some true
  eg_NoDay : PySem.W.findIn K (.ref C_NoDay) "__getattribute__" = some (some (.builtin "BaseException.__getattribute__"))
  ek_NoDay : PySem.W.findIn K (.ref C_NoDay) "__getattr__" = some none
  ed_NoDay : PySem.W.hasDictIn K C_NoDay = true
  ea_NoDay : PySem.W.findIn K (.ref C_NoDay) "__class__" = some (some (.builtin "object.__class__"))
  em_NoDay : PySem.W.mroIn K C_NoDay (.type "object") = some true
  sv_NoDay : PySem.W.subIn K (.ref C_NoDay) (.type "ValueError") = some true
  x_NoNumber : PySem.W.excIn K C_NoNumber [.type "ValueError", .type "Exception", .type "BaseException", .type "object"] "ValueError.__new__" = true
  k_NoNumber : PySem.W.keepIn K (.ref C_NoNumber) = true
  b_NoNumber : PySem.W.subIn K (.ref C_NoNumber) (.type "BaseException") = some true
  eg_NoNumber : PySem.W.findIn K (.ref C_NoNumber) "__getattribute__" = some (some (.builtin "BaseException.__getattribute__"))
  ek_NoNumber : PySem.W.findIn K (.ref C_NoNumber) "__getattr__" = some none
  ed_NoNumber : PySem.W.hasDictIn K C_NoNumber = true
  ea_NoNumber : PySem.W.findIn K (.ref C_NoNumber) "__class__" = some (some (.builtin "object.__class__"))
  em_NoNumber : PySem.W.mroIn K C_NoNumber (.type "object") = some true
  sv_NoNumber : PySem.W.subIn K (.ref C_NoNumber) (.type "ValueError") = some true
  x_NoKeeper : PySem.W.excIn K C_NoKeeper [.type "ValueError", .type "Exception", .type "BaseException", .type "object"] "ValueError.__new__" = true
  k_NoKeeper : PySem.W.keepIn K (.ref C_NoKeeper) = true
  b_NoKeeper : PySem.W.subIn K (.ref C_NoKeeper) (.type "BaseException") = some true
  eg_NoKeeper : PySem.W.findIn K (.ref C_NoKeeper) "__getattribute__" = some (some (.builtin "BaseException.__getattribute__"))
  ek_NoKeeper : PySem.W.findIn K (.ref C_NoKeeper) "__getattr__" = some none
  ed_NoKeeper : PySem.W.hasDictIn K C_NoKeeper = true
  ea_NoKeeper : PySem.W.findIn K (.ref C_NoKeeper) "__class__" = some (some (.builtin "object.__class__"))
  em_NoKeeper : PySem.W.mroIn K C_NoKeeper (.type "object") = some true
  sv_NoKeeper : PySem.W.subIn K (.ref C_NoKeeper) (.type "ValueError") = some true
  s_NoDay_Barred : PySem.W.subIn K (.ref C_NoDay) (.ref C_Barred) = some false
  q_NoDay_Barred : ((Value.ref C_NoDay) == (Value.ref C_Barred)) = false
  s_NoDay_NoName : PySem.W.subIn K (.ref C_NoDay) (.ref C_NoName) = some false
  q_NoDay_NoName : ((Value.ref C_NoDay) == (Value.ref C_NoName)) = false
  s_NoDay_NoPlace : PySem.W.subIn K (.ref C_NoDay) (.ref C_NoPlace) = some false
  q_NoDay_NoPlace : ((Value.ref C_NoDay) == (Value.ref C_NoPlace)) = false
  s_NoDay_NoStretches : PySem.W.subIn K (.ref C_NoDay) (.ref C_NoStretches) = some false
  q_NoDay_NoStretches : ((Value.ref C_NoDay) == (Value.ref C_NoStretches)) = false
  s_NoDay_NoKeeper : PySem.W.subIn K (.ref C_NoDay) (.ref C_NoKeeper) = some false
  q_NoDay_NoKeeper : ((Value.ref C_NoDay) == (Value.ref C_NoKeeper)) = false
  s_NoDay_NoNumber : PySem.W.subIn K (.ref C_NoDay) (.ref C_NoNumber) = some false
  q_NoDay_NoNumber : ((Value.ref C_NoDay) == (Value.ref C_NoNumber)) = false
  s_NoDay_Wrong : PySem.W.subIn K (.ref C_NoDay) (.ref C_Wrong) = some true
  s_NoNumber_Barred : PySem.W.subIn K (.ref C_NoNumber) (.ref C_Barred) = some false
  q_NoNumber_Barred : ((Value.ref C_NoNumber) == (Value.ref C_Barred)) = false
  s_NoNumber_NoName : PySem.W.subIn K (.ref C_NoNumber) (.ref C_NoName) = some false
  q_NoNumber_NoName : ((Value.ref C_NoNumber) == (Value.ref C_NoName)) = false
  s_NoNumber_NoPlace : PySem.W.subIn K (.ref C_NoNumber) (.ref C_NoPlace) = some false
  q_NoNumber_NoPlace : ((Value.ref C_NoNumber) == (Value.ref C_NoPlace)) = false
  s_NoNumber_NoStretches : PySem.W.subIn K (.ref C_NoNumber) (.ref C_NoStretches) = some false
  q_NoNumber_NoStretches : ((Value.ref C_NoNumber) == (Value.ref C_NoStretches)) = false
  s_NoNumber_NoKeeper : PySem.W.subIn K (.ref C_NoNumber) (.ref C_NoKeeper) = some false
  q_NoNumber_NoKeeper : ((Value.ref C_NoNumber) == (Value.ref C_NoKeeper)) = false
  s_NoNumber_NoDay : PySem.W.subIn K (.ref C_NoNumber) (.ref C_NoDay) = some false
  q_NoNumber_NoDay : ((Value.ref C_NoNumber) == (Value.ref C_NoDay)) = false
  s_NoNumber_Wrong : PySem.W.subIn K (.ref C_NoNumber) (.ref C_Wrong) = some true
  s_NoKeeper_Barred : PySem.W.subIn K (.ref C_NoKeeper) (.ref C_Barred) = some false
  q_NoKeeper_Barred : ((Value.ref C_NoKeeper) == (Value.ref C_Barred)) = false
  s_NoKeeper_NoName : PySem.W.subIn K (.ref C_NoKeeper) (.ref C_NoName) = some false
  q_NoKeeper_NoName : ((Value.ref C_NoKeeper) == (Value.ref C_NoName)) = false
  s_NoKeeper_NoPlace : PySem.W.subIn K (.ref C_NoKeeper) (.ref C_NoPlace) = some false
  q_NoKeeper_NoPlace : ((Value.ref C_NoKeeper) == (Value.ref C_NoPlace)) = false
  s_NoKeeper_NoStretches : PySem.W.subIn K (.ref C_NoKeeper) (.ref C_NoStretches) = some false
  q_NoKeeper_NoStretches : ((Value.ref C_NoKeeper) == (Value.ref C_NoStretches)) = false
  s_NoKeeper_NoDay : PySem.W.subIn K (.ref C_NoKeeper) (.ref C_NoDay) = some false
  q_NoKeeper_NoDay : ((Value.ref C_NoKeeper) == (Value.ref C_NoDay)) = false
  s_NoKeeper_NoNumber : PySem.W.subIn K (.ref C_NoKeeper) (.ref C_NoNumber) = some false
  q_NoKeeper_NoNumber : ((Value.ref C_NoKeeper) == (Value.ref C_NoNumber)) = false
  s_NoKeeper_Wrong : PySem.W.subIn K (.ref C_NoKeeper) (.ref C_Wrong) = some true
  s_NoDay_LightsError : PySem.W.subIn K (.ref C_NoDay) (.ref C_LightsError) = some true
  s_NoNumber_LightsError : PySem.W.subIn K (.ref C_NoNumber) (.ref C_LightsError) = some true
  s_NoKeeper_LightsError : PySem.W.subIn K (.ref C_NoKeeper) (.ref C_LightsError) = some true
  pg_History : PySem.W.plainGet K C_History Str.empty = true
  hd_History : PySem.W.hasDictIn K C_History = true
  po_History : PySem.W.plainOver K C_History = true
  sa_History : PySem.W.findIn K (.ref C_History) "__setattr__" = some (some (.builtin "object.__setattr__"))
  kC_History : PySem.W.keepIn K (.ref C_History) = true
  mk_History : PySem.W.makesIn K C_History = true
  f_History_by_day : PySem.W.findIn K (.ref C_History) "by_day" = some none
  pg_Book : PySem.W.plainGet K C_Book Str.empty = true
  hd_Book : PySem.W.hasDictIn K C_Book = true
  po_Book : PySem.W.plainOver K C_Book = true
  sa_Book : PySem.W.findIn K (.ref C_Book) "__setattr__" = some (some (.builtin "object.__setattr__"))
  kC_Book : PySem.W.keepIn K (.ref C_Book) = true
  mk_Book : PySem.W.makesIn K C_Book = true
  f_Book_rank_of : PySem.W.findIn K (.ref C_Book) "rank_of" = some none
  f_Book_moves : PySem.W.findIn K (.ref C_Book) "moves" = some none
  f_Book_landings : PySem.W.findIn K (.ref C_Book) "landings" = some none
  f_Book_latest_known : PySem.W.findIn K (.ref C_Book) "latest_known" = some none
  pg_Stretch : PySem.W.plainGet K C_Stretch Str.empty = true
  hd_Stretch : PySem.W.hasDictIn K C_Stretch = true
  po_Stretch : PySem.W.plainOver K C_Stretch = true
  sa_Stretch : PySem.W.findIn K (.ref C_Stretch) "__setattr__" = some (some (.builtin "object.__setattr__"))
  kC_Stretch : PySem.W.keepIn K (.ref C_Stretch) = true
  mk_Stretch : PySem.W.makesIn K C_Stretch = true
  f_Stretch_first_day : PySem.W.findIn K (.ref C_Stretch) "first_day" = some none
  f_Stretch_last_day : PySem.W.findIn K (.ref C_Stretch) "last_day" = some none
theorem all_mk {l : PySem.W.OpenLaw} {w : World} {K : PySem.W.Frag} {h : Heap} {mg : Str → Option Value} {fa : Addr} {ts : List Addr} (X : K.In h) (G : h.Ns mainGlobals mg) (hfa : mg "law" = some (.ref fa)) (ht : ∀ P ∈ ts, h.get? P = some (PySem.W.tabObj #[]))
    {C_LightsError C_Wrong C_Barred C_NoDay C_NoName C_NoStretches C_NoNumber C_NoKeeper C_NoPlace C_History C_Book C_Stretch : Addr} (D : LeftC K C_LightsError C_Wrong C_Barred C_NoDay C_NoName C_NoStretches C_NoNumber C_NoKeeper C_NoPlace C_History C_Book C_Stretch)
    {fHistory___init__ : Addr} {ocHistory___init__ : Value} {odHistory___init__ anHistory___init__ : Option Addr} {kVHistory___init__ dcHistory___init__ pmHistory___init__ cdHistory___init__ ctHistory___init__ : Value} {slHistory___init__ : Array (Option Value)} (F_History___init__ : LeftM K C_History "__init__" "History.__init__" s_History___init__ fHistory___init__ ocHistory___init__ odHistory___init__ anHistory___init__ kVHistory___init__ dcHistory___init__ pmHistory___init__ cdHistory___init__ ctHistory___init__ slHistory___init__)
    {fHistory_note : Addr} {ocHistory_note : Value} {odHistory_note anHistory_note : Option Addr} {kVHistory_note dcHistory_note pmHistory_note cdHistory_note ctHistory_note : Value} {slHistory_note : Array (Option Value)} (F_History_note : LeftM K C_History "note" "History.note" s_History_note fHistory_note ocHistory_note odHistory_note anHistory_note kVHistory_note dcHistory_note pmHistory_note cdHistory_note ctHistory_note slHistory_note)
    {fHistory_all_told : Addr} {ocHistory_all_told : Value} {odHistory_all_told anHistory_all_told : Option Addr} {kVHistory_all_told dcHistory_all_told pmHistory_all_told cdHistory_all_told ctHistory_all_told : Value} {slHistory_all_told : Array (Option Value)} (F_History_all_told : LeftM K C_History "all_told" "History.all_told" s_History_all_told fHistory_all_told ocHistory_all_told odHistory_all_told anHistory_all_told kVHistory_all_told dcHistory_all_told pmHistory_all_told cdHistory_all_told ctHistory_all_told slHistory_all_told)
    {fHistory_told_last : Addr} {ocHistory_told_last : Value} {odHistory_told_last anHistory_told_last : Option Addr} {kVHistory_told_last dcHistory_told_last pmHistory_told_last cdHistory_told_last ctHistory_told_last : Value} {slHistory_told_last : Array (Option Value)} (F_History_told_last : LeftM K C_History "told_last" "History.told_last" s_History_told_last fHistory_told_last ocHistory_told_last odHistory_told_last anHistory_told_last kVHistory_told_last dcHistory_told_last pmHistory_told_last cdHistory_told_last ctHistory_told_last slHistory_told_last)
    {fHistory_holding : Addr} {ocHistory_holding : Value} {odHistory_holding anHistory_holding : Option Addr} {kVHistory_holding dcHistory_holding pmHistory_holding cdHistory_holding ctHistory_holding : Value} {slHistory_holding : Array (Option Value)} (F_History_holding : LeftM K C_History "holding" "History.holding" s_History_holding fHistory_holding ocHistory_holding odHistory_holding anHistory_holding kVHistory_holding dcHistory_holding pmHistory_holding cdHistory_holding ctHistory_holding slHistory_holding)
    {fBook___init__ : Addr} {ocBook___init__ : Value} {odBook___init__ anBook___init__ : Option Addr} {kVBook___init__ dcBook___init__ pmBook___init__ cdBook___init__ ctBook___init__ : Value} {slBook___init__ : Array (Option Value)} (F_Book___init__ : LeftM K C_Book "__init__" "Book.__init__" s_Book___init__ fBook___init__ ocBook___init__ odBook___init__ anBook___init__ kVBook___init__ dcBook___init__ pmBook___init__ cdBook___init__ ctBook___init__ slBook___init__)
    {fBook_tell : Addr} {ocBook_tell : Value} {odBook_tell anBook_tell : Option Addr} {kVBook_tell dcBook_tell pmBook_tell cdBook_tell ctBook_tell : Value} {slBook_tell : Array (Option Value)} (F_Book_tell : LeftM K C_Book "tell" "Book.tell" s_Book_tell fBook_tell ocBook_tell odBook_tell anBook_tell kVBook_tell dcBook_tell pmBook_tell cdBook_tell ctBook_tell slBook_tell)
    {fBook_land : Addr} {ocBook_land : Value} {odBook_land anBook_land : Option Addr} {kVBook_land dcBook_land pmBook_land cdBook_land ctBook_land : Value} {slBook_land : Array (Option Value)} (F_Book_land : LeftM K C_Book "land" "Book.land" s_Book_land fBook_land ocBook_land odBook_land anBook_land kVBook_land dcBook_land pmBook_land cdBook_land ctBook_land slBook_land)
    {fBook_moves_known : Addr} {ocBook_moves_known : Value} {odBook_moves_known anBook_moves_known : Option Addr} {kVBook_moves_known dcBook_moves_known pmBook_moves_known cdBook_moves_known ctBook_moves_known : Value} {slBook_moves_known : Array (Option Value)} (F_Book_moves_known : LeftM K C_Book "moves_known" "Book.moves_known" s_Book_moves_known fBook_moves_known ocBook_moves_known odBook_moves_known anBook_moves_known kVBook_moves_known dcBook_moves_known pmBook_moves_known cdBook_moves_known ctBook_moves_known slBook_moves_known)
    {fStretch_first : Addr} {ocStretch_first : Value} {odStretch_first anStretch_first : Option Addr} {kVStretch_first dcStretch_first pmStretch_first cdStretch_first ctStretch_first : Value} {slStretch_first : Array (Option Value)} (F_Stretch_first : LeftM K C_Stretch "first" "Stretch.first" s_Stretch_first fStretch_first ocStretch_first odStretch_first anStretch_first kVStretch_first dcStretch_first pmStretch_first cdStretch_first ctStretch_first slStretch_first)
    {fStretch_last : Addr} {ocStretch_last : Value} {odStretch_last anStretch_last : Option Addr} {kVStretch_last dcStretch_last pmStretch_last cdStretch_last ctStretch_last : Value} {slStretch_last : Array (Option Value)} (F_Stretch_last : LeftM K C_Stretch "last" "Stretch.last" s_Stretch_last fStretch_last ocStretch_last odStretch_last anStretch_last kVStretch_last dcStretch_last pmStretch_last cdStretch_last ctStretch_last slStretch_last)
    {fStretch___init__ TStretch___init__ : Addr} {ocStretch___init__ : Value} {odStretch___init__ anStretch___init__ : Option Addr} {kVStretch___init__ dcStretch___init__ pmStretch___init__ cdStretch___init__ ctStretch___init__ : Value} {slStretch___init__ : Array (Option Value)} {oTStretch___init__ : Value} {dTStretch___init__ : Option Addr} {nTStretch___init__ : Nat} {sTStretch___init__ : Array (Option Value)} (F_Stretch___init__ : LeftMD K C_Stretch "__init__" "Stretch.__init__" s_Stretch___init__ #[.none] fStretch___init__ TStretch___init__ ocStretch___init__ odStretch___init__ anStretch___init__ kVStretch___init__ dcStretch___init__ pmStretch___init__ cdStretch___init__ ctStretch___init__ slStretch___init__ oTStretch___init__ dTStretch___init__ nTStretch___init__ sTStretch___init__)
    {fBook_entries cBook_entries PBook_entries : Addr} {ocBook_entries : Value} {odBook_entries anBook_entries : Option Addr} {kVBook_entries dcBook_entries pmBook_entries ctBook_entries : Value} {slBook_entries : Array (Option Value)} {oCBook_entries : Value} {dCBook_entries : Option Addr} {vCBook_entries : Array Value} {sCBook_entries : Array (Option Value)} (F_Book_entries : LeftLm K C_Book "entries" "Book.entries" s_Book_entries fBook_entries cBook_entries PBook_entries ocBook_entries odBook_entries anBook_entries kVBook_entries dcBook_entries pmBook_entries ctBook_entries slBook_entries oCBook_entries dCBook_entries vCBook_entries sCBook_entries) (tm_Book_entries : PBook_entries ∈ ts)
    {fturns Tturns : Addr} {octurns : Value} {odturns anturns : Option Addr} {kVturns dcturns pmturns cdturns ctturns : Value} {slturns : Array (Option Value)} {oTturns : Value} {dTturns : Option Addr} {nTturns : Nat} {sTturns : Array (Option Value)} (F_turns : LeftD K "turns" s_turns #[.none] fturns Tturns octurns odturns anturns kVturns dcturns pmturns cdturns ctturns slturns oTturns dTturns nTturns sTturns)
    {fdays_over Tdays_over : Addr} {ocdays_over : Value} {oddays_over andays_over : Option Addr} {kVdays_over dcdays_over pmdays_over cddays_over ctdays_over : Value} {sldays_over : Array (Option Value)} {oTdays_over : Value} {dTdays_over : Option Addr} {nTdays_over : Nat} {sTdays_over : Array (Option Value)} (F_days_over : LeftD K "days_over" s_days_over #[.none] fdays_over Tdays_over ocdays_over oddays_over andays_over kVdays_over dcdays_over pmdays_over cddays_over ctdays_over sldays_over oTdays_over dTdays_over nTdays_over sTdays_over)
    {fdays_owed Tdays_owed : Addr} {ocdays_owed : Value} {oddays_owed andays_owed : Option Addr} {kVdays_owed dcdays_owed pmdays_owed cddays_owed ctdays_owed : Value} {sldays_owed : Array (Option Value)} {oTdays_owed : Value} {dTdays_owed : Option Addr} {nTdays_owed : Nat} {sTdays_owed : Array (Option Value)} {t0days_owed : Tok} (F_days_owed : LeftD K "days_owed" s_days_owed #[.int 0 t0days_owed, .none] fdays_owed Tdays_owed ocdays_owed oddays_owed andays_owed kVdays_owed dcdays_owed pmdays_owed cddays_owed ctdays_owed sldays_owed oTdays_owed dTdays_owed nTdays_owed sTdays_owed)
    {fdays_given Tdays_given : Addr} {ocdays_given : Value} {oddays_given andays_given : Option Addr} {kVdays_given dcdays_given pmdays_given cddays_given ctdays_given : Value} {sldays_given : Array (Option Value)} {oTdays_given : Value} {dTdays_given : Option Addr} {nTdays_given : Nat} {sTdays_given : Array (Option Value)} {t0days_given : Tok} (F_days_given : LeftD K "days_given" s_days_given #[.int 0 t0days_given, .none] fdays_given Tdays_given ocdays_given oddays_given andays_given kVdays_given dcdays_given pmdays_given cddays_given ctdays_given sldays_given oTdays_given dTdays_given nTdays_given sTdays_given)
    {fis_name : Addr} {ocis_name : Value} {odis_name anis_name : Option Addr} {kVis_name dcis_name pmis_name cdis_name ctis_name : Value} {slis_name : Array (Option Value)} (F_is_name : Left K "is_name" s_is_name fis_name ocis_name odis_name anis_name kVis_name dcis_name pmis_name cdis_name ctis_name slis_name)
    {fis_place : Addr} {ocis_place : Value} {odis_place anis_place : Option Addr} {kVis_place dcis_place pmis_place cdis_place ctis_place : Value} {slis_place : Array (Option Value)} (F_is_place : Left K "is_place" s_is_place fis_place ocis_place odis_place anis_place kVis_place dcis_place pmis_place cdis_place ctis_place slis_place)
    {fis_whole : Addr} {ocis_whole : Value} {odis_whole anis_whole : Option Addr} {kVis_whole dcis_whole pmis_whole cdis_whole ctis_whole : Value} {slis_whole : Array (Option Value)} (F_is_whole : Left K "is_whole" s_is_whole fis_whole ocis_whole odis_whole anis_whole kVis_whole dcis_whole pmis_whole cdis_whole ctis_whole slis_whole)
    {fis_from : Addr} {ocis_from : Value} {odis_from anis_from : Option Addr} {kVis_from dcis_from pmis_from cdis_from ctis_from : Value} {slis_from : Array (Option Value)} (F_is_from : Left K "is_from" s_is_from fis_from ocis_from odis_from anis_from kVis_from dcis_from pmis_from cdis_from ctis_from slis_from)
    {fis_within : Addr} {ocis_within : Value} {odis_within anis_within : Option Addr} {kVis_within dcis_within pmis_within cdis_within ctis_within : Value} {slis_within : Array (Option Value)} (F_is_within : Left K "is_within" s_is_within fis_within ocis_within odis_within anis_within kVis_within dcis_within pmis_within cdis_within ctis_within slis_within)
    {fis_day : Addr} {ocis_day : Value} {odis_day anis_day : Option Addr} {kVis_day dcis_day pmis_day cdis_day ctis_day : Value} {slis_day : Array (Option Value)} (F_is_day : Left K "is_day" s_is_day fis_day ocis_day odis_day anis_day kVis_day dcis_day pmis_day cdis_day ctis_day slis_day)
    {fcheck_day : Addr} {occheck_day : Value} {odcheck_day ancheck_day : Option Addr} {kVcheck_day dccheck_day pmcheck_day cdcheck_day ctcheck_day : Value} {slcheck_day : Array (Option Value)} (F_check_day : Left K "check_day" s_check_day fcheck_day occheck_day odcheck_day ancheck_day kVcheck_day dccheck_day pmcheck_day cdcheck_day ctcheck_day slcheck_day)
    {fcheck_known : Addr} {occheck_known : Value} {odcheck_known ancheck_known : Option Addr} {kVcheck_known dccheck_known pmcheck_known cdcheck_known ctcheck_known : Value} {slcheck_known : Array (Option Value)} (F_check_known : Left K "check_known" s_check_known fcheck_known occheck_known odcheck_known ancheck_known kVcheck_known dccheck_known pmcheck_known cdcheck_known ctcheck_known slcheck_known)
    {fcheck_days : Addr} {occheck_days : Value} {odcheck_days ancheck_days : Option Addr} {kVcheck_days dccheck_days pmcheck_days cdcheck_days ctcheck_days : Value} {slcheck_days : Array (Option Value)} (F_check_days : Left K "check_days" s_check_days fcheck_days occheck_days odcheck_days ancheck_days kVcheck_days dccheck_days pmcheck_days cdcheck_days ctcheck_days slcheck_days)
    {fcheck_light : Addr} {occheck_light : Value} {odcheck_light ancheck_light : Option Addr} {kVcheck_light dccheck_light pmcheck_light cdcheck_light ctcheck_light : Value} {slcheck_light : Array (Option Value)} (F_check_light : Left K "check_light" s_check_light fcheck_light occheck_light odcheck_light ancheck_light kVcheck_light dccheck_light pmcheck_light cdcheck_light ctcheck_light slcheck_light)
    {fcheck_place : Addr} {occheck_place : Value} {odcheck_place ancheck_place : Option Addr} {kVcheck_place dccheck_place pmcheck_place cdcheck_place ctcheck_place : Value} {slcheck_place : Array (Option Value)} (F_check_place : Left K "check_place" s_check_place fcheck_place occheck_place odcheck_place ancheck_place kVcheck_place dccheck_place pmcheck_place cdcheck_place ctcheck_place slcheck_place)
    {fcheck_number : Addr} {occheck_number : Value} {odcheck_number ancheck_number : Option Addr} {kVcheck_number dccheck_number pmcheck_number cdcheck_number ctcheck_number : Value} {slcheck_number : Array (Option Value)} (F_check_number : Left K "check_number" s_check_number fcheck_number occheck_number odcheck_number ancheck_number kVcheck_number dccheck_number pmcheck_number cdcheck_number ctcheck_number slcheck_number)
    {fcheck_keeper : Addr} {occheck_keeper : Value} {odcheck_keeper ancheck_keeper : Option Addr} {kVcheck_keeper dccheck_keeper pmcheck_keeper cdcheck_keeper ctcheck_keeper : Value} {slcheck_keeper : Array (Option Value)} (F_check_keeper : Left K "check_keeper" s_check_keeper fcheck_keeper occheck_keeper odcheck_keeper ancheck_keeper kVcheck_keeper dccheck_keeper pmcheck_keeper cdcheck_keeper ctcheck_keeper slcheck_keeper)
    {fcheck_not_early : Addr} {occheck_not_early : Value} {odcheck_not_early ancheck_not_early : Option Addr} {kVcheck_not_early dccheck_not_early pmcheck_not_early cdcheck_not_early ctcheck_not_early : Value} {slcheck_not_early : Array (Option Value)} (F_check_not_early : Left K "check_not_early" s_check_not_early fcheck_not_early occheck_not_early odcheck_not_early ancheck_not_early kVcheck_not_early dccheck_not_early pmcheck_not_early cdcheck_not_early ctcheck_not_early slcheck_not_early)
    {fare_ranks : Addr} {ocare_ranks : Value} {odare_ranks anare_ranks : Option Addr} {kVare_ranks dcare_ranks pmare_ranks cdare_ranks ctare_ranks : Value} {slare_ranks : Array (Option Value)} (F_are_ranks : Left K "are_ranks" s_are_ranks fare_ranks ocare_ranks odare_ranks anare_ranks kVare_ranks dcare_ranks pmare_ranks cdare_ranks ctare_ranks slare_ranks)
    {fearlier_end : Addr} {ocearlier_end : Value} {odearlier_end anearlier_end : Option Addr} {kVearlier_end dcearlier_end pmearlier_end cdearlier_end ctearlier_end : Value} {slearlier_end : Array (Option Value)} (F_earlier_end : Left K "earlier_end" s_earlier_end fearlier_end ocearlier_end odearlier_end anearlier_end kVearlier_end dcearlier_end pmearlier_end cdearlier_end ctearlier_end slearlier_end)
    {fruns_of : Addr} {ocruns_of : Value} {odruns_of anruns_of : Option Addr} {kVruns_of dcruns_of pmruns_of cdruns_of ctruns_of : Value} {slruns_of : Array (Option Value)} (F_runs_of : Left K "runs_of" s_runs_of fruns_of ocruns_of odruns_of anruns_of kVruns_of dcruns_of pmruns_of cdruns_of ctruns_of slruns_of)
    {fsettled : Addr} {ocsettled : Value} {odsettled ansettled : Option Addr} {kVsettled dcsettled pmsettled cdsettled ctsettled : Value} {slsettled : Array (Option Value)} (F_settled : Left K "settled" s_settled fsettled ocsettled odsettled ansettled kVsettled dcsettled pmsettled cdsettled ctsettled slsettled)
    {fgiven_back : Addr} {ocgiven_back : Value} {odgiven_back angiven_back : Option Addr} {kVgiven_back dcgiven_back pmgiven_back cdgiven_back ctgiven_back : Value} {slgiven_back : Array (Option Value)} (F_given_back : Left K "given_back" s_given_back fgiven_back ocgiven_back odgiven_back angiven_back kVgiven_back dcgiven_back pmgiven_back cdgiven_back ctgiven_back slgiven_back)
    {fspells : Addr} {ocspells : Value} {odspells anspells : Option Addr} {kVspells dcspells pmspells cdspells ctspells : Value} {slspells : Array (Option Value)} (F_spells : Left K "spells" s_spells fspells ocspells odspells anspells kVspells dcspells pmspells cdspells ctspells slspells)
    {fdays_behind : Addr} {ocdays_behind : Value} {oddays_behind andays_behind : Option Addr} {kVdays_behind dcdays_behind pmdays_behind cddays_behind ctdays_behind : Value} {sldays_behind : Array (Option Value)} (F_days_behind : Left K "days_behind" s_days_behind fdays_behind ocdays_behind oddays_behind andays_behind kVdays_behind dcdays_behind pmdays_behind cddays_behind ctdays_behind sldays_behind)
    {f_law_cell : Addr} {oc_law_cell : Value} {od_law_cell an_law_cell : Option Addr} {kV_law_cell dc_law_cell pm_law_cell cd_law_cell ct_law_cell : Value} {sl_law_cell : Array (Option Value)} (F__law_cell : Left K "_law_cell" s__law_cell f_law_cell oc_law_cell od_law_cell an_law_cell kV_law_cell dc_law_cell pm_law_cell cd_law_cell ct_law_cell sl_law_cell)
    {f_law_pot : Addr} {oc_law_pot : Value} {od_law_pot an_law_pot : Option Addr} {kV_law_pot dc_law_pot pm_law_pot cd_law_pot ct_law_pot : Value} {sl_law_pot : Array (Option Value)} (F__law_pot : Left K "_law_pot" s__law_pot f_law_pot oc_law_pot od_law_pot an_law_pot kV_law_pot dc_law_pot pm_law_pot cd_law_pot ct_law_pot sl_law_pot)
    {f_law_take : Addr} {oc_law_take : Value} {od_law_take an_law_take : Option Addr} {kV_law_take dc_law_take pm_law_take cd_law_take ct_law_take : Value} {sl_law_take : Array (Option Value)} (F__law_take : Left K "_law_take" s__law_take f_law_take oc_law_take od_law_take an_law_take kV_law_take dc_law_take pm_law_take cd_law_take ct_law_take sl_law_take)
    {f_law_names : Addr} {oc_law_names : Value} {od_law_names an_law_names : Option Addr} {kV_law_names dc_law_names pm_law_names cd_law_names ct_law_names : Value} {sl_law_names : Array (Option Value)} (F__law_names : Left K "_law_names" s__law_names f_law_names oc_law_names od_law_names an_law_names kV_law_names dc_law_names pm_law_names cd_law_names ct_law_names sl_law_names)
    {f_law_moves : Addr} {oc_law_moves : Value} {od_law_moves an_law_moves : Option Addr} {kV_law_moves dc_law_moves pm_law_moves cd_law_moves ct_law_moves : Value} {sl_law_moves : Array (Option Value)} (F__law_moves : Left K "_law_moves" s__law_moves f_law_moves oc_law_moves od_law_moves an_law_moves kV_law_moves dc_law_moves pm_law_moves cd_law_moves ct_law_moves sl_law_moves)
    {f_law_far : Addr} {oc_law_far : Value} {od_law_far an_law_far : Option Addr} {kV_law_far dc_law_far pm_law_far cd_law_far ct_law_far : Value} {sl_law_far : Array (Option Value)} (F__law_far : Left K "_law_far" s__law_far f_law_far oc_law_far od_law_far an_law_far kV_law_far dc_law_far pm_law_far cd_law_far ct_law_far sl_law_far)
    {f_law_case : Addr} {oc_law_case : Value} {od_law_case an_law_case : Option Addr} {kV_law_case dc_law_case pm_law_case cd_law_case ct_law_case : Value} {sl_law_case : Array (Option Value)} (F__law_case : Left K "_law_case" s__law_case f_law_case oc_law_case od_law_case an_law_case kV_law_case dc_law_case pm_law_case cd_law_case ct_law_case sl_law_case)
    {f_law_book : Addr} {oc_law_book : Value} {od_law_book an_law_book : Option Addr} {kV_law_book dc_law_book pm_law_book cd_law_book ct_law_book : Value} {sl_law_book : Array (Option Value)} (F__law_book : Left K "_law_book" s__law_book f_law_book oc_law_book od_law_book an_law_book kV_law_book dc_law_book pm_law_book cd_law_book ct_law_book sl_law_book)
    {f_law_no_keeper : Addr} {oc_law_no_keeper : Value} {od_law_no_keeper an_law_no_keeper : Option Addr} {kV_law_no_keeper dc_law_no_keeper pm_law_no_keeper cd_law_no_keeper ct_law_no_keeper : Value} {sl_law_no_keeper : Array (Option Value)} (F__law_no_keeper : Left K "_law_no_keeper" s__law_no_keeper f_law_no_keeper oc_law_no_keeper od_law_no_keeper an_law_no_keeper kV_law_no_keeper dc_law_no_keeper pm_law_no_keeper cd_law_no_keeper ct_law_no_keeper sl_law_no_keeper)
    {f_law_no_day : Addr} {oc_law_no_day : Value} {od_law_no_day an_law_no_day : Option Addr} {kV_law_no_day dc_law_no_day pm_law_no_day cd_law_no_day ct_law_no_day : Value} {sl_law_no_day : Array (Option Value)} (F__law_no_day : Left K "_law_no_day" s__law_no_day f_law_no_day oc_law_no_day od_law_no_day an_law_no_day kV_law_no_day dc_law_no_day pm_law_no_day cd_law_no_day ct_law_no_day sl_law_no_day)
    {f_law_handed : Addr} {oc_law_handed : Value} {od_law_handed an_law_handed : Option Addr} {kV_law_handed dc_law_handed pm_law_handed cd_law_handed ct_law_handed : Value} {sl_law_handed : Array (Option Value)} (F__law_handed : Left K "_law_handed" s__law_handed f_law_handed oc_law_handed od_law_handed an_law_handed kV_law_handed dc_law_handed pm_law_handed cd_law_handed ct_law_handed sl_law_handed)
    {f_law_word : Addr} {oc_law_word : Value} {od_law_word an_law_word : Option Addr} {kV_law_word dc_law_word pm_law_word cd_law_word ct_law_word : Value} {sl_law_word : Array (Option Value)} (F__law_word : Left K "_law_word" s__law_word f_law_word oc_law_word od_law_word an_law_word kV_law_word dc_law_word pm_law_word cd_law_word ct_law_word sl_law_word)
    {f_law_due : Addr} {oc_law_due : Value} {od_law_due an_law_due : Option Addr} {kV_law_due dc_law_due pm_law_due cd_law_due ct_law_due : Value} {sl_law_due : Array (Option Value)} (F__law_due : Left K "_law_due" s__law_due f_law_due oc_law_due od_law_due an_law_due kV_law_due dc_law_due pm_law_due cd_law_due ct_law_due sl_law_due)
    {f_law_truths_right : Addr} {oc_law_truths_right : Value} {od_law_truths_right an_law_truths_right : Option Addr} {kV_law_truths_right dc_law_truths_right pm_law_truths_right cd_law_truths_right ct_law_truths_right : Value} {sl_law_truths_right : Array (Option Value)} (F__law_truths_right : Left K "_law_truths_right" s__law_truths_right f_law_truths_right oc_law_truths_right od_law_truths_right an_law_truths_right kV_law_truths_right dc_law_truths_right pm_law_truths_right cd_law_truths_right ct_law_truths_right sl_law_truths_right)
    {flaw : Addr} {oclaw : Value} {odlaw anlaw : Option Addr} {kVlaw dclaw pmlaw cdlaw ctlaw : Value} {sllaw : Array (Option Value)} (F_law : Left K "law" s_law flaw oclaw odlaw anlaw kVlaw dclaw pmlaw cdlaw ctlaw sllaw)
    {t_SMALL_LETTERS : Tok} (y_SMALL_LETTERS : PySem.W.nsIn K mainGlobals "SMALL_LETTERS" = some (some (.str (Str.ofString "abcdefghijklmnopqrstuvwxyz") t_SMALL_LETTERS)))
    {t_LONGEST_NAME : Tok} (y_LONGEST_NAME : PySem.W.nsIn K mainGlobals "LONGEST_NAME" = some (some (.int (8) t_LONGEST_NAME)))
    {t_ASHORE : Tok} (y_ASHORE : PySem.W.nsIn K mainGlobals "ASHORE" = some (some (.str (Str.ofString "") t_ASHORE)))
    {t_MOST_KEEPERS : Tok} (y_MOST_KEEPERS : PySem.W.nsIn K mainGlobals "MOST_KEEPERS" = some (some (.int (30) t_MOST_KEEPERS)))
    {t_HIGHEST_RANK : Tok} (y_HIGHEST_RANK : PySem.W.nsIn K mainGlobals "HIGHEST_RANK" = some (some (.int (1) t_HIGHEST_RANK)))
    {t_LOWEST_RANK : Tok} (y_LOWEST_RANK : PySem.W.nsIn K mainGlobals "LOWEST_RANK" = some (some (.int (9) t_LOWEST_RANK)))
    (z_isinstance : PySem.W.nsIn K mainGlobals "isinstance" = some none)
    (z_int : PySem.W.nsIn K mainGlobals "int" = some none)
    (z_bool : PySem.W.nsIn K mainGlobals "bool" = some none)
    (z_len : PySem.W.nsIn K mainGlobals "len" = some none)
    (z_abs : PySem.W.nsIn K mainGlobals "abs" = some none)
    (z_max : PySem.W.nsIn K mainGlobals "max" = some none)
    (z_min : PySem.W.nsIn K mainGlobals "min" = some none)
    (z_divmod : PySem.W.nsIn K mainGlobals "divmod" = some none)
    (z_range : PySem.W.nsIn K mainGlobals "range" = some none)
    (z_repr : PySem.W.nsIn K mainGlobals "repr" = some none)
    (z_zip : PySem.W.nsIn K mainGlobals "zip" = some none)
    (z_ValueError : PySem.W.nsIn K mainGlobals "ValueError" = some none)
    (z_all : PySem.W.nsIn K mainGlobals "all" = some none)
    (z_any : PySem.W.nsIn K mainGlobals "any" = some none)
    (z_sum : PySem.W.nsIn K mainGlobals "sum" = some none)
    (z_sorted : PySem.W.nsIn K mainGlobals "sorted" = some none)
    (z_list : PySem.W.nsIn K mainGlobals "list" = some none)
    (z_tuple : PySem.W.nsIn K mainGlobals "tuple" = some none)
    (z_dict : PySem.W.nsIn K mainGlobals "dict" = some none)
    (z_enumerate : PySem.W.nsIn K mainGlobals "enumerate" = some none)
    (z_reversed : PySem.W.nsIn K mainGlobals "reversed" = some none)
    (z_str : PySem.W.nsIn K mainGlobals "str" = some none)
    (z_set : PySem.W.nsIn K mainGlobals "set" = some none)
    : LawG l w K CX0 15 63 "_law_script" mg fa h := by
  have e := hfa.symm.trans (PySem.W.mg_of X G F_law.ns)
  cases e
  have N : ∀ {x : Str}, PySem.W.nsIn K mainGlobals x = some none → mg x = none := fun z => PySem.W.mg_none_of X G z
  have D_Stretch___init__ : FunD K "__init__" "Stretch.__init__" (defArgs s_Stretch___init__) (defBody s_Stretch___init__) (defScope s_Stretch___init__) [.non] [] _ _ := ⟨⟨ocStretch___init__, odStretch___init__, .ref TStretch___init__, kVStretch___init__, dcStretch___init__, pmStretch___init__, anStretch___init__, cdStretch___init__, ctStretch___init__, slStretch___init__, rfl, F_Stretch___init__.lk, F_Stretch___init__.cd, .inr ⟨nofun, TStretch___init__, _, [.none], nTStretch___init__, rfl, F_Stretch___init__.lT, rfl, (.cons rfl .nil)⟩, .inl rfl⟩, F_Stretch___init__.kp⟩
  have D_turns : FunD K "turns" "turns" (defArgs s_turns) (defBody s_turns) (defScope s_turns) [.non] [] _ _ := ⟨⟨octurns, odturns, .ref Tturns, kVturns, dcturns, pmturns, anturns, cdturns, ctturns, slturns, rfl, F_turns.lk, F_turns.cd, .inr ⟨nofun, Tturns, _, [.none], nTturns, rfl, F_turns.lT, rfl, (.cons rfl .nil)⟩, .inl rfl⟩, F_turns.kp⟩
  have D_days_over : FunD K "days_over" "days_over" (defArgs s_days_over) (defBody s_days_over) (defScope s_days_over) [.non] [] _ _ := ⟨⟨ocdays_over, oddays_over, .ref Tdays_over, kVdays_over, dcdays_over, pmdays_over, andays_over, cddays_over, ctdays_over, sldays_over, rfl, F_days_over.lk, F_days_over.cd, .inr ⟨nofun, Tdays_over, _, [.none], nTdays_over, rfl, F_days_over.lT, rfl, (.cons rfl .nil)⟩, .inl rfl⟩, F_days_over.kp⟩
  have D_days_owed : FunD K "days_owed" "days_owed" (defArgs s_days_owed) (defBody s_days_owed) (defScope s_days_owed) [.int 0, .non] [] _ _ := ⟨⟨ocdays_owed, oddays_owed, .ref Tdays_owed, kVdays_owed, dcdays_owed, pmdays_owed, andays_owed, cddays_owed, ctdays_owed, sldays_owed, rfl, F_days_owed.lk, F_days_owed.cd, .inr ⟨nofun, Tdays_owed, _, [.int 0 t0days_owed, .none], nTdays_owed, rfl, F_days_owed.lT, rfl, (.cons ⟨_, rfl⟩ (.cons rfl .nil))⟩, .inl rfl⟩, F_days_owed.kp⟩
  have D_days_given : FunD K "days_given" "days_given" (defArgs s_days_given) (defBody s_days_given) (defScope s_days_given) [.int 0, .non] [] _ _ := ⟨⟨ocdays_given, oddays_given, .ref Tdays_given, kVdays_given, dcdays_given, pmdays_given, andays_given, cddays_given, ctdays_given, sldays_given, rfl, F_days_given.lk, F_days_given.cd, .inr ⟨nofun, Tdays_given, _, [.int 0 t0days_given, .none], nTdays_given, rfl, F_days_given.lT, rfl, (.cons ⟨_, rfl⟩ (.cons rfl .nil))⟩, .inl rfl⟩, F_days_given.kp⟩
  let A : All K l.prog mg := {
    T := ⟨N z_isinstance, N z_int, N z_bool, N z_len, N z_abs, N z_max, N z_min, N z_divmod, N z_range, N z_repr, N z_zip, N z_ValueError, N z_all, N z_any, N z_sum, N z_sorted, N z_list, N z_tuple, N z_dict, N z_enumerate, N z_reversed, N z_str, N z_set⟩
    t_SMALL_LETTERS := t_SMALL_LETTERS
    g_SMALL_LETTERS := PySem.W.mg_of X G y_SMALL_LETTERS
    t_LONGEST_NAME := t_LONGEST_NAME
    g_LONGEST_NAME := PySem.W.mg_of X G y_LONGEST_NAME
    t_ASHORE := t_ASHORE
    g_ASHORE := PySem.W.mg_of X G y_ASHORE
    t_MOST_KEEPERS := t_MOST_KEEPERS
    g_MOST_KEEPERS := PySem.W.mg_of X G y_MOST_KEEPERS
    t_HIGHEST_RANK := t_HIGHEST_RANK
    g_HIGHEST_RANK := PySem.W.mg_of X G y_HIGHEST_RANK
    t_LOWEST_RANK := t_LOWEST_RANK
    g_LOWEST_RANK := PySem.W.mg_of X G y_LOWEST_RANK
    C_LightsError := C_LightsError
    g_LightsError := PySem.W.mg_of X G D.n_LightsError
    C_Wrong := C_Wrong
    g_Wrong := PySem.W.mg_of X G D.n_Wrong
    C_Barred := C_Barred
    g_Barred := PySem.W.mg_of X G D.n_Barred
    C_NoDay := C_NoDay
    g_NoDay := PySem.W.mg_of X G D.n_NoDay
    C_NoName := C_NoName
    g_NoName := PySem.W.mg_of X G D.n_NoName
    C_NoStretches := C_NoStretches
    g_NoStretches := PySem.W.mg_of X G D.n_NoStretches
    C_NoNumber := C_NoNumber
    g_NoNumber := PySem.W.mg_of X G D.n_NoNumber
    C_NoKeeper := C_NoKeeper
    g_NoKeeper := PySem.W.mg_of X G D.n_NoKeeper
    C_NoPlace := C_NoPlace
    g_NoPlace := PySem.W.mg_of X G D.n_NoPlace
    E_NoDay := ⟨PySem.W.mg_of X G D.n_NoDay, D.x_NoDay, D.k_NoDay, D.b_NoDay, D.ty_NoDay⟩
    x_NoDay := ⟨D.eg_NoDay, D.ek_NoDay, D.b_NoDay, D.ed_NoDay, D.ea_NoDay, D.cn, D.ct, D.em_NoDay⟩
    kv_NoDay := kit_ve D.sv_NoDay
    E_NoNumber := ⟨PySem.W.mg_of X G D.n_NoNumber, D.x_NoNumber, D.k_NoNumber, D.b_NoNumber, D.ty_NoNumber⟩
    x_NoNumber := ⟨D.eg_NoNumber, D.ek_NoNumber, D.b_NoNumber, D.ed_NoNumber, D.ea_NoNumber, D.cn, D.ct, D.em_NoNumber⟩
    kv_NoNumber := kit_ve D.sv_NoNumber
    E_NoKeeper := ⟨PySem.W.mg_of X G D.n_NoKeeper, D.x_NoKeeper, D.k_NoKeeper, D.b_NoKeeper, D.ty_NoKeeper⟩
    x_NoKeeper := ⟨D.eg_NoKeeper, D.ek_NoKeeper, D.b_NoKeeper, D.ed_NoKeeper, D.ea_NoKeeper, D.cn, D.ct, D.em_NoKeeper⟩
    kv_NoKeeper := kit_ve D.sv_NoKeeper
    kit_NoDay_Barred := kit_no D.i_Barred D.ty_Barred D.s_NoDay_Barred D.q_NoDay_Barred
    kit_NoDay_NoName := kit_no D.i_NoName D.ty_NoName D.s_NoDay_NoName D.q_NoDay_NoName
    kit_NoDay_NoPlace := kit_no D.i_NoPlace D.ty_NoPlace D.s_NoDay_NoPlace D.q_NoDay_NoPlace
    kit_NoDay_NoStretches := kit_no D.i_NoStretches D.ty_NoStretches D.s_NoDay_NoStretches D.q_NoDay_NoStretches
    kit_NoDay_NoKeeper := kit_no D.i_NoKeeper D.ty_NoKeeper D.s_NoDay_NoKeeper D.q_NoDay_NoKeeper
    kit_NoDay_NoDay := kit_self
    kit_NoDay_NoNumber := kit_no D.i_NoNumber D.ty_NoNumber D.s_NoDay_NoNumber D.q_NoDay_NoNumber
    kit_NoDay_Wrong := kit_yes D.i_Wrong D.ty_Wrong D.s_NoDay_Wrong
    kit_NoNumber_Barred := kit_no D.i_Barred D.ty_Barred D.s_NoNumber_Barred D.q_NoNumber_Barred
    kit_NoNumber_NoName := kit_no D.i_NoName D.ty_NoName D.s_NoNumber_NoName D.q_NoNumber_NoName
    kit_NoNumber_NoPlace := kit_no D.i_NoPlace D.ty_NoPlace D.s_NoNumber_NoPlace D.q_NoNumber_NoPlace
    kit_NoNumber_NoStretches := kit_no D.i_NoStretches D.ty_NoStretches D.s_NoNumber_NoStretches D.q_NoNumber_NoStretches
    kit_NoNumber_NoKeeper := kit_no D.i_NoKeeper D.ty_NoKeeper D.s_NoNumber_NoKeeper D.q_NoNumber_NoKeeper
    kit_NoNumber_NoDay := kit_no D.i_NoDay D.ty_NoDay D.s_NoNumber_NoDay D.q_NoNumber_NoDay
    kit_NoNumber_NoNumber := kit_self
    kit_NoNumber_Wrong := kit_yes D.i_Wrong D.ty_Wrong D.s_NoNumber_Wrong
    kit_NoKeeper_Barred := kit_no D.i_Barred D.ty_Barred D.s_NoKeeper_Barred D.q_NoKeeper_Barred
    kit_NoKeeper_NoName := kit_no D.i_NoName D.ty_NoName D.s_NoKeeper_NoName D.q_NoKeeper_NoName
    kit_NoKeeper_NoPlace := kit_no D.i_NoPlace D.ty_NoPlace D.s_NoKeeper_NoPlace D.q_NoKeeper_NoPlace
    kit_NoKeeper_NoStretches := kit_no D.i_NoStretches D.ty_NoStretches D.s_NoKeeper_NoStretches D.q_NoKeeper_NoStretches
    kit_NoKeeper_NoKeeper := kit_self
    kit_NoKeeper_NoDay := kit_no D.i_NoDay D.ty_NoDay D.s_NoKeeper_NoDay D.q_NoKeeper_NoDay
    kit_NoKeeper_NoNumber := kit_no D.i_NoNumber D.ty_NoNumber D.s_NoKeeper_NoNumber D.q_NoKeeper_NoNumber
    kit_NoKeeper_Wrong := kit_yes D.i_Wrong D.ty_Wrong D.s_NoKeeper_Wrong
    exm_NoDay_LightsError := exm_is D.sb_LightsError D.i_LightsError D.ty_LightsError D.s_NoDay_LightsError
    exm_NoNumber_LightsError := exm_is D.sb_LightsError D.i_LightsError D.ty_LightsError D.s_NoNumber_LightsError
    exm_NoKeeper_LightsError := exm_is D.sb_LightsError D.i_LightsError D.ty_LightsError D.s_NoKeeper_LightsError
    C_History := C_History
    Z_History := ⟨⟨D.pg_History, D.hd_History, D.po_History, D.sa_History⟩, PySem.W.mg_of X G D.n_History, D.kC_History⟩
    n_History_by_day := D.f_History_by_day
    C_Book := C_Book
    Z_Book := ⟨⟨D.pg_Book, D.hd_Book, D.po_Book, D.sa_Book⟩, PySem.W.mg_of X G D.n_Book, D.kC_Book⟩
    n_Book_rank_of := D.f_Book_rank_of
    n_Book_moves := D.f_Book_moves
    n_Book_landings := D.f_Book_landings
    n_Book_latest_known := D.f_Book_latest_known
    C_Stretch := C_Stretch
    Z_Stretch := ⟨⟨D.pg_Stretch, D.hd_Stretch, D.po_Stretch, D.sa_Stretch⟩, PySem.W.mg_of X G D.n_Stretch, D.kC_Stretch⟩
    n_Stretch_first_day := D.f_Stretch_first_day
    n_Stretch_last_day := D.f_Stretch_last_day
    f_History___init__ := fHistory___init__
    d_History___init__ := _
    h_History___init__ := ⟨F_History___init__.fn, F_History___init__.fn.binds fun _ _ _ _ _ _ us hl => match us, hl with | [_], _ => rfl, F_History___init__.me⟩
    M_History := ⟨D.mk_History, F_History___init__.at_, F_History___init__.isf, D.kC_History⟩
    f_History_note := fHistory_note
    d_History_note := _
    h_History_note := ⟨F_History_note.fn, F_History_note.fn.binds fun _ _ _ _ _ _ us hl => match us, hl with | [_, _, _, _], _ => rfl, F_History_note.me⟩
    f_History_all_told := fHistory_all_told
    d_History_all_told := _
    h_History_all_told := ⟨F_History_all_told.fn, F_History_all_told.fn.binds fun _ _ _ _ _ _ us hl => match us, hl with | [_], _ => rfl, F_History_all_told.me⟩
    f_History_told_last := fHistory_told_last
    d_History_told_last := _
    h_History_told_last := ⟨F_History_told_last.fn, F_History_told_last.fn.binds fun _ _ _ _ _ _ us hl => match us, hl with | [_, _, _], _ => rfl, F_History_told_last.me⟩
    f_History_holding := fHistory_holding
    d_History_holding := _
    h_History_holding := ⟨F_History_holding.fn, F_History_holding.fn.binds fun _ _ _ _ _ _ us hl => match us, hl with | [_, _], _ => rfl, F_History_holding.me⟩
    f_Book___init__ := fBook___init__
    d_Book___init__ := _
    h_Book___init__ := ⟨F_Book___init__.fn, F_Book___init__.fn.binds fun _ _ _ _ _ _ us hl => match us, hl with | [_, _], _ => rfl, F_Book___init__.me⟩
    M_Book := ⟨D.mk_Book, F_Book___init__.at_, F_Book___init__.isf, D.kC_Book⟩
    f_Book_tell := fBook_tell
    d_Book_tell := _
    h_Book_tell := ⟨F_Book_tell.fn, F_Book_tell.fn.binds fun _ _ _ _ _ _ us hl => match us, hl with | [_, _, _, _, _], _ => rfl, F_Book_tell.me⟩
    f_Book_land := fBook_land
    d_Book_land := _
    h_Book_land := ⟨F_Book_land.fn, F_Book_land.fn.binds fun _ _ _ _ _ _ us hl => match us, hl with | [_, _, _, _, _], _ => rfl, F_Book_land.me⟩
    f_Book_moves_known := fBook_moves_known
    d_Book_moves_known := _
    h_Book_moves_known := ⟨F_Book_moves_known.fn, F_Book_moves_known.fn.binds fun _ _ _ _ _ _ us hl => match us, hl with | [_, _, _], _ => rfl, F_Book_moves_known.me⟩
    f_Stretch_first := fStretch_first
    d_Stretch_first := _
    h_Stretch_first := ⟨F_Stretch_first.fn, F_Stretch_first.fn.binds fun _ _ _ _ _ _ us hl => match us, hl with | [_], _ => rfl, F_Stretch_first.me⟩
    f_Stretch_last := fStretch_last
    d_Stretch_last := _
    h_Stretch_last := ⟨F_Stretch_last.fn, F_Stretch_last.fn.binds fun _ _ _ _ _ _ us hl => match us, hl with | [_], _ => rfl, F_Stretch_last.me⟩
    f_Stretch___init__ := fStretch___init__
    d_Stretch___init__ := _
    q_Stretch___init__ := D_Stretch___init__
    me_Stretch___init__ := ⟨F_Stretch___init__.at_, F_Stretch___init__.isf, F_Stretch___init__.kp⟩
    M_Stretch := ⟨D.mk_Stretch, F_Stretch___init__.at_, F_Stretch___init__.isf, D.kC_Stretch⟩
    f_is_name := fis_name
    d_is_name := _
    h_is_name := ⟨F_is_name.fn, F_is_name.fn.binds fun _ _ _ _ _ _ us hl => match us, hl with | [_], _ => rfl, PySem.W.mg_of X G F_is_name.ns⟩
    f_is_place := fis_place
    d_is_place := _
    h_is_place := ⟨F_is_place.fn, F_is_place.fn.binds fun _ _ _ _ _ _ us hl => match us, hl with | [_], _ => rfl, PySem.W.mg_of X G F_is_place.ns⟩
    f_is_whole := fis_whole
    d_is_whole := _
    h_is_whole := ⟨F_is_whole.fn, F_is_whole.fn.binds fun _ _ _ _ _ _ us hl => match us, hl with | [_], _ => rfl, PySem.W.mg_of X G F_is_whole.ns⟩
    f_is_from := fis_from
    d_is_from := _
    h_is_from := ⟨F_is_from.fn, F_is_from.fn.binds fun _ _ _ _ _ _ us hl => match us, hl with | [_, _], _ => rfl, PySem.W.mg_of X G F_is_from.ns⟩
    f_is_within := fis_within
    d_is_within := _
    h_is_within := ⟨F_is_within.fn, F_is_within.fn.binds fun _ _ _ _ _ _ us hl => match us, hl with | [_, _, _], _ => rfl, PySem.W.mg_of X G F_is_within.ns⟩
    f_is_day := fis_day
    d_is_day := _
    h_is_day := ⟨F_is_day.fn, F_is_day.fn.binds fun _ _ _ _ _ _ us hl => match us, hl with | [_], _ => rfl, PySem.W.mg_of X G F_is_day.ns⟩
    f_check_day := fcheck_day
    d_check_day := _
    h_check_day := ⟨F_check_day.fn, F_check_day.fn.binds fun _ _ _ _ _ _ us hl => match us, hl with | [_], _ => rfl, PySem.W.mg_of X G F_check_day.ns⟩
    f_check_known := fcheck_known
    d_check_known := _
    h_check_known := ⟨F_check_known.fn, F_check_known.fn.binds fun _ _ _ _ _ _ us hl => match us, hl with | [_], _ => rfl, PySem.W.mg_of X G F_check_known.ns⟩
    f_check_days := fcheck_days
    d_check_days := _
    h_check_days := ⟨F_check_days.fn, F_check_days.fn.binds fun _ _ _ _ _ _ us hl => match us, hl with | [_, _], _ => rfl, PySem.W.mg_of X G F_check_days.ns⟩
    f_check_light := fcheck_light
    d_check_light := _
    h_check_light := ⟨F_check_light.fn, F_check_light.fn.binds fun _ _ _ _ _ _ us hl => match us, hl with | [_], _ => rfl, PySem.W.mg_of X G F_check_light.ns⟩
    f_check_place := fcheck_place
    d_check_place := _
    h_check_place := ⟨F_check_place.fn, F_check_place.fn.binds fun _ _ _ _ _ _ us hl => match us, hl with | [_], _ => rfl, PySem.W.mg_of X G F_check_place.ns⟩
    f_check_number := fcheck_number
    d_check_number := _
    h_check_number := ⟨F_check_number.fn, F_check_number.fn.binds fun _ _ _ _ _ _ us hl => match us, hl with | [_, _], _ => rfl, PySem.W.mg_of X G F_check_number.ns⟩
    f_check_keeper := fcheck_keeper
    d_check_keeper := _
    h_check_keeper := ⟨F_check_keeper.fn, F_check_keeper.fn.binds fun _ _ _ _ _ _ us hl => match us, hl with | [_, _], _ => rfl, PySem.W.mg_of X G F_check_keeper.ns⟩
    f_check_not_early := fcheck_not_early
    d_check_not_early := _
    h_check_not_early := ⟨F_check_not_early.fn, F_check_not_early.fn.binds fun _ _ _ _ _ _ us hl => match us, hl with | [_, _], _ => rfl, PySem.W.mg_of X G F_check_not_early.ns⟩
    f_are_ranks := fare_ranks
    d_are_ranks := _
    h_are_ranks := ⟨F_are_ranks.fn, F_are_ranks.fn.binds fun _ _ _ _ _ _ us hl => match us, hl with | [_], _ => rfl, PySem.W.mg_of X G F_are_ranks.ns⟩
    f_earlier_end := fearlier_end
    d_earlier_end := _
    h_earlier_end := ⟨F_earlier_end.fn, F_earlier_end.fn.binds fun _ _ _ _ _ _ us hl => match us, hl with | [_, _], _ => rfl, PySem.W.mg_of X G F_earlier_end.ns⟩
    f_runs_of := fruns_of
    d_runs_of := _
    h_runs_of := ⟨F_runs_of.fn, F_runs_of.fn.binds fun _ _ _ _ _ _ us hl => match us, hl with | [_, _], _ => rfl, PySem.W.mg_of X G F_runs_of.ns⟩
    f_settled := fsettled
    d_settled := _
    h_settled := ⟨F_settled.fn, F_settled.fn.binds fun _ _ _ _ _ _ us hl => match us, hl with | [_, _, _, _, _, _], _ => rfl, PySem.W.mg_of X G F_settled.ns⟩
    f_given_back := fgiven_back
    d_given_back := _
    h_given_back := ⟨F_given_back.fn, F_given_back.fn.binds fun _ _ _ _ _ _ us hl => match us, hl with | [_, _, _], _ => rfl, PySem.W.mg_of X G F_given_back.ns⟩
    f_spells := fspells
    d_spells := _
    h_spells := ⟨F_spells.fn, F_spells.fn.binds fun _ _ _ _ _ _ us hl => match us, hl with | [_, _, _, _], _ => rfl, PySem.W.mg_of X G F_spells.ns⟩
    f_days_behind := fdays_behind
    d_days_behind := _
    h_days_behind := ⟨F_days_behind.fn, F_days_behind.fn.binds fun _ _ _ _ _ _ us hl => match us, hl with | [_, _], _ => rfl, PySem.W.mg_of X G F_days_behind.ns⟩
    f__law_cell := f_law_cell
    d__law_cell := _
    h__law_cell := ⟨F__law_cell.fn, F__law_cell.fn.binds fun _ _ _ _ _ _ us hl => match us, hl with | [_, _], _ => rfl, PySem.W.mg_of X G F__law_cell.ns⟩
    f__law_pot := f_law_pot
    d__law_pot := _
    h__law_pot := ⟨F__law_pot.fn, F__law_pot.fn.binds fun _ _ _ _ _ _ us hl => match us, hl with | [_, _], _ => rfl, PySem.W.mg_of X G F__law_pot.ns⟩
    f__law_take := f_law_take
    d__law_take := _
    h__law_take := ⟨F__law_take.fn, F__law_take.fn.binds fun _ _ _ _ _ _ us hl => match us, hl with | [_, _], _ => rfl, PySem.W.mg_of X G F__law_take.ns⟩
    f__law_names := f_law_names
    d__law_names := _
    h__law_names := ⟨F__law_names.fn, F__law_names.fn.binds fun _ _ _ _ _ _ us hl => match us, hl with | [_, _], _ => rfl, PySem.W.mg_of X G F__law_names.ns⟩
    f__law_moves := f_law_moves
    d__law_moves := _
    h__law_moves := ⟨F__law_moves.fn, F__law_moves.fn.binds fun _ _ _ _ _ _ us hl => match us, hl with | [_, _, _], _ => rfl, PySem.W.mg_of X G F__law_moves.ns⟩
    f__law_far := f_law_far
    d__law_far := _
    h__law_far := ⟨F__law_far.fn, F__law_far.fn.binds fun _ _ _ _ _ _ us hl => match us, hl with | [_], _ => rfl, PySem.W.mg_of X G F__law_far.ns⟩
    f__law_case := f_law_case
    d__law_case := _
    h__law_case := ⟨F__law_case.fn, F__law_case.fn.binds fun _ _ _ _ _ _ us hl => match us, hl with | [_], _ => rfl, PySem.W.mg_of X G F__law_case.ns⟩
    f__law_book := f_law_book
    d__law_book := _
    h__law_book := ⟨F__law_book.fn, F__law_book.fn.binds fun _ _ _ _ _ _ us hl => match us, hl with | [_, _, _], _ => rfl, PySem.W.mg_of X G F__law_book.ns⟩
    f__law_no_keeper := f_law_no_keeper
    d__law_no_keeper := _
    h__law_no_keeper := ⟨F__law_no_keeper.fn, F__law_no_keeper.fn.binds fun _ _ _ _ _ _ us hl => match us, hl with | [_, _], _ => rfl, PySem.W.mg_of X G F__law_no_keeper.ns⟩
    f__law_no_day := f_law_no_day
    d__law_no_day := _
    h__law_no_day := ⟨F__law_no_day.fn, F__law_no_day.fn.binds fun _ _ _ _ _ _ us hl => match us, hl with | [_], _ => rfl, PySem.W.mg_of X G F__law_no_day.ns⟩
    f__law_handed := f_law_handed
    d__law_handed := _
    h__law_handed := ⟨F__law_handed.fn, F__law_handed.fn.binds fun _ _ _ _ _ _ us hl => match us, hl with | [_, _, _], _ => rfl, PySem.W.mg_of X G F__law_handed.ns⟩
    f__law_word := f_law_word
    d__law_word := _
    h__law_word := ⟨F__law_word.fn, F__law_word.fn.binds fun _ _ _ _ _ _ us hl => match us, hl with | [_, _, _], _ => rfl, PySem.W.mg_of X G F__law_word.ns⟩
    f__law_due := f_law_due
    d__law_due := _
    h__law_due := ⟨F__law_due.fn, F__law_due.fn.binds fun _ _ _ _ _ _ us hl => match us, hl with | [_, _], _ => rfl, PySem.W.mg_of X G F__law_due.ns⟩
    f__law_truths_right := f_law_truths_right
    d__law_truths_right := _
    h__law_truths_right := ⟨F__law_truths_right.fn, F__law_truths_right.fn.binds fun _ _ _ _ _ _ us hl => match us, hl with | [_, _, _], _ => rfl, PySem.W.mg_of X G F__law_truths_right.ns⟩
    f_turns := fturns
    d_turns := _
    q_turns := D_turns
    gl_turns := PySem.W.mg_of X G F_turns.ns
    kp_turns := F_turns.kp
    f_days_over := fdays_over
    d_days_over := _
    q_days_over := D_days_over
    gl_days_over := PySem.W.mg_of X G F_days_over.ns
    kp_days_over := F_days_over.kp
    f_days_owed := fdays_owed
    d_days_owed := _
    q_days_owed := D_days_owed
    gl_days_owed := PySem.W.mg_of X G F_days_owed.ns
    kp_days_owed := F_days_owed.kp
    f_days_given := fdays_given
    d_days_given := _
    q_days_given := D_days_given
    gl_days_given := PySem.W.mg_of X G F_days_given.ns
    kp_days_given := F_days_given.kp
    f_Book_entries := fBook_entries
    d_Book_entries := _
    c_Book_entries := cBook_entries
    p_Book_entries := PBook_entries
    L_Book_entries := F_Book_entries.fn
    lb_Book_entries := F_Book_entries.fn.fn.binds fun _ _ _ _ _ _ us hl => match us, hl with | [_], _ => rfl
    me_Book_entries := F_Book_entries.me }
  have hT : ∀ p ∈ ([(cBook_entries, PBook_entries)] : List (Addr × Addr)), h.get? p.2 = some { cls := .none, data := .fields #[] } := List.forall_mem_cons.mpr ⟨ht _ tm_Book_entries, fun _ z => nomatch z⟩
  have nT : ∀ p ∈ ([(cBook_entries, PBook_entries)] : List (Addr × Addr)), K.lookup p.2 = none := List.forall_mem_cons.mpr ⟨F_Book_entries.nP, fun _ z => nomatch z⟩
  have hC : ∀ p ∈ ([(cBook_entries, PBook_entries)] : List (Addr × Addr)), PySem.W.CodeHd h p.1 p.2 := List.forall_mem_cons.mpr ⟨PySem.W.codeHd_of_K X F_Book_entries.hd, fun _ z => nomatch z⟩
  refine ⟨_, _, spLaw K (TLs A), hT, nT, hC, fun s v => .of_eq rfl, fun H a ns hl hH hS => ⟨a, ns, rfl, hS, hl, ?_, fun _ => rfl⟩, fun base _ _ TB => ok_law A ⟨TB _ (.head _)⟩ F_law.fn⟩
  show ∀ p ∈ ([(PBook_entries, q_lam_Book_entries)] : List (Addr × Str)), LamX.TabS H p.1 p.2
  exact List.forall_mem_cons.mpr ⟨LamX.TabS.nil (hH _ (.head _)), fun _ z => nomatch z⟩
end K74
open PySem PySem.W PyProof.Rows
set_option maxHeartbeats 0 in
theorem PySem.Challenge.cw_lightturns_k74_owed_refused_holds : PySem.Challenge.rw_lightturns_k74_owed_refused.Holds := by
  w_on; o_law; k_head; (case hw => w_witness2)
  k_fill
  refine LT.end_ofG (l := PySem.Challenge.rw_lightturns_k74_owed_refused) (n := 63) (k := 15) (x := "_law_script") (CX := fun _ => L2.CX0) rfl (by decide) rfl ⟨rfl, by decide, by decide⟩ (fun w h Y => PySem.W.km_in_of Y) ?F (fun _ _ _ _ _ h => h)
  case F =>
    intro w mg fa h Y KX G hmg
    refine' K74.all_mk (l := PySem.Challenge.rw_lightturns_k74_owed_refused) (w := w) KX G hmg (PySem.W.km_tabs_of Y) ⟨?d_n_LightsError, ?d_n_Wrong, ?d_n_Barred, ?d_n_NoDay, ?d_n_NoName, ?d_n_NoStretches, ?d_n_NoNumber, ?d_n_NoKeeper, ?d_n_NoPlace, ?d_n_History, ?d_n_Book, ?d_n_Stretch, ?d_i_LightsError, ?d_ty_LightsError, ?d_i_Wrong, ?d_ty_Wrong, ?d_i_Barred, ?d_ty_Barred, ?d_i_NoDay, ?d_ty_NoDay, ?d_i_NoName, ?d_ty_NoName, ?d_i_NoStretches, ?d_ty_NoStretches, ?d_i_NoNumber, ?d_ty_NoNumber, ?d_i_NoKeeper, ?d_ty_NoKeeper, ?d_i_NoPlace, ?d_ty_NoPlace, ?d_sb_LightsError, ?d_cn, ?d_ct, ?d_x_NoDay, ?d_k_NoDay, ?d_b_NoDay, ?d_eg_NoDay, ?d_ek_NoDay, ?d_ed_NoDay, ?d_ea_NoDay, ?d_em_NoDay, ?d_sv_NoDay, ?d_x_NoNumber, ?d_k_NoNumber, ?d_b_NoNumber, ?d_eg_NoNumber, ?d_ek_NoNumber, ?d_ed_NoNumber, ?d_ea_NoNumber, ?d_em_NoNumber, ?d_sv_NoNumber, ?d_x_NoKeeper, ?d_k_NoKeeper, ?d_b_NoKeeper, ?d_eg_NoKeeper, ?d_ek_NoKeeper, ?d_ed_NoKeeper, ?d_ea_NoKeeper, ?d_em_NoKeeper, ?d_sv_NoKeeper, ?d_s_NoDay_Barred, ?d_q_NoDay_Barred, ?d_s_NoDay_NoName, ?d_q_NoDay_NoName, ?d_s_NoDay_NoPlace, ?d_q_NoDay_NoPlace, ?d_s_NoDay_NoStretches, ?d_q_NoDay_NoStretches, ?d_s_NoDay_NoKeeper, ?d_q_NoDay_NoKeeper, ?d_s_NoDay_NoNumber, ?d_q_NoDay_NoNumber, ?d_s_NoDay_Wrong, ?d_s_NoNumber_Barred, ?d_q_NoNumber_Barred, ?d_s_NoNumber_NoName, ?d_q_NoNumber_NoName, ?d_s_NoNumber_NoPlace, ?d_q_NoNumber_NoPlace, ?d_s_NoNumber_NoStretches, ?d_q_NoNumber_NoStretches, ?d_s_NoNumber_NoKeeper, ?d_q_NoNumber_NoKeeper, ?d_s_NoNumber_NoDay, ?d_q_NoNumber_NoDay, ?d_s_NoNumber_Wrong, ?d_s_NoKeeper_Barred, ?d_q_NoKeeper_Barred, ?d_s_NoKeeper_NoName, ?d_q_NoKeeper_NoName, ?d_s_NoKeeper_NoPlace, ?d_q_NoKeeper_NoPlace, ?d_s_NoKeeper_NoStretches, ?d_q_NoKeeper_NoStretches, ?d_s_NoKeeper_NoDay, ?d_q_NoKeeper_NoDay, ?d_s_NoKeeper_NoNumber, ?d_q_NoKeeper_NoNumber, ?d_s_NoKeeper_Wrong, ?d_s_NoDay_LightsError, ?d_s_NoNumber_LightsError, ?d_s_NoKeeper_LightsError, ?d_pg_History, ?d_hd_History, ?d_po_History, ?d_sa_History, ?d_kC_History, ?d_mk_History, ?d_f_History_by_day, ?d_pg_Book, ?d_hd_Book, ?d_po_Book, ?d_sa_Book, ?d_kC_Book, ?d_mk_Book, ?d_f_Book_rank_of, ?d_f_Book_moves, ?d_f_Book_landings, ?d_f_Book_latest_known, ?d_pg_Stretch, ?d_hd_Stretch, ?d_po_Stretch, ?d_sa_Stretch, ?d_kC_Stretch, ?d_mk_Stretch, ?d_f_Stretch_first_day, ?d_f_Stretch_last_day⟩ ⟨?m_History___init___at, ?m_History___init___lk, ?m_History___init___cd, ?m_History___init___kp, ?m_History___init___isf⟩ ⟨?m_History_note_at, ?m_History_note_lk, ?m_History_note_cd, ?m_History_note_kp, ?m_History_note_isf⟩ ⟨?m_History_all_told_at, ?m_History_all_told_lk, ?m_History_all_told_cd, ?m_History_all_told_kp, ?m_History_all_told_isf⟩ ⟨?m_History_told_last_at, ?m_History_told_last_lk, ?m_History_told_last_cd, ?m_History_told_last_kp, ?m_History_told_last_isf⟩ ⟨?m_History_holding_at, ?m_History_holding_lk, ?m_History_holding_cd, ?m_History_holding_kp, ?m_History_holding_isf⟩ ⟨?m_Book___init___at, ?m_Book___init___lk, ?m_Book___init___cd, ?m_Book___init___kp, ?m_Book___init___isf⟩ ⟨?m_Book_tell_at, ?m_Book_tell_lk, ?m_Book_tell_cd, ?m_Book_tell_kp, ?m_Book_tell_isf⟩ ⟨?m_Book_land_at, ?m_Book_land_lk, ?m_Book_land_cd, ?m_Book_land_kp, ?m_Book_land_isf⟩ ⟨?m_Book_moves_known_at, ?m_Book_moves_known_lk, ?m_Book_moves_known_cd, ?m_Book_moves_known_kp, ?m_Book_moves_known_isf⟩ ⟨?m_Stretch_first_at, ?m_Stretch_first_lk, ?m_Stretch_first_cd, ?m_Stretch_first_kp, ?m_Stretch_first_isf⟩ ⟨?m_Stretch_last_at, ?m_Stretch_last_lk, ?m_Stretch_last_cd, ?m_Stretch_last_kp, ?m_Stretch_last_isf⟩ ⟨?m_Stretch___init___at, ?m_Stretch___init___lk, ?m_Stretch___init___cd, ?m_Stretch___init___kp, ?m_Stretch___init___isf, ?m_Stretch___init___lT⟩ ⟨?l_Book_entries_at, ?l_Book_entries_lk, ?l_Book_entries_cd, ?l_Book_entries_kp, ?l_Book_entries_isf, ?l_Book_entries_lC, ?l_Book_entries_vP, ?l_Book_entries_hd, ?l_Book_entries_nP⟩ ?t_tab_Book_entries ⟨?g_turns_ns, ?g_turns_lk, ?g_turns_cd, ?g_turns_kp, ?g_turns_lT⟩ ⟨?g_days_over_ns, ?g_days_over_lk, ?g_days_over_cd, ?g_days_over_kp, ?g_days_over_lT⟩ ⟨?g_days_owed_ns, ?g_days_owed_lk, ?g_days_owed_cd, ?g_days_owed_kp, ?g_days_owed_lT⟩ ⟨?g_days_given_ns, ?g_days_given_lk, ?g_days_given_cd, ?g_days_given_kp, ?g_days_given_lT⟩ ⟨?f_is_name_ns, ?f_is_name_lk, ?f_is_name_cd, ?f_is_name_kp⟩ ⟨?f_is_place_ns, ?f_is_place_lk, ?f_is_place_cd, ?f_is_place_kp⟩ ⟨?f_is_whole_ns, ?f_is_whole_lk, ?f_is_whole_cd, ?f_is_whole_kp⟩ ⟨?f_is_from_ns, ?f_is_from_lk, ?f_is_from_cd, ?f_is_from_kp⟩ ⟨?f_is_within_ns, ?f_is_within_lk, ?f_is_within_cd, ?f_is_within_kp⟩ ⟨?f_is_day_ns, ?f_is_day_lk, ?f_is_day_cd, ?f_is_day_kp⟩ ⟨?f_check_day_ns, ?f_check_day_lk, ?f_check_day_cd, ?f_check_day_kp⟩ ⟨?f_check_known_ns, ?f_check_known_lk, ?f_check_known_cd, ?f_check_known_kp⟩ ⟨?f_check_days_ns, ?f_check_days_lk, ?f_check_days_cd, ?f_check_days_kp⟩ ⟨?f_check_light_ns, ?f_check_light_lk, ?f_check_light_cd, ?f_check_light_kp⟩ ⟨?f_check_place_ns, ?f_check_place_lk, ?f_check_place_cd, ?f_check_place_kp⟩ ⟨?f_check_number_ns, ?f_check_number_lk, ?f_check_number_cd, ?f_check_number_kp⟩ ⟨?f_check_keeper_ns, ?f_check_keeper_lk, ?f_check_keeper_cd, ?f_check_keeper_kp⟩ ⟨?f_check_not_early_ns, ?f_check_not_early_lk, ?f_check_not_early_cd, ?f_check_not_early_kp⟩ ⟨?f_are_ranks_ns, ?f_are_ranks_lk, ?f_are_ranks_cd, ?f_are_ranks_kp⟩ ⟨?f_earlier_end_ns, ?f_earlier_end_lk, ?f_earlier_end_cd, ?f_earlier_end_kp⟩ ⟨?f_runs_of_ns, ?f_runs_of_lk, ?f_runs_of_cd, ?f_runs_of_kp⟩ ⟨?f_settled_ns, ?f_settled_lk, ?f_settled_cd, ?f_settled_kp⟩ ⟨?f_given_back_ns, ?f_given_back_lk, ?f_given_back_cd, ?f_given_back_kp⟩ ⟨?f_spells_ns, ?f_spells_lk, ?f_spells_cd, ?f_spells_kp⟩ ⟨?f_days_behind_ns, ?f_days_behind_lk, ?f_days_behind_cd, ?f_days_behind_kp⟩ ⟨?f__law_cell_ns, ?f__law_cell_lk, ?f__law_cell_cd, ?f__law_cell_kp⟩ ⟨?f__law_pot_ns, ?f__law_pot_lk, ?f__law_pot_cd, ?f__law_pot_kp⟩ ⟨?f__law_take_ns, ?f__law_take_lk, ?f__law_take_cd, ?f__law_take_kp⟩ ⟨?f__law_names_ns, ?f__law_names_lk, ?f__law_names_cd, ?f__law_names_kp⟩ ⟨?f__law_moves_ns, ?f__law_moves_lk, ?f__law_moves_cd, ?f__law_moves_kp⟩ ⟨?f__law_far_ns, ?f__law_far_lk, ?f__law_far_cd, ?f__law_far_kp⟩ ⟨?f__law_case_ns, ?f__law_case_lk, ?f__law_case_cd, ?f__law_case_kp⟩ ⟨?f__law_book_ns, ?f__law_book_lk, ?f__law_book_cd, ?f__law_book_kp⟩ ⟨?f__law_no_keeper_ns, ?f__law_no_keeper_lk, ?f__law_no_keeper_cd, ?f__law_no_keeper_kp⟩ ⟨?f__law_no_day_ns, ?f__law_no_day_lk, ?f__law_no_day_cd, ?f__law_no_day_kp⟩ ⟨?f__law_handed_ns, ?f__law_handed_lk, ?f__law_handed_cd, ?f__law_handed_kp⟩ ⟨?f__law_word_ns, ?f__law_word_lk, ?f__law_word_cd, ?f__law_word_kp⟩ ⟨?f__law_due_ns, ?f__law_due_lk, ?f__law_due_cd, ?f__law_due_kp⟩ ⟨?f__law_truths_right_ns, ?f__law_truths_right_lk, ?f__law_truths_right_cd, ?f__law_truths_right_kp⟩ ⟨?f_law_ns, ?f_law_lk, ?f_law_cd, ?f_law_kp⟩ ?y_SMALL_LETTERS ?y_LONGEST_NAME ?y_ASHORE ?y_MOST_KEEPERS ?y_HIGHEST_RANK ?y_LOWEST_RANK ?z_isinstance ?z_int ?z_bool ?z_len ?z_abs ?z_max ?z_min ?z_divmod ?z_range ?z_repr ?z_zip ?z_ValueError ?z_all ?z_any ?z_sum ?z_sorted ?z_list ?z_tuple ?z_dict ?z_enumerate ?z_reversed ?z_str ?z_set
    (case d_n_LightsError => k_is)
    (case d_n_Wrong => k_is)
    (case d_n_Barred => k_is)
    (case d_n_NoDay => k_is)
    (case d_n_NoName => k_is)
    (case d_n_NoStretches => k_is)
    (case d_n_NoNumber => k_is)
    (case d_n_NoKeeper => k_is)
    (case d_n_NoPlace => k_is)
    (case d_n_History => k_is)
    (case d_n_Book => k_is)
    (case d_n_Stretch => k_is)
    (case m_History___init___at => k_is)
    (case m_History_note_at => k_is)
    (case m_History_all_told_at => k_is)
    (case m_History_told_last_at => k_is)
    (case m_History_holding_at => k_is)
    (case m_Book___init___at => k_is)
    (case m_Book_tell_at => k_is)
    (case m_Book_land_at => k_is)
    (case m_Book_moves_known_at => k_is)
    (case m_Stretch_first_at => k_is)
    (case m_Stretch_last_at => k_is)
    (case m_Stretch___init___at => k_is)
    (case l_Book_entries_at => k_is)
    (case g_turns_ns => k_is)
    (case g_days_over_ns => k_is)
    (case g_days_owed_ns => k_is)
    (case g_days_given_ns => k_is)
    (case f_is_name_ns => k_is)
    (case f_is_place_ns => k_is)
    (case f_is_whole_ns => k_is)
    (case f_is_from_ns => k_is)
    (case f_is_within_ns => k_is)
    (case f_is_day_ns => k_is)
    (case f_check_day_ns => k_is)
    (case f_check_known_ns => k_is)
    (case f_check_days_ns => k_is)
    (case f_check_light_ns => k_is)
    (case f_check_place_ns => k_is)
    (case f_check_number_ns => k_is)
    (case f_check_keeper_ns => k_is)
    (case f_check_not_early_ns => k_is)
    (case f_are_ranks_ns => k_is)
    (case f_earlier_end_ns => k_is)
    (case f_runs_of_ns => k_is)
    (case f_settled_ns => k_is)
    (case f_given_back_ns => k_is)
    (case f_spells_ns => k_is)
    (case f_days_behind_ns => k_is)
    (case f__law_cell_ns => k_is)
    (case f__law_pot_ns => k_is)
    (case f__law_take_ns => k_is)
    (case f__law_names_ns => k_is)
    (case f__law_moves_ns => k_is)
    (case f__law_far_ns => k_is)
    (case f__law_case_ns => k_is)
    (case f__law_book_ns => k_is)
    (case f__law_no_keeper_ns => k_is)
    (case f__law_no_day_ns => k_is)
    (case f__law_handed_ns => k_is)
    (case f__law_word_ns => k_is)
    (case f__law_due_ns => k_is)
    (case f__law_truths_right_ns => k_is)
    (case f_law_ns => k_is)
    (case y_SMALL_LETTERS => k_is)
    (case y_LONGEST_NAME => k_is)
    (case y_ASHORE => k_is)
    (case y_MOST_KEEPERS => k_is)
    (case y_HIGHEST_RANK => k_is)
    (case y_LOWEST_RANK => k_is)
    (case m_History___init___lk => k_is)
    (case m_History_note_lk => k_is)
    (case m_History_all_told_lk => k_is)
    (case m_History_told_last_lk => k_is)
    (case m_History_holding_lk => k_is)
    (case m_Book___init___lk => k_is)
    (case m_Book_tell_lk => k_is)
    (case m_Book_land_lk => k_is)
    (case m_Book_moves_known_lk => k_is)
    (case m_Stretch_first_lk => k_is)
    (case m_Stretch_last_lk => k_is)
    (case m_Stretch___init___lk => k_is)
    (case l_Book_entries_lk => k_is)
    (case g_turns_lk => k_is)
    (case g_days_over_lk => k_is)
    (case g_days_owed_lk => k_is)
    (case g_days_given_lk => k_is)
    (case f_is_name_lk => k_is)
    (case f_is_place_lk => k_is)
    (case f_is_whole_lk => k_is)
    (case f_is_from_lk => k_is)
    (case f_is_within_lk => k_is)
    (case f_is_day_lk => k_is)
    (case f_check_day_lk => k_is)
    (case f_check_known_lk => k_is)
    (case f_check_days_lk => k_is)
    (case f_check_light_lk => k_is)
    (case f_check_place_lk => k_is)
    (case f_check_number_lk => k_is)
    (case f_check_keeper_lk => k_is)
    (case f_check_not_early_lk => k_is)
    (case f_are_ranks_lk => k_is)
    (case f_earlier_end_lk => k_is)
    (case f_runs_of_lk => k_is)
    (case f_settled_lk => k_is)
    (case f_given_back_lk => k_is)
    (case f_spells_lk => k_is)
    (case f_days_behind_lk => k_is)
    (case f__law_cell_lk => k_is)
    (case f__law_pot_lk => k_is)
    (case f__law_take_lk => k_is)
    (case f__law_names_lk => k_is)
    (case f__law_moves_lk => k_is)
    (case f__law_far_lk => k_is)
    (case f__law_case_lk => k_is)
    (case f__law_book_lk => k_is)
    (case f__law_no_keeper_lk => k_is)
    (case f__law_no_day_lk => k_is)
    (case f__law_handed_lk => k_is)
    (case f__law_word_lk => k_is)
    (case f__law_due_lk => k_is)
    (case f__law_truths_right_lk => k_is)
    (case f_law_lk => k_is)
    (case m_Stretch___init___lT => k_is)
    (case l_Book_entries_lC => k_is)
    (case g_turns_lT => k_is)
    (case g_days_over_lT => k_is)
    (case g_days_owed_lT => k_is)
    (case g_days_given_lT => k_is)
    (case l_Book_entries_vP => rfl)
    (case d_i_LightsError => k_is)
    (case d_ty_LightsError => k_is)
    (case d_i_Wrong => k_is)
    (case d_ty_Wrong => k_is)
    (case d_i_Barred => k_is)
    (case d_ty_Barred => k_is)
    (case d_i_NoDay => k_is)
    (case d_ty_NoDay => k_is)
    (case d_i_NoName => k_is)
    (case d_ty_NoName => k_is)
    (case d_i_NoStretches => k_is)
    (case d_ty_NoStretches => k_is)
    (case d_i_NoNumber => k_is)
    (case d_ty_NoNumber => k_is)
    (case d_i_NoKeeper => k_is)
    (case d_ty_NoKeeper => k_is)
    (case d_i_NoPlace => k_is)
    (case d_ty_NoPlace => k_is)
    (case d_sb_LightsError => k_is)
    (case d_cn => k_is)
    (case d_ct => k_is)
    (case d_x_NoDay => k_exc)
    (case d_k_NoDay => k_is)
    (case d_b_NoDay => k_is)
    (case d_eg_NoDay => k_is)
    (case d_ek_NoDay => k_is)
    (case d_ed_NoDay => k_is)
    (case d_ea_NoDay => k_is)
    (case d_em_NoDay => k_is)
    (case d_sv_NoDay => k_is)
    (case d_x_NoNumber => k_exc)
    (case d_k_NoNumber => k_is)
    (case d_b_NoNumber => k_is)
    (case d_eg_NoNumber => k_is)
    (case d_ek_NoNumber => k_is)
    (case d_ed_NoNumber => k_is)
    (case d_ea_NoNumber => k_is)
    (case d_em_NoNumber => k_is)
    (case d_sv_NoNumber => k_is)
    (case d_x_NoKeeper => k_exc)
    (case d_k_NoKeeper => k_is)
    (case d_b_NoKeeper => k_is)
    (case d_eg_NoKeeper => k_is)
    (case d_ek_NoKeeper => k_is)
    (case d_ed_NoKeeper => k_is)
    (case d_ea_NoKeeper => k_is)
    (case d_em_NoKeeper => k_is)
    (case d_sv_NoKeeper => k_is)
    (case d_s_NoDay_Barred => k_is)
    (case d_q_NoDay_Barred => rfl)
    (case d_s_NoDay_NoName => k_is)
    (case d_q_NoDay_NoName => rfl)
    (case d_s_NoDay_NoPlace => k_is)
    (case d_q_NoDay_NoPlace => rfl)
    (case d_s_NoDay_NoStretches => k_is)
    (case d_q_NoDay_NoStretches => rfl)
    (case d_s_NoDay_NoKeeper => k_is)
    (case d_q_NoDay_NoKeeper => rfl)
    (case d_s_NoDay_NoNumber => k_is)
    (case d_q_NoDay_NoNumber => rfl)
    (case d_s_NoDay_Wrong => k_is)
    (case d_s_NoNumber_Barred => k_is)
    (case d_q_NoNumber_Barred => rfl)
    (case d_s_NoNumber_NoName => k_is)
    (case d_q_NoNumber_NoName => rfl)
    (case d_s_NoNumber_NoPlace => k_is)
    (case d_q_NoNumber_NoPlace => rfl)
    (case d_s_NoNumber_NoStretches => k_is)
    (case d_q_NoNumber_NoStretches => rfl)
    (case d_s_NoNumber_NoKeeper => k_is)
    (case d_q_NoNumber_NoKeeper => rfl)
    (case d_s_NoNumber_NoDay => k_is)
    (case d_q_NoNumber_NoDay => rfl)
    (case d_s_NoNumber_Wrong => k_is)
    (case d_s_NoKeeper_Barred => k_is)
    (case d_q_NoKeeper_Barred => rfl)
    (case d_s_NoKeeper_NoName => k_is)
    (case d_q_NoKeeper_NoName => rfl)
    (case d_s_NoKeeper_NoPlace => k_is)
    (case d_q_NoKeeper_NoPlace => rfl)
    (case d_s_NoKeeper_NoStretches => k_is)
    (case d_q_NoKeeper_NoStretches => rfl)
    (case d_s_NoKeeper_NoDay => k_is)
    (case d_q_NoKeeper_NoDay => rfl)
    (case d_s_NoKeeper_NoNumber => k_is)
    (case d_q_NoKeeper_NoNumber => rfl)
    (case d_s_NoKeeper_Wrong => k_is)
    (case d_s_NoDay_LightsError => k_is)
    (case d_s_NoNumber_LightsError => k_is)
    (case d_s_NoKeeper_LightsError => k_is)
    (case d_pg_History => k_is)
    (case d_hd_History => k_is)
    (case d_po_History => k_is)
    (case d_sa_History => k_is)
    (case d_kC_History => k_is)
    (case d_mk_History => k_is)
    (case d_f_History_by_day => k_is)
    (case d_pg_Book => k_is)
    (case d_hd_Book => k_is)
    (case d_po_Book => k_is)
    (case d_sa_Book => k_is)
    (case d_kC_Book => k_is)
    (case d_mk_Book => k_is)
    (case d_f_Book_rank_of => k_is)
    (case d_f_Book_moves => k_is)
    (case d_f_Book_landings => k_is)
    (case d_f_Book_latest_known => k_is)
    (case d_pg_Stretch => k_is)
    (case d_hd_Stretch => k_is)
    (case d_po_Stretch => k_is)
    (case d_sa_Stretch => k_is)
    (case d_kC_Stretch => k_is)
    (case d_mk_Stretch => k_is)
    (case d_f_Stretch_first_day => k_is)
    (case d_f_Stretch_last_day => k_is)
    (case m_History___init___cd => k_is)
    (case m_History___init___kp => k_is)
    (case m_History___init___isf => k_is)
    (case m_History_note_cd => k_is)
    (case m_History_note_kp => k_is)
    (case m_History_note_isf => k_is)
    (case m_History_all_told_cd => k_is)
    (case m_History_all_told_kp => k_is)
    (case m_History_all_told_isf => k_is)
    (case m_History_told_last_cd => k_is)
    (case m_History_told_last_kp => k_is)
    (case m_History_told_last_isf => k_is)
    (case m_History_holding_cd => k_is)
    (case m_History_holding_kp => k_is)
    (case m_History_holding_isf => k_is)
    (case m_Book___init___cd => k_is)
    (case m_Book___init___kp => k_is)
    (case m_Book___init___isf => k_is)
    (case m_Book_tell_cd => k_is)
    (case m_Book_tell_kp => k_is)
    (case m_Book_tell_isf => k_is)
    (case m_Book_land_cd => k_is)
    (case m_Book_land_kp => k_is)
    (case m_Book_land_isf => k_is)
    (case m_Book_moves_known_cd => k_is)
    (case m_Book_moves_known_kp => k_is)
    (case m_Book_moves_known_isf => k_is)
    (case m_Stretch_first_cd => k_is)
    (case m_Stretch_first_kp => k_is)
    (case m_Stretch_first_isf => k_is)
    (case m_Stretch_last_cd => k_is)
    (case m_Stretch_last_kp => k_is)
    (case m_Stretch_last_isf => k_is)
    (case m_Stretch___init___cd => k_is)
    (case m_Stretch___init___kp => k_is)
    (case m_Stretch___init___isf => k_is)
    (case l_Book_entries_cd => k_is)
    (case l_Book_entries_kp => k_is)
    (case l_Book_entries_isf => k_is)
    (case l_Book_entries_hd => kernel_rfl)
    (case l_Book_entries_nP => kernel_rfl)
    (case t_tab_Book_entries => k_mem)
    (case g_turns_cd => k_is)
    (case g_turns_kp => k_is)
    (case g_days_over_cd => k_is)
    (case g_days_over_kp => k_is)
    (case g_days_owed_cd => k_is)
    (case g_days_owed_kp => k_is)
    (case g_days_given_cd => k_is)
    (case g_days_given_kp => k_is)
    (case f_is_name_cd => k_is)
    (case f_is_name_kp => k_is)
    (case f_is_place_cd => k_is)
    (case f_is_place_kp => k_is)
    (case f_is_whole_cd => k_is)
    (case f_is_whole_kp => k_is)
    (case f_is_from_cd => k_is)
    (case f_is_from_kp => k_is)
    (case f_is_within_cd => k_is)
    (case f_is_within_kp => k_is)
    (case f_is_day_cd => k_is)
    (case f_is_day_kp => k_is)
    (case f_check_day_cd => k_is)
    (case f_check_day_kp => k_is)
    (case f_check_known_cd => k_is)
    (case f_check_known_kp => k_is)
    (case f_check_days_cd => k_is)
    (case f_check_days_kp => k_is)
    (case f_check_light_cd => k_is)
    (case f_check_light_kp => k_is)
    (case f_check_place_cd => k_is)
    (case f_check_place_kp => k_is)
    (case f_check_number_cd => k_is)
    (case f_check_number_kp => k_is)
    (case f_check_keeper_cd => k_is)
    (case f_check_keeper_kp => k_is)
    (case f_check_not_early_cd => k_is)
    (case f_check_not_early_kp => k_is)
    (case f_are_ranks_cd => k_is)
    (case f_are_ranks_kp => k_is)
    (case f_earlier_end_cd => k_is)
    (case f_earlier_end_kp => k_is)
    (case f_runs_of_cd => k_is)
    (case f_runs_of_kp => k_is)
    (case f_settled_cd => k_is)
    (case f_settled_kp => k_is)
    (case f_given_back_cd => k_is)
    (case f_given_back_kp => k_is)
    (case f_spells_cd => k_is)
    (case f_spells_kp => k_is)
    (case f_days_behind_cd => k_is)
    (case f_days_behind_kp => k_is)
    (case f__law_cell_cd => k_is)
    (case f__law_cell_kp => k_is)
    (case f__law_pot_cd => k_is)
    (case f__law_pot_kp => k_is)
    (case f__law_take_cd => k_is)
    (case f__law_take_kp => k_is)
    (case f__law_names_cd => k_is)
    (case f__law_names_kp => k_is)
    (case f__law_moves_cd => k_is)
    (case f__law_moves_kp => k_is)
    (case f__law_far_cd => k_is)
    (case f__law_far_kp => k_is)
    (case f__law_case_cd => k_is)
    (case f__law_case_kp => k_is)
    (case f__law_book_cd => k_is)
    (case f__law_book_kp => k_is)
    (case f__law_no_keeper_cd => k_is)
    (case f__law_no_keeper_kp => k_is)
    (case f__law_no_day_cd => k_is)
    (case f__law_no_day_kp => k_is)
    (case f__law_handed_cd => k_is)
    (case f__law_handed_kp => k_is)
    (case f__law_word_cd => k_is)
    (case f__law_word_kp => k_is)
    (case f__law_due_cd => k_is)
    (case f__law_due_kp => k_is)
    (case f__law_truths_right_cd => k_is)
    (case f__law_truths_right_kp => k_is)
    (case f_law_cd => k_is)
    (case f_law_kp => k_is)
    (case z_isinstance => k_is)
    (case z_int => k_is)
    (case z_bool => k_is)
    (case z_len => k_is)
    (case z_abs => k_is)
    (case z_max => k_is)
    (case z_min => k_is)
    (case z_divmod => k_is)
    (case z_range => k_is)
    (case z_repr => k_is)
    (case z_zip => k_is)
    (case z_ValueError => k_is)
    (case z_all => k_is)
    (case z_any => k_is)
    (case z_sum => k_is)
    (case z_sorted => k_is)
    (case z_list => k_is)
    (case z_tuple => k_is)
    (case z_dict => k_is)
    (case z_enumerate => k_is)
    (case z_reversed => k_is)
    (case z_str => k_is)
    (case z_set => k_is)
