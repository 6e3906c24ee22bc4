import PyProof.Rows.All
import Wide.All
import OpenK.AllK
import Wide.FinOn
import HandS.ForMost
import HandS.IsInst
import HandS.Wide
import HandS.WideBits
import HandS.EndBits
import HandS.Style
import HandS.RaiseMore
import PyProof.ReprRoads
import PyProof.ListStr
import HandS.ForExc
import HandS.Exc
import HandS.ExcIs
import HandS.CallSlots
import HandS.HotCalls
import HandS.Defaults
import HandS.MakeKw
import HandS.MakeKwOnly
import HandS.Nested
import HandS.ExcInit
import KE.KExcSuper
import HandS.ExcField
import HandS.FStr
import HandS.Words
import KE.KExcIs
import HandS.Walk
import HandS.Flow
import HandS.Zip
import PyProof.EqKinds
import PyProof.NeKinds
import KE.KFmtOwn
import HandS.OwnEq
import KE.DatumOrd
import HandS.FStrTup
import KE.DataMinMax
import HandS.TupMul
import HandS.More
import HandS.DictComp
import HandS.Sort
import HandS.Finally
import HandS.Conv
import PyProof.ListRange
import PyProof.TupleOfStr
import KE.KDictDisplayH
import HandS.MapJoin
import HandS.RevTup
import HandS.Rev
import HandS.SetTxtIn
import PyProof.StrLawsIn
import PyProof.DictUpdate
import HandS.Strs
import HandS.SetKeys
import HandS.Lambda
import KE.SortKeyHeap
import PyProof.TupleOfSeq
import HandS.SetFor
import KE.KDictZip
import HandS.GenList
import PyProof.Rows.SortShellAny
import PyProof.ReprLen
import HandS.EndTab
import HandS.BoundList
import PySem.Challenge.RW_lightturns_k63_entries_equal_twins
import KE.SortData
import HandS.Small
import HandS.ListItems
set_option Elab.async false
set_option linter.all false
set_option maxRecDepth 100000
/-! Own layer: defs called where no repr is under way (FnG), repr of data, the end of a law by such a def. -/
namespace LT
open PySem PySem.Spec PyProof.Rows L2
structure FnG (P : Program) (w : World) (K : PySem.W.Frag) (mg : Str → Option Value) (base : Heap)
    (CX : CXT) (k : Nat) (f : Addr) (fd : FuncData) (ps : List Str) (sp : Sp) : Prop where
  argc : ∀ {vs : List V} {H : Hp} {Q : VK} {E : XK}, sp vs H Q E → vs.length = ps.length
  go : ∀ {A : Around} {outer : List Env} {s : Shared} {H : Hp} {args : Args} {us : List Value} {vs : List V}
    {Q : VK} {E : XK}, A.guards = some [] → Room k A → Env0 P w K mg base A outer s H →
    BindsTo s fd args (ps.zip us) → Vals vs us → sp vs H Q E →
    codeAny (model P w) A (.call (.ref f) args) (CR CX outer P w H s Q E) s
section
variable {P : Program} {w : World} {K : PySem.W.Frag} {mg : Str → Option Value} {base : Heap}
theorem FnG.of {CX : CXT} {k : Nat} {f : Addr} {fd : FuncData} {ps : List Str} {sp : Sp}
    (F : FnOk P w K mg base CX k f fd ps sp) : FnG P w K mg base CX k f fd ps sp :=
  ⟨fun h => F.len _ _ _ _ h, fun _ hr e b v h => F.run _ _ _ _ _ _ _ _ _ hr e b v h⟩
theorem okG {x qual : Str} {st : Stmt} {f : Addr} {fd : FuncData} {N ps : List Str} {k : Nat} {sp : Sp}
    (F : Fun K x qual st f fd) (S : FnScope N ps (defScope st))
    (argc : ∀ {vs : List V} {H : Hp} {Q : VK} {E : XK}, sp vs H Q E → vs.length = ps.length)
    (body : ∀ (cdv : Value) (A : Around) (outer : List Env) (s : Shared) (H : Hp) (vs : List V) (Q : VK) (E : XK),
      A.guards = some [] → Room k (A.deeper (envOfC qual (defScope st) s.heap.objs.size f cdv)) → sp vs H Q E →
      ∃ t, PSs (cxOf CX0 P w K mg base N qual (defScope st) f cdv A outer s H E).nox (defBody st) t ∧
        t { nx := fun _ H' => Q .non H', rt := Q } (start N vs) H) :
    FnG P w K mg base CX0 (k + 1) f fd ps sp := by
  obtain ⟨oc, od, kV, doc, pm, an, cdv, ct, osl, rfl, lk, hcd⟩ := F.ex
  refine ⟨argc, ?_⟩
  intro A outer s H args us vs Q E hg hr e0 hb r hsp
  have inS : ∀ b o, base.get? b = some o → s.heap.get? b = some o := fun b o e => (e0.bs b o e).1
  have KX : K.In s.heap := e0.mod.kin.keeps inS
  have hkind : ∀ y ∈ ps.zip us, (defScope st).names.lookup y.1 = some .local ∨
      ((defScope st).names.lookup y.1 = some .cell ∧
        ((cellsFrom (s.heap.objs.size + 1) (defScope st).names []).lookup y.1).isSome = true) := by
    rintro ⟨n, v⟩ hy
    rcases S.par n (List.of_mem_zip hy).1 with q | q
    · exact Or.inl q
    · exact Or.inr ⟨q, PySem.W.cellsFrom_some _ _ _ (Or.inl q)⟩
  refine codeAny_call_function hr.depth (KX _ _ lk) rfl S.co S.gen rfl (PySem.W.codeRec_of KX hcd)
    (hb _ _ _ _ (wpAny_newFunctionEnv_cells S.kind hkind fun env he s1 x => ?_))
  subst he
  refine ⟨(e0.mod.nolimit.keeps inS).keeps x.toInCall.keep, codeAny_func ?_⟩
  obtain ⟨t, ht, hq⟩ := body cdv A outer s H vs Q E hg (hr.deeper _) hsp
  have I := inv_start (CX := CX0) (N := N) (qual := qual) (f := f) (cd := cdv) (E := E) S hr.hd e0 (argc hsp) r x
  refine wpAny_mono (ht.nox.run [] s1 (start N vs) H _ I hq) (fun fl s' hs => ?_) (fun e s' hs => hs)
  cases fl with
  | brk => obtain ⟨_, _, _, q⟩ := hs; exact q.elim
  | cont => obtain ⟨_, _, _, q⟩ := hs; exact q.elim
  | next =>
    obtain ⟨σ', H', J, q⟩ := hs
    exact ⟨V.non, H', J.os, J.bare, J.base, J.hok, rfl, q⟩
  | ret u =>
    obtain ⟨v, σ', H', J, rv, q⟩ := hs
    exact ⟨v, H', J.os, J.bare, J.base, J.hok, rv, q⟩
end
/-! ### the call of such a def -/
section
variable {X : Cx} {CX : CXT} {k : Nat} {f : Addr} {fd : FuncData} {ps : List Str} {sp : Sp} {dvs : List V}
  {ds : List Value} {E : XK} {x : Str} {p pos : Pos} {e : Expr} {es : List Expr} {t : TA}
theorem runG {pins : List (Addr × Obj)} {σ : L2.St} {H : Hp} {s : Shared} {Q : VK} {us : List Value} {vs : List V}
    (F : FnG X.prog X.w X.K X.mg X.base CX k f fd ps sp) (hg : X.A.guards = some []) (hr : Room k X.A)
    (hb : Binds X.K fd ps ds) (hd : Vals dvs ds) (hx : Passes CX X E)
    (I : Inv X pins σ H s) (r : Vals vs us) (h : sp (vs ++ dvs) H Q E) :
    wpAny (model X.prog X.w) X.A (call (.ref f) us) (EP X pins σ Q) X.xe s := by
  have r2 : Vals (vs ++ dvs) (us ++ ds) := r.append hd
  have hl : (us ++ ds).length = ps.length := r2.length.symm.trans (F.argc h)
  refine wpAny_call (codeAny_mono (F.go hg hr I.env0 (hb s us I.kIn hl) r2 h) fun r s' hq => ?_)
  match r, hq with
  | .error e, hq => exact hx pins σ H s e s' I hq
  | .ok (.ret u), hq => exact I.after hq
  | .ok .next, hq => exact hq.elim
  | .ok .brk, hq => exact hq.elim
  | .ok .cont, hq => exact hq.elim
theorem pe_callG (F : FnG X.prog X.w X.K X.mg X.base CX k f fd ps sp) (hG : X.A.guards = some []) (hr : Room k X.A)
    (hg : Gl X x) (hm : X.mg x = some (.ref f)) (hk : PySem.W.keepIn X.K (.ref f) = true) (hb : Binds X.K fd ps ds)
    (hd : Vals dvs ds) (hx : Passes CX X E) (ha : PA X (e :: es) t)
    (hdb : (x == ("__debug__" : Str)) = false := by decide)
    (he : starEach (e :: es) X.env = (false, eval e X.env) :: starEach es X.env := by rfl)
    (hpl : (backTo pos (starEach es X.env)).any (·.1) = false := by rfl) :
    PE X (.Call (.Name x p) (e :: es) [] pos) (tCall sp dvs E t) := by
  refine ⟨fun pins s σ H Q I h => wpAny_Call_Name_kw (ld_glob I hg hm ?_ hdb)⟩
  refine PySem.W.callWith_K (h₀ := X.base) I.ok.mod.kin hk ?_ he hpl
  exact thn (ha.run pos pins s σ H _ I h) fun us s1 ⟨vs, H1, I1, r, q⟩ => ⟨I1.kIn, runG F hG hr hb hd hx I1 r q⟩
end
/-! ### repr of data -/
inductive Sh (K : PySem.W.Frag) (H : Hp) : V → PyData → Prop
  | dp {v : V} {d : PyData} : Dp K H v d → d.hasDict = false → Sh K H v d
  | one {a : Addr} {k : Str} {i : Int} : H a = some (.dK [(.inr k, .int i)]) → Sh K H (.ref a) (.dict [(.str k, .int i)])
section
variable {X : Cx} {pins : List (Addr × Obj)} {σ : L2.St} {H : Hp} {s : Shared}
theorem Sh.reads (I : Inv X pins σ H s) {v : V} {d : PyData} {u : Value} (h : Sh X.K H v d) (r : RelV v u) :
    ∃ as, Reads s.heap u d as ∧ (d.hasDict = true → sysModules ∉ as) := by
  cases h with
  | dp h hd =>
    obtain ⟨as, q⟩ := Dp.reads I d v u h r
    exact ⟨as, q, PyData.noDict_hsm hd⟩
  | one h =>
    rename_i a k i
    cases r
    obtain ⟨_, hs, vs, rel, o, es, ep, ho, hx, hd, hko, hp, hn⟩ := I.hok a _ h
    cases rel with
    | cons r1 r2 =>
      cases r2
      rename_i kv
      obtain ⟨kk, uu⟩ := kv
      obtain ⟨e1, t, e2⟩ := r1
      cases e1
      cases e2
      generalize hes : es.toList = l at hp
      cases hp with
      | cons k1 k2 k3 =>
        cases k3
        rename_i e
        have k0 : keyIs (Sum.inr k) e.key = true := k1
        obtain ⟨_, _, z, _⟩ | ⟨y, t', z, e3⟩ := keyIs_shape k0
        · cases z
        · cases z
          refine ⟨_, Reads.dict (as := []) (bs := []) ho hx.1 hd ?_ ?_, fun _ z => ?_⟩
          · rw [hes, List.map_cons, List.map_nil, e3]
            exact ReadsAll.cons (Reads.str _ _) .nil
          · rw [hes, List.map_cons, List.map_nil, k2]
            exact ReadsAll.cons (Reads.int _ _) .nil
          · have z2 : sysModules = a := by simpa using z
            rw [z2] at hs
            simp at hs
end
/-! ### text * number, list(text) -/
/-! ### the end of a law whose def wants that no repr is under way -/
end LT
set_option Elab.async false
set_option linter.all false
set_option maxRecDepth 100000
/-! Own layer: a def to which the caught error is handed; isinstance of it there. -/
namespace LT
open PySem PySem.Spec PyProof.Rows L2
/-! ### isinstance of the pinned error -/
end LT
set_option Elab.async false
set_option linter.all false
set_option maxRecDepth 100000
set_option maxHeartbeats 1600000
/-! an own error whose __init__ begins with super().__init__(..): the def by its body -/
namespace LT
open PySem PySem.Spec PyProof.Rows L2 NdefX
/-- what the written part says of it -/
structure SupC (K : PySem.W.Frag) (prog : Program) (mg : Str → Option Value) (C cc : Addr) (F : NF) (ar : Arg) : Prop where
  oex : OexC K C
  cl : F.cl = [(("__class__" : Str), cc)]
  cell : ∃ a b c, K.lookup cc = some ⟨a, b, .cell (some (.ref C)), c⟩
  file : ∃ (a : Value) (b : Option Addr) (vs : Array Value) (c : Array (Option Value)) (fl : Str) (tf : Tok), K.lookup F.c = some ⟨a, b, .fields vs, c⟩ ∧ vs[2]? = some (.str fl tf) ∧ ((prog.main.file : Str) == fl) = true
  hsub : PySem.W.mroIn K C (.ref C) = some true
  sup : PySem.W.ks_superIn K C C "__init__" = some (some (.builtin "ValueError.__init__"))
  sB : PySem.W.subIn K (.ref C) (.type "ValueError") = some true
  op : PySem.W.nsIn K cStatics "thirdparty.any" = some none
  hp : (F.params.posonlyargs ++ F.params.args).head? = some ar
  cd : PySem.W.codeIn K (.ref F.c) F.qual = true
  ks : F.scope.names.lookup ("super" : Str) = some .globalImplicit
  top : (prog.main.scope.names.lookup ("super" : Str)).isSome = false
  ms : mg "super" = none
end LT
set_option Elab.async false
set_option linter.all false
set_option maxRecDepth 100000
set_option maxHeartbeats 1600000
/-! Own layer: a def to which a caught error with a field is handed: isinstance of it, its field; repr of lists of data; the __init__ of such errors. -/
namespace LT
open PySem PySem.Spec PyProof.Rows L2 NdefX
/-! ### an own error's __init__(self, field): super().__init__(f".. {field}"); self.field = field -/
abbrev nfI (st : Stmt) (qual : Str) (cc c : Addr) : NF := ⟨"__init__", qual, defArgs st, defBody st, defScope st, [(("__class__" : Str), cc)], c⟩
abbrev arI (st : Stmt) : Arg := ((defArgs st).posonlyargs ++ (defArgs st).args).head!
abbrev LkI (K : PySem.W.Frag) (F : NF) (f : Addr) (fd : FuncData) : Prop := ∃ (oc : Value) (od : Option Addr) (dV kV doc pm : Value) (an : Option Addr) (ct : Value) (osl : Array (Option Value)), fd = PySem.W.fnX F.name F.qual F.params F.body F.scope F.cl dV kV doc pm an (.ref F.c) ct ∧ K.lookup f = some ⟨oc, od, .func fd, osl⟩
/-! ### repr of a list of data, among them dicts without entries -/
inductive Sd (K : PySem.W.Frag) (H : Hp) : V → PyData → Prop
  | dp {v : V} {d : PyData} : Dp K H v d → d.hasDict = false → Sd K H v d
  | ed {a : Addr} : H a = some (.dK []) → Sd K H (.ref a) (.dict [])
theorem Sd.mono {K : PySem.W.Frag} {H H' : Hp} {v : V} {d : PyData} (s : Same H H') (h : Sd K H v d) (hm : Dp K H v d → Dp K H' v d) : Sd K H' v d := by
  cases h with
  | dp h hd => exact .dp (hm h) hd
  | ed h => exact .ed (s _ _ h)
section
variable {X : Cx} {pins : List (Addr × Obj)} {σ : L2.St} {H : Hp} {s : Shared}
theorem Sd.reads (I : Inv X pins σ H s) {v : V} {d : PyData} {u : Value} (h : Sd X.K H v d) (r : RelV v u) :
    ∃ as, Reads s.heap u d as ∧ (d.hasDict = true → sysModules ∉ as) := by
  cases h with
  | dp h hd =>
    obtain ⟨as, q⟩ := Dp.reads I d v u h r
    exact ⟨as, q, PyData.noDict_hsm hd⟩
  | ed h =>
    rename_i a
    cases r
    obtain ⟨_, hs, vs, rel, o, es, ep, ho, hx, hd, hko, hp, hn⟩ := I.hok a _ h
    cases rel
    generalize hes : es.toList = l at hp
    cases hp
    refine ⟨_, Reads.dict (as := []) (bs := []) (kvs := []) ho hx.1 hd ?_ ?_, fun _ z => ?_⟩
    · rw [hes]; exact .nil
    · rw [hes]; exact .nil
    · have z2 : sysModules = a := by simpa using z
      rw [z2] at hs
      simp at hs
theorem Sd.all (I : Inv X pins σ H s) : ∀ {vs : List V} {ds : List PyData} {us : List Value}, Paired (Sd X.K H) vs ds → Vals vs us → PyData.showableAll ds = true → (∀ t ∈ PyData.shownAll ds, t.length ≤ sizeLine) →
    ∃ as bs, ReadsAll s.heap us ds as ∧ ReadAtMost s.heap (PyData.depthAll ds) bs ∧ ReprAllK X.prog X.w bs s.heap (PyData.depthAll ds) us (PyData.shownAll ds)
  | _, _, _, .nil, r, _, _ => by
    cases r
    exact ⟨_, [], .nil, (fun _ h => nomatch h), by simp only [PyData.shownAll]; exact .nil⟩
  | _ :: _, d :: ds, _, .cons h hs, r, sh, hz => by
    cases r with
    | cons r1 r2 =>
      have sh' : d.showable = true ∧ PyData.showableAll ds = true := by simpa [PyData.showableAll] using sh
      obtain ⟨as, q1, n1⟩ := h.reads I r1
      obtain ⟨b1, hb1, k1⟩ := ReprK.of_reads (prog := X.prog) (w := X.w) q1 sh'.1 n1 (hz _ (by simp only [PyData.shownAll]; exact List.mem_cons_self ..))
      obtain ⟨bs, b2, q2, hb2, k2⟩ := Sd.all I hs r2 sh'.2 (fun t ht => hz t (by simp only [PyData.shownAll]; exact List.mem_cons_of_mem _ ht))
      refine ⟨_, b1 ++ b2, .cons q1 q2, ?_, ?_⟩
      · simp only [PyData.depthAll]
        exact (hb1.mono (Nat.le_max_left _ _)).append (hb2.mono (Nat.le_max_right _ _))
      · simp only [PyData.depthAll, PyData.shownAll]
        exact .cons ((k1.more fun b hb => List.mem_append_left _ hb).level_le (Nat.le_max_left _ _)) (k2.more_le (fun b hb => List.mem_append_right _ hb) (Nat.le_max_right _ _))
theorem call_reprSd (hG : X.A.guards = some []) (hu : X.A.units + 64 < cLine) : CallR X (.builtin "repr")
    (fun xs H Q => ∃ l vs ds, xs = [.ref l] ∧ SqL X.K H l vs ∧ Paired (Sd X.K H) vs ds ∧ (PyData.list ds).showable = true ∧ (PyData.list ds).depth ≤ 60 ∧ (PyData.list ds).shown.length ≤ sizeLine ∧
      Q (.str (PyData.list ds).shown) H) := by
  intro pins s σ H xs us Q I r h
  obtain ⟨l, vs, ds, rfl, hl, hs, sh, dp, sz, q⟩ := h
  obtain ⟨u, rfl, ru⟩ := vals1 r
  cases ru
  obtain ⟨its, rv, ⟨o, n, ho, hc, _, hd⟩, _⟩ := I.list hl
  have hz' : (listText (PyData.shownAll ds)).length ≤ sizeLine := by simpa only [PyData.shown] using sz
  obtain ⟨as, bs, rd, hb, hk⟩ := Sd.all I hs rv (by simpa [PyData.showable] using sh) (fun t ht => Nat.le_trans (listText_mem_le ht) hz')
  have hna : l ∉ bs := not_mem_of_deeper (.list ho hc hd rd) (by simp only [PyData.depth]; omega) hb
  have dp2 : PyData.depthAll ds + 1 ≤ 60 := by simpa only [PyData.depth] using dp
  have q2 : Q (.str (listText (PyData.shownAll ds))) H := by simpa only [PyData.shown] using q
  refine call_repr_slot (by omega) (show s.TypeIs (.ref l) "list" from ⟨o, ho, hc⟩) F.slot_list_repr.toG ?_
  cases its with
  | nil =>
    cases rd
    simp only [PyData.shownAll, listText_nil] at q2
    exact call_list_repr_empty ⟨o, ho, hc⟩ ho hd ⟨_, _, rfl, ⟨.str _, H, I.kept fun _ _ e => e, ⟨_, rfl⟩, q2⟩⟩
  | cons x l' =>
    exact call_list_reprK (A := X.A.in1) ho hc hd hna (by simpa using hk.length_eq) (fun i y e => hk.item i y (by simpa using e)) hG (fun b _ => Clear.nil b) (by show X.A.units + 1 + _ < cLine; omega) (fun _ _ e => e)
      (fun h' u tk hk' => ⟨_, _, rfl, ⟨.str _, H, I.kept hk', ⟨_, rfl⟩, q2⟩⟩) hz'
end
/-! ### keywords in any turn, no defaults -/
end LT
set_option Elab.async false
set_option linter.all false
set_option maxRecDepth 100000
/-! Own layer: shown texts have signs of the alphabet alone (strOk). -/
namespace LT
open PySem PySem.Spec PyProof.Rows L2
end LT
set_option Elab.async false
set_option linter.all false
set_option maxRecDepth 100000
set_option maxHeartbeats 1600000
/-! Own layer: what every law of this program wants: names of defs, things handed in, pots, heaps that grow. -/
namespace LT
open PySem PySem.Spec PyProof.Rows L2 NdefX
/-- names that are still the built-in ones -/
structure Tx (mg : Str → Option Value) : Prop where
  isi : mg "isinstance" = none
  int : mg "int" = none
  bool : mg "bool" = none
  len : mg "len" = none
  abs : mg "abs" = none
  max : mg "max" = none
  min : mg "min" = none
  divmod : mg "divmod" = none
  range : mg "range" = none
  repr : mg "repr" = none
  zip : mg "zip" = none
  ve : mg "ValueError" = none
  all : mg "all" = none
  any : mg "any" = none
  sum : mg "sum" = none
  sorted : mg "sorted" = none
  list : mg "list" = none
  tuple : mg "tuple" = none
  dict : mg "dict" = none
  enumerate : mg "enumerate" = none
  reversed : mg "reversed" = none
  str : mg "str" = none
  set : mg "set" = none
/-- a def that stands as a name of the module -/
structure Has (K : PySem.W.Frag) (mg : Str → Option Value) (x : Str) (ps : List Str) (st : Stmt) (f : Addr) (fd : FuncData) : Prop where
  fn : Fun K x x st f fd
  bd : L2.Binds K fd ps []
  gl : mg x = some (.ref f)
/-- a method of the class at C -/
structure Mth (K : PySem.W.Frag) (C : Addr) (m q : Str) (ps : List Str) (st : Stmt) (f : Addr) (fd : FuncData) : Prop where
  fn : Fun K m q st f fd
  bd : L2.Binds K fd ps []
  me : Meth K C m f
/-- what is handed in -/
inductive Odd (H : Hp) : V → Prop
  | non : Odd H .non
  | bl (b : Bool) : Odd H (.bl b)
  | int (i : Int) : Odd H (.int i)
  | str (z : Str) : Odd H (.str z)
  | lst {a : Addr} {xs : List V} : H a = some (.lst xs) → Odd H (.ref a)
  | tup {a : Addr} {xs : List V} : H a = some (.tup xs) → Odd H (.ref a)
  | dK {a : Addr} {kvs : List (Key × V)} : H a = some (.dK kvs) → Odd H (.ref a)
theorem Odd.mono {H H' : Hp} (s : Same H H') {v : V} (h : Odd H v) : Odd H' v := by
  cases h with
  | non => exact .non
  | bl b => exact .bl b
  | int i => exact .int i
  | str z => exact .str z
  | lst e => exact .lst (s _ _ e)
  | tup e => exact .tup (s _ _ e)
  | dK e => exact .dK (s _ _ e)
def isInt : V → Bool
  | .int _ => true
  | .bl _ => true
  | _ => false
def isBl : V → Bool
  | .bl _ => true
  | _ => false
theorem Odd.ty {K : PySem.W.Frag} {H : Hp} {v : V} (h : Odd H v) : ∃ t, TyX K H v t ∧ PySem.W.kitOne K t (.type "int") = some (isInt v) ∧ PySem.W.kitOne K t (.type "bool") = some (isBl v) := by
  cases h with
  | non => exact ⟨_, .base .non, kit_ty (show kitB "NoneType" "int" = some false by decide +kernel), kit_ty (show kitB "NoneType" "bool" = some false by decide +kernel)⟩
  | bl b => exact ⟨_, .base (.bl b), kit_ty (show kitB "bool" "int" = some true by decide +kernel), kit_ty (show kitB "bool" "bool" = some true by decide +kernel)⟩
  | int i => exact ⟨_, .base (.int i), kit_ty (show kitB "int" "int" = some true by decide +kernel), kit_ty (show kitB "int" "bool" = some false by decide +kernel)⟩
  | str z => exact ⟨_, .base (.str z), kit_ty (show kitB "str" "int" = some false by decide +kernel), kit_ty (show kitB "str" "bool" = some false by decide +kernel)⟩
  | lst e => exact ⟨_, .base (.lst e), kit_ty (show kitB "list" "int" = some false by decide +kernel), kit_ty (show kitB "list" "bool" = some false by decide +kernel)⟩
  | tup e => exact ⟨_, .base (.tup e), kit_ty (show kitB "tuple" "int" = some false by decide +kernel), kit_ty (show kitB "tuple" "bool" = some false by decide +kernel)⟩
  | dK e => exact ⟨_, .base (.dK e), kit_ty (show kitB "dict" "int" = some false by decide +kernel), kit_ty (show kitB "dict" "bool" = some false by decide +kernel)⟩
def wholeB : V → Bool
  | .int _ => true
  | _ => false
theorem whole_eq (v : V) : (isInt v && !isBl v) = wholeB v := by cases v <;> rfl
def fromB : V → Int → Bool
  | .int i, l => decide (l ≤ i)
  | _, _ => false
def withinB : V → Int → Int → Bool
  | .int i, l, m => decide (l ≤ i) && decide (i ≤ m)
  | _, _, _ => false
theorem bool_false {b : Bool} (h : ¬ b = true) : b = false := by cases b <;> first | rfl | exact absurd rfl h
theorem same_upd {H : Hp} {p : Addr} {o : HO} (h : H p = none) : Same H (upd H p o) := fun b x e => by
  rw [upd_ne (ne_of_none e h)]
  exact e
theorem same_app {H H1 : Hp} {p : Addr} {o : HO} (h : H p = none) (s : Same H H1) : Same H (upd H1 p o) := fun b x e => by
  rw [upd_ne (ne_of_none e h)]
  exact s _ _ e
/-- a pot: two numbers -/
def Pot (H : Hp) (p : Addr) : Prop := ∃ a b : Int, H p = some (.lst [.int a, .int b]) ∧ 0 ≤ a ∧ 0 ≤ b ∧ b < 2147483647
/-- all but what stands at p is as it was -/
def SameB (p : Addr) (H H' : Hp) : Prop := ∀ b o, b ≠ p → H b = some o → H' b = some o
theorem SameB.trans {p : Addr} {H H1 H2 : Hp} (a : SameB p H H1) (b : SameB p H1 H2) : SameB p H H2 := fun c o n h => b c o n (a c o n h)
theorem SameB.of {p : Addr} {H H' : Hp} (s : Same H H') : SameB p H H' := fun b o _ e => s b o e
theorem SameB.upd {p : Addr} {H H' : Hp} {o : HO} (s : SameB p H H') : SameB p H (upd H' p o) := fun b x n e => by
  rw [upd_ne n]
  exact s b x n e
theorem SameB.new {p q : Addr} {H H' : Hp} {o : HO} (h : H q = none) (s : SameB p H H') : SameB p H (L2.upd H' q o) := fun b x n e => by
  rw [upd_ne (ne_of_none e h)]
  exact s b x n e
theorem Pot.ne {H : Hp} {p q : Addr} (h : Pot H p) (n : H q = none) : q ≠ p := fun e => by
  obtain ⟨a, b, e1, _⟩ := h
  rw [← e, n] at e1
  cases e1
theorem SameB.none {p q : Addr} {H H1 : Hp} (s : SameB p H H1) (h : Pot H1 p) (n : H1 q = none) : H q = none := by
  cases e : H q with
  | none => rfl
  | some o =>
    rw [s q o (h.ne n) e] at n
    cases n
theorem Pot.upd {H : Hp} {p q : Addr} {o : HO} (h : Pot H p) (n : q ≠ p) : Pot (L2.upd H q o) p := by
  obtain ⟨a, b, e, r⟩ := h
  exact ⟨a, b, by rw [upd_ne n.symm]; exact e, r⟩
theorem Pot.mono {H H' : Hp} {p : Addr} (h : Pot H p) (s : Same H H') : Pot H' p := by
  obtain ⟨a, b, e, r⟩ := h
  exact ⟨a, b, s _ _ e, r⟩
theorem ne_of_pot {H : Hp} {p q : Addr} {o : HO} (h : Pot H p) (e : H q = some o) (n : ∀ a b : Int, o ≠ .lst [.int a, .int b] := by intros; nofun) : q ≠ p := by
  obtain ⟨a, b, ep, _⟩ := h
  exact ne_of e ep (n a b)
theorem sameB_new {p : Addr} {H H1 H2 : Hp} (n : H p = none) (s : Same H H1) (b : SameB p H1 H2) : Same H H2 := fun c o e => b c o (ne_of_none e n) (s c o e)
theorem same_made {H : Hp} {x dx C : Addr} {o : HO} (nx : H x = none) (nd : H dx = none) : Same H (upd (upd H dx (.own x)) x o) := fun b z e => by
  rw [upd_ne (ne_of_none e nx), upd_ne (ne_of_none e nd)]
  exact e
/-- a list of one own error with its field: facts of the class and its __init__ -/
structure Nx (K : PySem.W.Frag) (P : Program) (mg : Str → Option Value) (st : Stmt) (nm q fld : Str) (CN fN cc c : Addr) (fdN : FuncData) : Prop where
  sup : SupC K P mg CN cc (nfI st q cc c) (arI st)
  lk : LkI K (nfI st q cc c) fN fdN
  hno : PySem.W.findIn K (.ref CN) fld = some none
  ini : PySem.W.findIn K (.ref CN) "__init__" = some (some (.ref fN))
  tI : PySem.W.typeIn K (.ref fN) = some (.type "function")
  bd : L2.Binds K fdN ["self", fld] []
  gl : mg nm = some (.ref CN)
/-! ### isinstance, in an except suite, of an error of any class -/
section
variable {X : Cx} {a : Addr} {oe : Obj} {cls : Value} {d : Option Addr}
/-- the error's dict stands -/
def HasD (d : Option Addr) (H : Hp) : Prop := d = none ∨ ∃ (dd : Addr) (fs : List (Str × V)), d = some dd ∧ H dd = some (.xd fs)
theorem HasD.mono {H H' : Hp} (h : HasD d H) (s : Same H H') : HasD d H' := by
  rcases h with h | ⟨dd, fs, e, h⟩
  · exact .inl h
  · exact .inr ⟨dd, fs, e, s _ _ h⟩
end
/-! ### things of all sorts, with their data -/
inductive Th (H : Hp) : V → PyData → Prop
  | non : Th H .non .none
  | bl (b : Bool) : Th H (.bl b) (.bool b)
  | int (i : Int) : i.natAbs ≤ 10 ^ 61 → Th H (.int i) (.int i)
  | str (z : Str) : (PyData.str z).showable = true → (PyData.str z).shown.length ≤ 1921 → PyData.strOk (PyData.str z).shown = true → Th H (.str z) (.str z)
  | lst {a : Addr} (n : Int) : n.natAbs ≤ 10 ^ 61 → H a = some (.lst [.int n]) → Th H (.ref a) (.list [.int n])
  | tup {a : Addr} (n : Int) : n.natAbs ≤ 10 ^ 61 → H a = some (.tup [.int n]) → Th H (.ref a) (.tuple [.int n])
  | dk {a : Addr} : H a = some (.dK []) → Th H (.ref a) (.dict [])
theorem lg61 {i : Int} (h : i.natAbs ≤ 10 ^ 61) : i.natAbs.log2 < 1920 := by
  rcases Nat.eq_zero_or_pos i.natAbs with z | z
  · rw [z]; decide
  · rw [Nat.log2_lt (by omega)]
    exact Nat.lt_of_le_of_lt h (by decide)
theorem tlen61 {i : Int} (h : i.natAbs ≤ 10 ^ 61) : (Str.ofString (toString i)).length ≤ 204 := by
  rw [PySem.ofString_length]
  rcases Nat.eq_zero_or_pos i.natAbs with z | z
  · rw [show i = 0 by omega]; decide
  · have : i.natAbs.log2 < 203 := by
      rw [Nat.log2_lt (by omega)]
      exact Nat.lt_of_le_of_lt h (by decide)
    exact Nat.le_trans (int_text_length_le (k := 203) (by decide) this) (by decide)
theorem Th.monoB {H H' : Hp} {p : Addr} {v : V} {d : PyData} (h : Th H v d) (hp : Pot H p) (s : SameB p H H') : Th H' v d := by
  cases h with
  | non => exact .non
  | bl b => exact .bl b
  | int i hi => exact .int i hi
  | str z a b c => exact .str z a b c
  | lst n hn e => exact .lst n hn (s _ _ (ne_of_pot hp e) e)
  | tup n hn e => exact .tup n hn (s _ _ (ne_of_pot hp e) e)
  | dk e => exact .dk (s _ _ (ne_of_pot hp e) e)
theorem Th.mono {H H' : Hp} {v : V} {d : PyData} (h : Th H v d) (s : Same H H') : Th H' v d := by
  cases h with
  | non => exact .non
  | bl b => exact .bl b
  | int i hi => exact .int i hi
  | str z a b c => exact .str z a b c
  | lst n hn e => exact .lst n hn (s _ _ e)
  | tup n hn e => exact .tup n hn (s _ _ e)
  | dk e => exact .dk (s _ _ e)
theorem Th.upd {H : Hp} {th : Addr} {v : V} {d : PyData} {xs : List V} {o : HO} (h : Th H v d) (ht : H th = some (.lst xs)) (hl : xs.length ≠ 1) : Th (L2.upd H th o) v d := by
  cases h with
  | non => exact .non
  | bl b => exact .bl b
  | int i hi => exact .int i hi
  | str z a b c => exact .str z a b c
  | lst n hn e => exact .lst n hn (by rw [upd_ne (ne_of e ht (by intro z; cases z; exact hl rfl))]; exact e)
  | tup n hn e => exact .tup n hn (by rw [upd_ne (ne_of e ht (by intro z; cases z))]; exact e)
  | dk e => exact .dk (by rw [upd_ne (ne_of e ht (by intro z; cases z))]; exact e)
theorem Th.sd {K : PySem.W.Frag} {H : Hp} {v : V} {d : PyData} (h : Th H v d) : Sd K H v d := by
  cases h with
  | non => exact .dp .non (by simp [PyData.hasDict])
  | bl b => exact .dp (.bl b) (by simp [PyData.hasDict])
  | int i hi => exact .dp (.int i) (by simp [PyData.hasDict])
  | str z a b c => exact .dp (.str _) (by simp [PyData.hasDict])
  | lst n hn e => exact .dp (.lst (SqL.of e) (.cons (.int n) .nil)) (by simp [PyData.hasDict, PyData.hasDictAll])
  | tup n hn e => exact .dp (.tup (SqT.of e) (.cons (.int n) .nil)) (by simp [PyData.hasDict, PyData.hasDictAll])
  | dk e => exact .ed e
theorem shown_one (n : Int) : (PyData.list [.int n]).shown = listText [Str.ofString (toString n)] ∧ (PyData.tuple [.int n]).shown = tupleText [Str.ofString (toString n)] := by
  constructor
  · simp only [PyData.shown, PyData.shownAll]
  · simp only [PyData.shown, PyData.shownAll]
theorem Th.fit {H : Hp} {v : V} {d : PyData} (h : Th H v d) : d.showable = true ∧ d.depth ≤ 1 ∧ d.shown.length ≤ 1921 := by
  cases h with
  | non => exact ⟨by simp [PyData.showable], by simp [PyData.depth], by decide +kernel⟩
  | bl b => cases b <;> exact ⟨by simp [PyData.showable], by simp [PyData.depth], by decide +kernel⟩
  | int i hi => exact ⟨by simpa [PyData.showable] using lg61 hi, by simp [PyData.depth], by simp only [PyData.shown]; exact Nat.le_trans (tlen61 hi) (by decide)⟩
  | str z a b c => exact ⟨a, by simp [PyData.depth], b⟩
  | lst n hn e =>
    refine ⟨by simpa [PyData.showable, PyData.showableAll] using lg61 hn, by simp [PyData.depth, PyData.depthAll], ?_⟩
    rw [(shown_one n).1]
    have := listText_len_le [Str.ofString (toString n)]
    have := tlen61 hn
    simp only [List.map_cons, List.map_nil, List.sum_cons, List.sum_nil, List.length_cons, List.length_nil] at *
    omega
  | tup n hn e =>
    refine ⟨by simpa [PyData.showable, PyData.showableAll] using lg61 hn, by simp [PyData.depth, PyData.depthAll], ?_⟩
    rw [(shown_one n).2]
    have := tupleText_len_le [Str.ofString (toString n)]
    have := tlen61 hn
    simp only [List.map_cons, List.map_nil, List.sum_cons, List.sum_nil, List.length_cons, List.length_nil] at *
    omega
  | dk e => exact ⟨by decide +kernel, by decide +kernel, by decide +kernel⟩
/-! ### xs.count(y), flat things -/
end LT
set_option Elab.async false
set_option linter.all false
set_option maxRecDepth 100000
/-! Own layer: ==, != of instances of a class with its own __eq__; repr, str of such; a method called by keywords. -/
namespace LT
open PySem PySem.Spec PyProof.Rows L2
section
variable {M : Model} {A : Around} {E : Value → Shared → Prop} {s : Shared} {Q : Value → Shared → Prop} {K : PySem.W.Frag} {y C dy : Addr}
open AutoSeq1 (wpAny_loadPart')
theorem int_dec (b : Int) (u : Tok) (y C dy : Addr) :
    Meets (Builtin.«int.__eq__» ⟨[.int b u, .ref y], []⟩) (fun _ R s => s.heap.get? y = some (PySem.W.instObj C dy) ∧ R (.ok (.ret .notImplemented)) s) :=
  .of_wp fun prog w A R s h => by
    obtain ⟨hp, g, d, tk, os⟩ := s
    obtain ⟨hl, h⟩ := h
    wp_walk using wpAny_loadPart' hl, wpAny_load hl
    exact ⟨_, rfl, h⟩
theorem bool_dec (b : Bool) (y C dy : Addr) :
    Meets (Builtin.«int.__eq__» ⟨[.bool b, .ref y], []⟩) (fun _ R s => s.heap.get? y = some (PySem.W.instObj C dy) ∧ R (.ok (.ret .notImplemented)) s) :=
  .of_wp fun prog w A R s h => by
    obtain ⟨hp, g, d, tk, os⟩ := s
    obtain ⟨hl, h⟩ := h
    wp_walk using wpAny_loadPart' hl, wpAny_load hl
    exact ⟨_, rfl, h⟩
theorem str_dec (b : Str) (u : Tok) (y C dy : Addr) :
    Meets (Builtin.«str.__eq__» ⟨[.str b u, .ref y], []⟩) (fun _ R s => s.heap.get? y = some (PySem.W.instObj C dy) ∧ R (.ok (.ret .notImplemented)) s) :=
  .of_wp fun prog w A R s h => by
    obtain ⟨hp, g, d, tk, os⟩ := s
    obtain ⟨hl, h⟩ := h
    wp_walk using wpAny_loadPart' hl, wpAny_load hl
    exact ⟨_, rfl, h⟩
theorem list_dec {K : PySem.W.Frag} (l y C dy : Addr) (hsub : PySem.W.subIn K (.ref C) (.type "list") = some false) :
    Meets (Builtin.«list.__eq__» ⟨[.ref l, .ref y], []⟩) (fun _ R s => K.In s.heap ∧ s.heap.get? y = some (PySem.W.instObj C dy) ∧ (∃ o, s.heap.get? l = some o ∧ o.cls = .type "list") ∧ R (.ok (.ret .notImplemented)) s) :=
  .of_wp fun prog w A R s h => by
    obtain ⟨hp, g, d, tk, os⟩ := s
    obtain ⟨X, hl, ⟨o, ho, hc⟩, h⟩ := h
    have f1 := PySem.W.looks_subIn (M := model prog w) X hsub
    have f2 : ∀ {A' : Around} {Q' : Bool → Shared → Prop} {E' : Value → Shared → Prop}, Q' false ⟨hp, g, d, tk, os⟩ →
        wpAny (model prog w) A' (isInstance (.ref y) (.type "list")) Q' E' ⟨hp, g, d, tk, os⟩ := fun {A' Q' E'} q =>
      wpAny_bind (wpAny_typeOf_ref hl (f1.here q))
    wp_walk using f2
    exact ⟨_, rfl, h⟩
theorem tuple_dec {K : PySem.W.Frag} (l y C dy : Addr) (hsub : PySem.W.subIn K (.ref C) (.type "tuple") = some false) :
    Meets (Builtin.«tuple.__eq__» ⟨[.ref l, .ref y], []⟩) (fun _ R s => K.In s.heap ∧ s.heap.get? y = some (PySem.W.instObj C dy) ∧ (∃ o, s.heap.get? l = some o ∧ o.cls = .type "tuple") ∧ R (.ok (.ret .notImplemented)) s) :=
  .of_wp fun prog w A R s h => by
    obtain ⟨hp, g, d, tk, os⟩ := s
    obtain ⟨X, hl, ⟨o, ho, hc⟩, h⟩ := h
    have f1 := PySem.W.looks_subIn (M := model prog w) X hsub
    have f2 : ∀ {A' : Around} {Q' : Bool → Shared → Prop} {E' : Value → Shared → Prop}, Q' false ⟨hp, g, d, tk, os⟩ →
        wpAny (model prog w) A' (isInstance (.ref y) (.type "tuple")) Q' E' ⟨hp, g, d, tk, os⟩ := fun {A' Q' E'} q =>
      wpAny_bind (wpAny_typeOf_ref hl (f1.here q))
    wp_walk using f2
    exact ⟨_, rfl, h⟩
end
section
variable {prog : Program} {w : World} {A : Around} {E : Value → Shared → Prop} {s : Shared} {Q : Value → Shared → Prop} {K : PySem.W.Frag}
  {y C f : Addr} {oy : Obj} {od : Option Obj} {a : Value} {T id : String}
/-- a thing of a built-in type on the left, which declines; the own __eq__ of the right one is asked -/
theorem rc_eq_refl (X : K.In s.heap) (I : PySem.W.InstAt s.heap y oy C od) (ha : s.TypeIs a T) (hsub : PySem.W.subIn K (.ref C) (.type T) = some false)
    (h1 : Slot T "__eq__" id) (hc1 : ∀ Q' : Value → Shared → Prop, Q' .notImplemented s → wpAny (model prog w) A (call (.builtin id) [a, .ref y]) Q' E s)
    (hs : PySem.W.findIn K (.ref C) "__eq__" = some (some (.ref f))) (hf : PySem.W.isFn K (.ref f) = true) (hu : A.units < cLine)
    (h : wpAny (model prog w) A (call (.ref f) [.ref y, a]) (PySem.W.CmpBack Q) E s) :
    wpAny (model prog w) A (richCompare .Eq a (.ref y)) Q E s := by
  have two : wpAny (model prog w) A (tryCompare (.ref y) "__eq__" a) (fun r s' => ∃ v, r = some v ∧ Q v s') E s := by
    unfold tryCompare
    refine wpAny_bind (PySem.W.ifBound_K X I hs hf (wpAny_mono h (fun v s' hv => ?_) fun _ _ e => e))
    cases v <;> first | exact hv.elim | exact wpAny_pure ⟨_, rfl, hv⟩
  simp only [richCompare, ha.oneThing_none, cmpInfo]
  refine wpAny_holding (wpAny_bind (wpAny_cRoomFor hu ?_))
  refine wpAny_bind (wpAny_typeOf ha (wpAny_bind (I.type.here ?_)))
  rw [if_pos (show (Value.type T != Value.ref C) = true by simp)]
  refine wpAny_bind ((PySem.W.looks_subIn X hsub).here ?_)
  simp only [Bool.false_eq_true, if_false, Bool.not_false, if_true]
  refine wpAny_bind (m := tryCompare a _ (.ref y)) (wpAny_tryCompare_declines ha h1 (hc1 _ ⟨rfl, ?_⟩))
  refine wpAny_bind (m := tryCompare (.ref y) _ a) (wpAny_mono two (fun r s' z => ?_) fun _ _ e => e)
  obtain ⟨v, rfl, hq⟩ := z
  exact wpAny_pure hq
end
/-! ### == by an own __eq__ -/
/-- what the class says of its __eq__ -/
structure EqC (K : PySem.W.Frag) (C f : Addr) : Prop where
  eq : PySem.W.findIn K (.ref C) "__eq__" = some (some (.ref f))
  fn : PySem.W.isFn K (.ref f) = true
  ne : PySem.W.findIn K (.ref C) "__ne__" = some (some (.builtin "object.__ne__"))
  ob : PySem.W.mroIn K C (.type "object") = some true
  sN : PySem.W.subIn K (.ref C) (.type "NoneType") = some false
  sB : PySem.W.subIn K (.ref C) (.type "bool") = some false
  sI : PySem.W.subIn K (.ref C) (.type "int") = some false
  sS : PySem.W.subIn K (.ref C) (.type "str") = some false
  sL : PySem.W.subIn K (.ref C) (.type "list") = some false
  sT : PySem.W.subIn K (.ref C) (.type "tuple") = some false
/-- a thing beside an instance of C -/
inductive Beside (K : PySem.W.Frag) (C : Addr) (H : Hp) : V → Prop
  | non : Beside K C H .non
  | bl (b : Bool) : Beside K C H (.bl b)
  | int (i : Int) : Beside K C H (.int i)
  | str (z : Str) : Beside K C H (.str z)
  | lst {a : Addr} {xs : List V} : H a = some (.lst xs) → Beside K C H (.ref a)
  | tup {a : Addr} {xs : List V} : H a = some (.tup xs) → Beside K C H (.ref a)
  | ins {a dx : Addr} {fs : List (Str × V)} : H a = some (.ins C dx fs) → Beside K C H (.ref a)
section
variable {X : Cx} {C f : Addr} {fd : FuncData} {ps : List Str} {sp : Sp} {n : Nat}
theorem run_eq {A : Around} {pins : List (Addr × Obj)} {σ : L2.St} {H : Hp} {s : Shared} {Q : VK} {v : V} {u : Value} {a : Addr}
    (F : FnOk X.prog X.w X.K X.mg X.base CX0 n f fd ps sp) (sb : L2.Sub X n A) (hb : L2.Binds X.K fd ps []) (I : Inv X pins σ H s) (r : RelV v u)
    (h : sp [.ref a, v] H (fun z H' => ∃ b, z = .bl b ∧ Q z H') E0) :
    wpAny (model X.prog X.w) A (call (.ref f) [.ref a, u]) (fun z s' => ∃ b H', z = .bool b ∧ Inv X pins σ H' s' ∧ Q (.bl b) H') X.xe s := by
  have e0 : Env0 X.prog X.w X.K X.mg X.base A X.stack s H := by
    have e := I.env0
    exact ⟨by rw [sb.fr]; exact e.frames, e.mod, e.bs, e.bsz, e.funs, e.frf, e.hok, e.bare⟩
  have r2 : Vals [V.ref a, v] [Value.ref a, u] := .cons rfl (.cons r .nil)
  have hl := F.len _ _ _ _ h
  have b := hb s [.ref a, u] I.kIn (by simpa using hl)
  rw [List.append_nil] at b
  refine wpAny_call (codeAny_mono (F.run A X.stack s H ⟨[.ref a, u], []⟩ [.ref a, u] [.ref a, v] _ E0 sb.room e0 b r2 h) fun r s' hq => ?_)
  match r, hq with
  | .error _, hq => exact hq.elim
  | .ok .next, hq => exact hq.elim
  | .ok .brk, hq => exact hq.elim
  | .ok .cont, hq => exact hq.elim
  | .ok (.ret z), hq =>
    obtain ⟨z', H', I', rz, b, rfl, q⟩ := I.after hq
    cases rz
    exact ⟨b, H', rfl, I', q⟩
theorem rc_own (EC : EqC X.K C f) {A : Around} {pins : List (Addr × Obj)} {σ : L2.St} {H : Hp} {s : Shared} {Q : VK} {v : V} {u : Value} {a dx : Addr} {fs : List (Str × V)}
    (F : FnOk X.prog X.w X.K X.mg X.base CX0 n f fd ps sp) (sb : L2.Sub X n A) (hb : L2.Binds X.K fd ps []) (I : Inv X pins σ H s) (r : RelV v u)
    (ha : H a = some (.ins C dx fs)) (hv : Beside X.K C H v) (h : sp [.ref a, v] H (fun z H' => ∃ b, z = .bl b ∧ Q z H') E0) :
    wpAny (model X.prog X.w) A (richCompare .Eq (.ref a) u) (fun z s' => ∃ b H', z = .bool b ∧ Inv X pins σ H' s' ∧ Q (.bl b) H') X.xe s := by
  obtain ⟨mA, J, _⟩ := ins_get I.hok ha
  obtain ⟨od, J, _⟩ := J.look
  obtain ⟨m, hF⟩ := I.fr
  have nt : ∀ T : String, (PySem.W.subIn X.K (.type T) (.ref C) == some false) = true → PySem.W.notFirst X.K C (.type T) = true := fun T e => by
    unfold PySem.W.notFirst
    rw [e, Bool.or_true]
  have tyv : ∃ t, PySem.W.Looks (model X.prog X.w) s.heap (typeOf u) t ∧ PySem.W.notFirst X.K C t = true := by
    cases hv with
    | non => obtain ⟨P, Z, p, _⟩ := kit_of I r (.base .non); exact ⟨_, Z.ty _ _ I.kIn p, nt _ (by rfl)⟩
    | bl b => obtain ⟨P, Z, p, _⟩ := kit_of I r (.base (.bl b)); exact ⟨_, Z.ty _ _ I.kIn p, nt _ (by rfl)⟩
    | int i => obtain ⟨P, Z, p, _⟩ := kit_of I r (.base (.int i)); exact ⟨_, Z.ty _ _ I.kIn p, nt _ (by rfl)⟩
    | str z => obtain ⟨P, Z, p, _⟩ := kit_of I r (.base (.str z)); exact ⟨_, Z.ty _ _ I.kIn p, nt _ (by rfl)⟩
    | lst e => obtain ⟨P, Z, p, _⟩ := kit_of I r (.base (.lst e)); exact ⟨_, Z.ty _ _ I.kIn p, nt _ (by rfl)⟩
    | tup e => obtain ⟨P, Z, p, _⟩ := kit_of I r (.base (.tup e)); exact ⟨_, Z.ty _ _ I.kIn p, nt _ (by rfl)⟩
    | ins e =>
      cases r
      obtain ⟨mB, J', _⟩ := ins_get I.hok e
      obtain ⟨od', J', _⟩ := J'.look
      exact ⟨_, J'.type, by simp [PySem.W.notFirst]⟩
  obtain ⟨t, ht, hn⟩ := tyv
  refine PySem.W.cmp_K (op := .Eq) sb.room.units0 hF I.ok.mod.kin J ht hn EC.eq EC.fn (wpAny_mono (run_eq F sb hb I r h) (fun z s' hz => ?_) fun _ _ x => x)
  obtain ⟨b, H', rfl, I', q⟩ := hz
  exact ⟨b, H', rfl, I', q⟩
/-- the other way about -/
theorem rc_own_refl (EC : EqC X.K C f) {A : Around} {pins : List (Addr × Obj)} {σ : L2.St} {H : Hp} {s : Shared} {Q : VK} {v : V} {u : Value} {a dx : Addr} {fs : List (Str × V)}
    (F : FnOk X.prog X.w X.K X.mg X.base CX0 n f fd ps sp) (sb : L2.Sub X n A) (hb : L2.Binds X.K fd ps []) (I : Inv X pins σ H s) (r : RelV v u)
    (ha : H a = some (.ins C dx fs)) (hv : Beside X.K C H v) (hni : ∀ b dy gs, v = .ref b → H b ≠ some (.ins C dy gs)) (h : sp [.ref a, v] H (fun z H' => ∃ b, z = .bl b ∧ Q z H') E0) :
    wpAny (model X.prog X.w) A (richCompare .Eq u (.ref a)) (fun z s' => ∃ b H', z = .bool b ∧ Inv X pins σ H' s' ∧ Q (.bl b) H') X.xe s := by
  obtain ⟨mA, J, _⟩ := ins_get I.hok ha
  have hob := J.obj
  obtain ⟨od, J, _⟩ := J.look
  have fin := wpAny_mono (run_eq (A := A) F sb hb I r h) (Q' := PySem.W.CmpBack fun z s' => ∃ b H', z = .bool b ∧ Inv X pins σ H' s' ∧ Q (.bl b) H') (fun z s' hz => by
    obtain ⟨b, H', rfl, I', q⟩ := hz
    exact ⟨b, H', rfl, I', q⟩) fun _ _ x => x
  cases hv with
  | non =>
    cases r
    exact rc_eq_refl I.kIn J rfl EC.sN PySem.F.slot_NoneType_eq (fun Q' q => call_gives PySem.F.slot_NoneType_eq rfl PySem.F.entry_NoneType_eq (PySem.F.args_NoneType_eq_2 _ _) (SeqAt.NoneType___eq___none_ref_0 _) q) EC.eq EC.fn sb.room.units0 fin
  | bl b =>
    cases r
    exact rc_eq_refl I.kIn J rfl EC.sB PySem.F.slot_bool_eq (fun Q' q => call_meets PySem.F.slot_bool_eq rfl PySem.F.entry_int_eq (PySem.F.args_int_eq_2 _ _) (bool_dec b a C dx) ⟨hob, q⟩) EC.eq EC.fn sb.room.units0 fin
  | int i =>
    obtain ⟨t, rfl⟩ := r
    exact rc_eq_refl I.kIn J (typeIs_int _ _ _) EC.sI PySem.F.slot_int_eq (fun Q' q => call_meets PySem.F.slot_int_eq (typeIs_int _ _ _) PySem.F.entry_int_eq (PySem.F.args_int_eq_2 _ _) (int_dec i t a C dx) ⟨hob, q⟩) EC.eq EC.fn sb.room.units0 fin
  | str z =>
    obtain ⟨t, rfl⟩ := r
    exact rc_eq_refl I.kIn J (typeIs_str _ _ _) EC.sS PySem.F.slot_str_eq (fun Q' q => call_meets PySem.F.slot_str_eq (typeIs_str _ _ _) PySem.F.entry_str_eq (PySem.F.args_str_eq_2 _ _) (str_dec z t a C dx) ⟨hob, q⟩) EC.eq EC.fn sb.room.units0 fin
  | @lst l xs e =>
    cases r
    obtain ⟨_, its, k, _, h1⟩ := (show ObjOk X.prog X.w H s.heap l (.lst xs) from I.hok l _ e)
    exact rc_eq_refl I.kIn J ⟨_, h1, rfl⟩ EC.sL PySem.F.slot_list_eq (fun Q' q => call_meets PySem.F.slot_list_eq ⟨_, h1, rfl⟩ PySem.F.entry_list_eq (PySem.F.args_list_eq_2 _ _) (list_dec l a C dx EC.sL) ⟨I.kIn, hob, ⟨_, h1, rfl⟩, q⟩) EC.eq EC.fn sb.room.units0 fin
  | @tup l xs e =>
    cases r
    obtain ⟨_, its, _, o, h1, h2, _⟩ := (show ObjOk X.prog X.w H s.heap l (.tup xs) from I.hok l _ e)
    exact rc_eq_refl I.kIn J ⟨_, h1, h2⟩ EC.sT PySem.F.slot_tuple_eq (fun Q' q => call_meets PySem.F.slot_tuple_eq ⟨_, h1, h2⟩ PySem.F.entry_tuple_eq (PySem.F.args_tuple_eq_2 _ _) (tuple_dec l a C dx EC.sT) ⟨I.kIn, hob, ⟨_, h1, h2⟩, q⟩) EC.eq EC.fn sb.room.units0 fin
  | ins e => exact absurd e (hni _ _ _ rfl)
/-- x == y, one of them an instance of C -/
def rOwn (K : PySem.W.Frag) (C : Addr) (sp : Sp) : R2 := fun x y H Q =>
  (∃ a dx fs, x = .ref a ∧ H a = some (.ins C dx fs) ∧ Beside K C H y ∧ sp [x, y] H (fun z H' => ∃ b, z = .bl b ∧ Q z H') E0) ∨
  (∃ a dx fs, y = .ref a ∧ H a = some (.ins C dx fs) ∧ Beside K C H x ∧ (∀ b dy gs, x = .ref b → H b ≠ some (.ins C dy gs)) ∧ sp [y, x] H (fun z H' => ∃ b, z = .bl b ∧ Q z H') E0)
theorem op_own (EC : EqC X.K C f) (F : FnOk X.prog X.w X.K X.mg X.base CX0 n f fd ps sp) (hr : Room n X.A) (hb : L2.Binds X.K fd ps []) :
    OpR X (compareOp .Eq) (rOwn X.K C sp) := by
  intro pins s σ H x y v u Q I rx ry h
  rcases h with ⟨a, dx, fs, rfl, ha, hv, h⟩ | ⟨a, dx, fs, rfl, ha, hv, hni, h⟩
  · cases rx
    refine wpAny_mono (rc_own EC F ⟨hr, rfl⟩ hb I ry ha hv h) (fun z s' hz => ?_) fun _ _ x => x
    obtain ⟨b, H', rfl, I', q⟩ := hz
    exact ⟨.bl b, H', I', rfl, q⟩
  · cases ry
    refine wpAny_mono (rc_own_refl EC F ⟨hr, rfl⟩ hb I rx ha hv hni h) (fun z s' hz => ?_) fun _ _ x => x
    obtain ⟨b, H', rfl, I', q⟩ := hz
    exact ⟨.bl b, H', I', rfl, q⟩
/-- == within a list: the same object is equal to itself -/
theorem eqb_own (EC : EqC X.K C f) {A : Around} {pins : List (Addr × Obj)} {σ : L2.St} {H : Hp} {s : Shared} {Q : VK} {a b dx dy : Addr} {fs gs : List (Str × V)}
    (F : FnOk X.prog X.w X.K X.mg X.base CX0 n f fd ps sp) (sb : L2.Sub X n A) (hb : L2.Binds X.K fd ps []) (I : Inv X pins σ H s)
    (ha : H a = some (.ins C dx fs)) (hb' : H b = some (.ins C dy gs)) (hs : a = b → Q (.bl true) H) (h : a ≠ b → sp [.ref a, .ref b] H (fun z H' => ∃ b, z = .bl b ∧ Q z H') E0) :
    wpAny (model X.prog X.w) A (eqBool (.ref a) (.ref b)) (fun r s' => ∃ H', Inv X pins σ H' s' ∧ Q (.bl r) H') X.xe s := by
  by_cases e : a = b
  · subst e
    exact SeqAt.EqAt.same (A := A) (s := s) (.ref a) X.prog X.w X.xe _ ⟨H, I, hs rfl⟩
  · refine GQ.eqBool_refG e (wpAny_mono (rc_own (v := .ref b) EC F sb hb I rfl ha (.ins hb') (h e)) (fun z s' hz => ?_) fun _ _ x => x)
    obtain ⟨r, H', rfl, I', q⟩ := hz
    exact ⟨r, rfl, H', I', q⟩
end
/-! ### x in [y], [y] == [x] -/
section
variable {prog : Program} {w : World} {A : Around} {E : Value → Shared → Prop} {s : Shared}
open AutoSeq1 (wpAny_loadPart')
open MeetsSeq MeetsSeq3
def OneAt (l : Addr) (y : Value) (s : Shared) : Prop := ∃ (items : Array Value) (n : Nat), s.heap.get? l = some { cls := .type "list", data := .seq items n } ∧ items.size = 1 ∧ items[0]? = some y
theorem loop_none {R : Result → Shared → Prop} {l : Addr} {x y : Value} (hl : OneAt l y s) (h : R (.ok (.ret (.bool false))) s) (i : Nat) (h1 : i = 1) :
    wpAny (model prog w) A.in1 (Builtin.«list.__contains__.loop» ⟨[.ref l, x, rawInt i], []⟩) (GQ.FinOf prog w A R) (fun e s' => R (.error e) s') s := by
  obtain ⟨items, n, hl, hz, _⟩ := hl
  obtain ⟨hp, g, d, tk, os⟩ := s
  wp_walk using wpAny_loadPart' hl
  have hi : items[((i : Nat) : Int).toNat]? = none := by simp; omega
  rw [hi]
  wp_walk
  exact h
theorem loop_one {R : Result → Shared → Prop} {l : Addr} {x y : Value} (hl : OneAt l y s)
    (h : wpAny (model prog w) A.in1 (eqBool y x) (fun r s' => OneAt l y s' ∧ R (.ok (.ret (.bool r))) s') (fun e s' => R (.error e) s') s) (i : Nat) (h0 : i = 0) :
    wpAny (model prog w) A.in1 (Builtin.«list.__contains__.loop» ⟨[.ref l, x, rawInt i], []⟩) (GQ.FinOf prog w A R) (fun e s' => R (.error e) s') s := by
  obtain ⟨items, n, hl, hz, hy⟩ := hl
  obtain ⟨hp, g, d, tk, os⟩ := s
  wp_walk using wpAny_loadPart' hl
  have hi : items[((i : Nat) : Int).toNat]? = some y := by
    rw [h0]
    exact hy
  rw [hi]
  refine wpAny_bind (wpAny_mono h (fun r s2 hr => ?_) fun _ _ x => x)
  obtain ⟨h1, h2⟩ := hr
  cases r with
  | true =>
    obtain ⟨hp2, g2, d2, tk2, os2⟩ := s2
    wp_walk
    exact h2
  | false =>
    have last := loop_none (prog := prog) (w := w) (A := A) (x := x) h1 h2 (i + 1) (by omega)
    have hc : ((i : Int) + 1) = ((i + 1 : Nat) : Int) := by omega
    obtain ⟨hp2, g2, d2, tk2, os2⟩ := s2
    wp_walk
    rw [hc]
    exact ⟨plainId_quiet plain_contains_loop _, codeAny_builtin entry_contains_loop (by
      rw [Around.under_plainId plain_contains_loop _]
      exact last)⟩
theorem in_one {Q : Value → Shared → Prop} {l : Addr} {x y : Value} (hl : OneAt l y s)
    (h : wpAny (model prog w) A.in1 (eqBool y x) (fun r s' => OneAt l y s' ∧ Q (.bool r) s') E s) : wpAny (model prog w) A (compareOp .In x (.ref l)) Q E s := by
  obtain ⟨items, n, ho, _, _⟩ := id hl
  show wpAny _ A (do return .bool (← contains (.ref l) x)) Q E s
  refine wpAny_bind (wpAny_contains_slot ⟨_, ho, rfl⟩ PySem.F.slot_list_contains (GQ.call_here PySem.F.slot_list_contains ⟨_, ho, rfl⟩ PySem.F.entry_list_contains (PySem.F.args_list_contains_2 _ _) ?_))
  have first := loop_one (prog := prog) (w := w) (A := A) (R := wants (fun r s' => wpAny (model prog w) A (truthy r) (fun a s' => wpAny (model prog w) A (pure (Value.bool a)) Q E s') E s') E) hl
    (wpAny_mono h (fun r s' hr => ⟨hr.1, wpAny_truthy_bool (wpAny_pure hr.2)⟩) fun _ _ x => x) 0 rfl
  obtain ⟨hp, g, d, tk, os⟩ := s
  wp_walk using wpAny_loadPart' ho
  exact ⟨plainId_quiet plain_contains_loop _, codeAny_builtin entry_contains_loop (by
    rw [Around.under_plainId plain_contains_loop _]
    exact first)⟩
end
/-! ### the same over the layer -/
section
variable {X : Cx} {C f : Addr} {fd : FuncData} {ps : List Str} {sp : Sp} {n : Nat}
theorem one_at {pins : List (Addr × Obj)} {σ : L2.St} {H : Hp} {s : Shared} {l a : Addr} (I : Inv X pins σ H s) (h : H l = some (.lst [.ref a])) : OneAt l (.ref a) s := by
  obtain ⟨_, its, k, rv, h1⟩ := (show ObjOk X.prog X.w H s.heap l (.lst [.ref a]) from I.hok l _ h)
  cases rv with
  | cons r1 r2 =>
    cases r2
    cases r1
    exact ⟨_, _, h1, rfl, rfl⟩
end
/-! ### the same, the answer told ahead, the heap as it was -/
/-! ### != by an own __eq__ -/
section
variable {prog : Program} {w : World} {A : Around} {E : Value → Shared → Prop} {s : Shared} {K : PySem.W.Frag} {x C f : Addr} {ox : Obj} {od : Option Obj}
theorem ifBound_B {M : Model} {name : Str} {id : String} {args : List Value} {Q : Option Value → Shared → Prop} (X : K.In s.heap) (I : PySem.W.InstAt s.heap x ox C od)
    (hs : PySem.W.findIn K (.ref C) name = some (some (.builtin id))) (hb : ∀ self, bindSpecial (.builtin id) self = pure (.builtin id, [self]))
    (h : wpAny M A (call (.builtin id) (.ref x :: args)) (fun v => Q (some v)) E s) : wpAny M A (callSpecialIfBound? (.ref x) name args) Q E s := by
  simp only [callSpecialIfBound?, bindSpecialIfBound?]
  refine wpAny_holding (wpAny_bind (wpAny_bind (wpAny_bind (I.type.here ((PySem.W.looks_findIn X hs).here ?_)))))
  refine wpAny_bind (wpAny_askSetting (wpAny_ite ?_))
  have fin : wpAny M A (call (.builtin id) ([.ref x] ++ args) >>= fun v => pure (some v)) Q E s := wpAny_bind (wpAny_mono h (fun v s' h' => wpAny_pure h') fun _ _ h' => h')
  have bd : PySem.W.Looks M s.heap (bindSpecial (.builtin id) (.ref x)) (.builtin id, [.ref x]) := PySem.W.Looks.of_pure (hb _)
  split
  · exact wpAny_bind (bd.here (wpAny_pure (by exact fin)))
  · exact wpAny_tryCatch (wpAny_bind (bd.here (wpAny_pure (by exact fin))))
theorem ne_own {Q : Value → Shared → Prop} {y : Addr} {oy : Obj} {oe : Option Obj} (hu : A.units + 1 < cLine) (EC : EqC K C f) (X : K.In s.heap) (I : PySem.W.InstAt s.heap x ox C od) (J : PySem.W.InstAt s.heap y oy C oe)
    (h : wpAny (model prog w) A.in1 (call (.ref f) [.ref x, .ref y]) (fun v s' => ∃ b, v = .bool b ∧ Q (.bool (!b)) s') E s) : wpAny (model prog w) A (richCompare .NotEq (.ref x) (.ref y)) Q E s := by
  have one : wpAny (model prog w) A (tryCompare (.ref x) "__ne__" (.ref y)) (fun r s' => ∃ v, r = some v ∧ Q v s') E s := by
    unfold tryCompare
    refine wpAny_bind (ifBound_B X I EC.ne PySem.F.slot_object_ne.bind ?_)
    refine wpAny_call (codeAny_call_builtin PySem.F.slot_object_ne.plain PySem.F.cmpEntry_ne (PySem.W.check_slot PySem.F.cmpKind_ne PySem.F.cmpSplit_ne (I.type.andThen (PySem.W.looks_mroIn X EC.ob)) (PySem.F.cmpArgs_ne _ _) ?_))
    unfold Builtin.«object.__ne__»
    refine wpAny_bind (m := slotArgs "__ne__" 1 _) (wpAny_pure ?_)
    refine wpAny_bind (m := cRoomFor _ _) (wpAny_cRoomFor (by show A.units + 1 < cLine; exact hu) ?_)
    refine wpAny_bind (m := callSpecialIfBound? (.ref x) (Str.ofString "__eq__") _) (PySem.W.ifBound_K X I EC.eq EC.fn (wpAny_mono h (fun v s' hv => ?_) fun _ _ e => e))
    obtain ⟨b, rfl, q⟩ := hv
    refine wpAny_bind (m := truthy (.bool b)) (wpAny_truthy_bool ?_)
    exact wpAny_pure (wpAny_pure ⟨_, rfl, q⟩)
  unfold richCompare
  simp only [oneThing_ref, cmpInfo]
  refine wpAny_holding (wpAny_bind (wpAny_cRoomFor (by omega) ?_))
  refine wpAny_bind (I.type.here (wpAny_bind (J.type.here ?_)))
  rw [if_neg (by simp)]
  refine wpAny_bind (wpAny_pure ?_)
  simp only [Bool.false_eq_true, if_false]
  refine wpAny_bind (m := tryCompare (.ref x) _ (.ref y)) (wpAny_mono one (fun r s' z => ?_) fun _ _ e => e)
  obtain ⟨v, rfl, hq⟩ := z
  exact wpAny_pure hq
end
section
variable {X : Cx} {C f : Addr} {fd : FuncData} {ps : List Str} {sp : Sp} {n : Nat}
theorem op_ne_own (EC : EqC X.K C f) (F : FnOk X.prog X.w X.K X.mg X.base CX0 n f fd ps sp) (hr : Room (n + 1) X.A) (hb : L2.Binds X.K fd ps []) :
    OpR X (compareOp .NotEq) (fun x y H Q => ∃ (a b dx dy : Addr) (fs gs : List (Str × V)), x = .ref a ∧ y = .ref b ∧ H a = some (.ins C dx fs) ∧ H b = some (.ins C dy gs) ∧
      sp [.ref a, .ref b] H (fun z H' => ∃ k, z = .bl k ∧ ∃ r, z = .bl r ∧ Q (.bl (!r)) H') E0) := by
  intro pins s σ H x y v u Q I rx ry h
  obtain ⟨a, b, dx, dy, fs, gs, rfl, rfl, ha, hb', h1⟩ := h
  cases rx
  cases ry
  obtain ⟨mA, J, _⟩ := ins_get I.hok ha
  obtain ⟨od, J, _⟩ := J.look
  obtain ⟨mB, J', _⟩ := ins_get I.hok hb'
  obtain ⟨od', J', _⟩ := J'.look
  refine ne_own (by have := hr.units; omega) EC I.kIn J J' (wpAny_mono (run_eq (v := .ref b) (Q := fun z H' => ∃ r, z = .bl r ∧ Q (.bl (!r)) H') F ⟨hr.in1, rfl⟩ hb I rfl h1) (fun z s' hz => ?_) fun _ _ x => x)
  · obtain ⟨r, H', rfl, I', r', e, q⟩ := hz
    cases e
    exact ⟨r, rfl, .bl (!r), H', I', rfl, q⟩
/-! ### repr, str of an instance -/
end
/-! ### o.m(k = v): a method by keywords alone, what is raised wished for at the slots -/
end LT
set_option Elab.async false
set_option linter.all false
set_option maxRecDepth 100000
set_option maxHeartbeats 1600000
/-! Own layer: enumerate, methods that raise in a try, what is new on the heap, lists of ints. -/
namespace LT
open PySem PySem.Spec PyProof.Rows L2
/-! ### enumerate -/
/-! ### o.m(e, ..), where what it raises is caught -/
/-! ### what is new -/
def new (H H' : Hp) : Hp := fun c => match H c with | none => H' c | some _ => none
theorem new_iff {H H' : Hp} {c : Addr} {o : HO} : new H H' c = some o ↔ H c = none ∧ H' c = some o := by
  unfold new
  cases h : H c with
  | none => simp
  | some x => simp
theorem new_at {H H' : Hp} {c : Addr} {o : HO} (n : H c = none) (e : H' c = some o) : new H H' c = some o := new_iff.mpr ⟨n, e⟩
/-! ### one by place, one by its name -/
/-! ### lists of ints -/
end LT
set_option Elab.async false
set_option linter.all false
set_option maxRecDepth 100000
set_option maxHeartbeats 1600000
/-! Own layer: repr of an own thing whose __repr__ shows a list; a list of ints in an f-string; min of a list of pairs. -/
namespace LT
open PySem PySem.Spec PyProof.Rows L2
/-! ### min of a list of pairs of ints -/
theorem vals_ix : ∀ {vs : List V} {us : List Value}, Vals vs us → ∀ (i : Nat) {v : V} {u : Value}, vs[i]? = some v → us[i]? = some u → RelV v u
  | _, _, .cons r _, 0, _, _, hv, hu => by
    cases hv
    cases hu
    exact r
  | _, _, .cons _ t, i + 1, _, _, hv, hu => vals_ix t i hv hu
end LT
set_option Elab.async false
set_option linter.all false
set_option maxRecDepth 100000
set_option maxHeartbeats 1600000
/-! Own layer, numbers alone: how many are on in a slot; the slots where that may be least; even begins. -/
namespace LT
/-! ### sums -/
/-! ### even begins -/
end LT
set_option Elab.async false
set_option linter.all false
set_option maxRecDepth 100000
set_option maxHeartbeats 1600000
namespace LT
open PySem PySem.Spec PyProof.Rows L2
/-! ### the text of a list of ints -/
end LT
set_option Elab.async false
set_option linter.all false
set_option maxRecDepth 100000
set_option maxHeartbeats 1600000
set_option pp.maxSteps 700
/-! Own layer: a def that shows a list while something else is being shown; repr of a tuple that holds an own thing. -/
namespace LT
open PySem PySem.Spec PyProof.Rows L2
/-- a def that may ask what is being shown -/
structure FnGc (P : Program) (w : World) (K : PySem.W.Frag) (mg : Str → Option Value) (base : Heap)
    (CX : CXT) (k : Nat) (f : Addr) (fd : FuncData) (ps : List Str) (sp : List Code → Sp) : Prop where
  argc : ∀ {g : List Code} {vs : List V} {H : Hp} {Q : VK} {E : XK}, sp g vs H Q E → vs.length = ps.length
  go : ∀ {g : List Code} {A : Around} {outer : List Env} {s : Shared} {H : Hp} {args : Args} {us : List Value} {vs : List V}
    {Q : VK} {E : XK}, A.guards = some g → Room k A → Env0 P w K mg base A outer s H →
    BindsTo s fd args (ps.zip us) → Vals vs us → sp g vs H Q E →
    codeAny (model P w) A (.call (.ref f) args) (CR CX outer P w H s Q E) s
section
variable {P : Program} {w : World} {K : PySem.W.Frag} {mg : Str → Option Value} {base : Heap}
theorem FnGc.toG {CX : CXT} {k : Nat} {f : Addr} {fd : FuncData} {ps : List Str} {sp : List Code → Sp} (F : FnGc P w K mg base CX k f fd ps sp) : FnG P w K mg base CX k f fd ps (sp []) :=
  ⟨fun h => F.argc h, fun hg hr e b v h => F.go hg hr e b v h⟩
end
section
variable {X : Cx} {C f : Addr} {fd : FuncData} {ps : List Str} {sp : List Code → Sp} {n : Nat}
theorem run_strGc {g : List Code} {A : Around} {pins : List (Addr × Obj)} {σ : L2.St} {H : Hp} {s : Shared} {Q : VK} {a : Addr}
    (F : FnGc X.prog X.w X.K X.mg X.base CX0 n f fd ps sp) (hG : A.guards = some g) (sb : L2.Sub X n A) (hb : L2.Binds X.K fd ps []) (I : Inv X pins σ H s)
    (h : sp g [.ref a] H (fun z H' => ∃ t, z = .str t ∧ Q z H') E0) :
    wpAny (model X.prog X.w) A (call (.ref f) [.ref a]) (PySem.W.StrBack (EP X pins σ Q)) X.xe s := by
  have e0 : Env0 X.prog X.w X.K X.mg X.base A X.stack s H := by
    have e := I.env0
    exact ⟨by rw [sb.fr]; exact e.frames, e.mod, e.bs, e.bsz, e.funs, e.frf, e.hok, e.bare⟩
  have r2 : Vals [V.ref a] [Value.ref a] := .cons rfl .nil
  have hl := F.argc h
  have b := hb s [.ref a] I.kIn (by simpa using hl)
  rw [List.append_nil] at b
  refine wpAny_call (codeAny_mono (F.go (args := ⟨[.ref a], []⟩) (us := [.ref a]) hG sb.room e0 b r2 h) fun r s' hq => ?_)
  match r, hq with
  | .error _, hq => exact hq.elim
  | .ok .next, hq => exact hq.elim
  | .ok .brk, hq => exact hq.elim
  | .ok .cont, hq => exact hq.elim
  | .ok (.ret z), hq =>
    obtain ⟨z', H', I', rz, t, rfl, q⟩ := I.after hq
    obtain ⟨tk, rfl⟩ := rz
    exact ⟨.str t, H', I', ⟨tk, rfl⟩, q⟩
/-! ### {l} in an f-string, l a list of ints that is not being shown -/
end
section
variable {prog : Program} {w : World} {K : PySem.W.Frag} {A : Around} {E : Value → Shared → Prop} {s : Shared} {x C f : Addr} {ox : Obj} {od : Option Obj}
theorem boundBy_ownC {M : Model} {last : Value → List Value → Sem Value} {name : Str} {Q : Option Value → Shared → Prop} (X : K.In s.heap) (I : PySem.W.InstAt s.heap x ox C od)
    (hs : PySem.W.findIn K (.ref C) name = some (some (.ref f))) (hf : PySem.W.isFn K (.ref f) = true)
    (h : wpAny M A (last (.ref f) [.ref x]) (fun v => Q (some v)) E s) : wpAny M A (callSpecialIfBoundBy? last (.ref x) name) Q E s := by
  simp only [callSpecialIfBoundBy?, bindSpecialIfBound?]
  refine wpAny_holding (wpAny_bind (wpAny_bind (wpAny_bind (I.type.here ((PySem.W.looks_findIn X hs).here ?_)))))
  refine wpAny_bind (wpAny_askSetting (wpAny_ite ?_))
  have back : wpAny M A (last (.ref f) [.ref x] >>= fun v => pure (some v)) Q E s := wpAny_bind (wpAny_mono h (fun v s' z => wpAny_pure z) fun _ _ z => z)
  split
  · exact wpAny_bind ((PySem.W.bind_fn X _ (beq_iff_eq.mp hf)).here (wpAny_pure (by exact back)))
  · exact wpAny_tryCatch (wpAny_bind ((PySem.W.bind_fn X _ (beq_iff_eq.mp hf)).here (wpAny_pure (by exact back))))
theorem under_ownC {b : Nat} {Q : Str → Shared → Prop} (hb : b ≤ sizeLine) (hu : A.units < cLine) (X : K.In s.heap) (I : PySem.W.InstAt s.heap x ox C od)
    (hs : PySem.W.findIn K (.ref C) "__repr__" = some (some (.ref f))) (hf : PySem.W.isFn K (.ref f) = true)
    (h : wpAny (model prog w) A (call (.ref f) [.ref x]) (fun v s' => ∃ t u, v = .str t u ∧ Q t s') E s) : wpAny (model prog w) A (pyReprUnder b (.ref x)) Q E s := by
  refine wpAny_pyReprUnder_ref hb ?_
  unfold pyReprObjUnder pyReprObjBy
  refine wpAny_bind (wpAny_cRoomFor hu ?_)
  refine wpAny_bind (wpAny_bind (I.type.here ((PySem.W.looks_findIn X hs).here ?_)))
  show wpAny _ _ (if (some (Value.ref f)).isNone = true then _ else _) _ _ _
  rw [if_neg (by simp)]
  refine wpAny_bind (m := callSpecialIfBoundBy? _ (.ref x) (Str.ofString "__repr__")) (boundBy_ownC X I hs hf (wpAny_mono h (fun r s' hr => ?_) fun _ _ y => y))
  obtain ⟨t, u, rfl, q⟩ := hr
  exact wpAny_bind (wpAny_isInstance (typeIs_str _ _ _) isSubtype_str_str (wpAny_pure ⟨t, u, rfl, q⟩))
end
end LT
set_option Elab.async false
set_option linter.all false
set_option maxRecDepth 100000
set_option maxHeartbeats 1600000
set_option pp.maxSteps 700
/-! Own layer: repr of a list that holds own things and lists of ints; min of two pairs. -/
namespace LT
open PySem PySem.Spec PyProof.Rows L2
theorem sub_guardC {X : Cx} {n : Nat} {A : Around} (sb : L2.Sub X (n + 1) A) (args : Args) : L2.Sub X n (A.under (.builtin "list.__repr__.loop" args)) := by
  have hw : (Code.builtin "list.__repr__.loop" args).weight ≤ 1 := by
    show (Code.builtin "list.__repr__.loop" ⟨[], []⟩).weight ≤ 1
    decide +kernel
  have hc : (Code.builtin "list.__repr__.loop" args).cUnits ≤ 10 := by
    show (Code.builtin "list.__repr__.loop" ⟨[], []⟩).cUnits ≤ 10
    decide +kernel
  have he : (Code.builtin "list.__repr__.loop" args).envs = [] := rfl
  obtain ⟨⟨h1, h2, h3⟩, h4⟩ := sb
  refine ⟨⟨h1, ?_, ?_⟩, ?_⟩
  · show A.depth + _ + 3 * n + 5 < _
    omega
  · show A.units + _ + 16 * n + 200 < _
    omega
  · unfold Around.under
    simp [he, pushEnvs, h4]
/-! ### min of two pairs -/
end LT
set_option Elab.async false
set_option linter.all false
set_option maxRecDepth 100000
set_option maxHeartbeats 1600000
namespace LT
open PySem PySem.Spec PyProof.Rows L2 NdefX
/-! ### one of two readings -/
/-! ### len of an own thing -/
section
variable {X : Cx} {n : Nat} {f C : Addr} {fd : FuncData} {ps : List Str} {sp : Sp}
theorem run_len {A : Around} {pins : List (Addr × Obj)} {σ : L2.St} {H : Hp} {s : Shared} {Q : VK} {a : Addr}
    (F : FnOk X.prog X.w X.K X.mg X.base CX0 n f fd ps sp) (sb : L2.Sub X n A) (hb : L2.Binds X.K fd ps []) (I : Inv X pins σ H s)
    (h : sp [.ref a] H (fun z H' => ∃ t : Int, z = .int t ∧ 0 ≤ t ∧ t < 2 ^ 63 ∧ Q z H') E0) :
    wpAny (model X.prog X.w) A (call (.ref f) [.ref a]) (PySem.W.LenBack (EP X pins σ Q)) X.xe s := by
  have e0 : Env0 X.prog X.w X.K X.mg X.base A X.stack s H := by
    have e := I.env0
    exact ⟨by rw [sb.fr]; exact e.frames, e.mod, e.bs, e.bsz, e.funs, e.frf, e.hok, e.bare⟩
  have r2 : Vals [V.ref a] [Value.ref a] := .cons rfl .nil
  have hl := F.len _ _ _ _ h
  have b := hb s [.ref a] I.kIn (by simpa using hl)
  rw [List.append_nil] at b
  refine wpAny_call (codeAny_mono (F.run A X.stack s H ⟨[.ref a], []⟩ [.ref a] [.ref a] _ E0 sb.room e0 b r2 h) fun r s' hq => ?_)
  match r, hq with
  | .error _, hq => exact hq.elim
  | .ok .next, hq => exact hq.elim
  | .ok .brk, hq => exact hq.elim
  | .ok .cont, hq => exact hq.elim
  | .ok (.ret u), hq =>
    obtain ⟨z', H', I', rz, t, rfl, h0, h1, q⟩ := I.after hq
    obtain ⟨tk, rfl⟩ := rz
    exact ⟨⟨h0, h1⟩, .int t, H', I'.tok _, ⟨_, rfl⟩, q⟩
theorem call_len_own (hs : PySem.W.findIn X.K (.ref C) "__len__" = some (some (.ref f))) (hf : PySem.W.isFn X.K (.ref f) = true) (F : FnOk X.prog X.w X.K X.mg X.base CX0 n f fd ps sp) (hr : Room (n + 1) X.A) (hb : L2.Binds X.K fd ps []) :
    CallR X (.builtin "len") (fun xs H Q => ∃ a dx fs, xs = [.ref a] ∧ H a = some (.ins C dx fs) ∧ sp [.ref a] H (fun z H' => ∃ t : Int, z = .int t ∧ 0 ≤ t ∧ t < 2 ^ 63 ∧ Q z H') E0) := by
  intro pins s σ H xs us Q I r h
  obtain ⟨a, dx, fs, rfl, ha, h⟩ := h
  rw [Vals.ref1 r]
  obtain ⟨mA, J, _⟩ := ins_get I.hok ha
  obtain ⟨od, J, _⟩ := J.look
  obtain ⟨m, hF⟩ := I.fr
  exact PySem.W.len_K hF I.ok.mod.kin J hs hf (run_len F ⟨hr.in1, rfl⟩ hb I h)
end
/-! ### an own thing made within a try -/
end LT
set_option Elab.async false
set_option linter.all false
set_option maxRecDepth 100000
set_option maxHeartbeats 1600000
set_option pp.maxSteps 700
/-! Own layer: repr of a tuple of three things, among them lists and tuples of things, and dicts. -/
namespace LT
open PySem PySem.Spec PyProof.Rows L2 NdefX
/-- a thing within a list -/
def Tn (H : Hp) (v : V) (d : PyData) : Prop := Th H v d ∧ d.hasDict = false
theorem Tn.mono {H H' : Hp} {v : V} {d : PyData} (h : Tn H v d) (s : Same H H') : Tn H' v d := ⟨h.1.mono s, h.2⟩
theorem Tn.dp {K : PySem.W.Frag} {H : Hp} {v : V} {d : PyData} (h : Tn H v d) : Dp K H v d := by
  cases h.1.sd (K := K) with
  | dp q _ => exact q
  | ed e => exact absurd h.2 (by simp [PyData.hasDict])
theorem Paired.map {α β : Type} {R S : α → β → Prop} (f : ∀ a b, R a b → S a b) : ∀ {xs : List α} {ys : List β}, Paired R xs ys → Paired S xs ys
  | _, _, .nil => .nil
  | _, _, .cons h r => .cons (f _ _ h) (Paired.map f r)
theorem tn_all {K : PySem.W.Frag} {H : Hp} : ∀ {vs : List V} {ds : List PyData}, Paired (Tn H) vs ds → DpAll K H vs ds
  | _, _, .nil => .nil
  | _, _, .cons h r => .cons h.dp (tn_all r)
theorem tn_no {H : Hp} : ∀ {vs : List V} {ds : List PyData}, Paired (Tn H) vs ds → PyData.hasDictAll ds = false
  | _, _, .nil => by simp [PyData.hasDictAll]
  | _, _, .cons h r => by simp [PyData.hasDictAll, h.2, tn_no r]
theorem tn_fit {H : Hp} : ∀ {vs : List V} {ds : List PyData}, Paired (Tn H) vs ds → PyData.showableAll ds = true ∧ PyData.depthAll ds ≤ 1 ∧ ((PyData.shownAll ds).map (·.length)).sum ≤ 1921 * vs.length ∧ (PyData.shownAll ds).length = vs.length
  | _, _, .nil => ⟨by simp [PyData.showableAll], by simp [PyData.depthAll], by simp [PyData.shownAll], by simp [PyData.shownAll]⟩
  | _, _, .cons h r => by
    obtain ⟨a, b, c⟩ := h.1.fit
    obtain ⟨a', b', c', d'⟩ := tn_fit r
    refine ⟨by simp [PyData.showableAll, a, a'], ?_, ?_, ?_⟩
    · simp only [PyData.depthAll]
      omega
    · simp only [PyData.shownAll, List.map_cons, List.sum_cons, List.length_cons]
      omega
    · simp only [PyData.shownAll, List.length_cons, d']
/-- what is handed to a round -/
inductive Sx (H : Hp) : V → PyData → Prop
  | th {v : V} {d : PyData} : Th H v d → Sx H v d
  | lst {a : Addr} {xs : List V} {ds : List PyData} : H a = some (.lst xs) → xs.length ≤ 100 → Paired (Tn H) xs ds → Sx H (.ref a) (.list ds)
  | tup {a : Addr} {xs : List V} {ds : List PyData} : H a = some (.tup xs) → xs.length ≤ 100 → Paired (Tn H) xs ds → Sx H (.ref a) (.tuple ds)
  | zz {a : Addr} : H a = some (.dK [(.inl 0, .int 0)]) → Sx H (.ref a) (.dict [(.int 0, .int 0)])
theorem Sx.mono {H H' : Hp} {v : V} {d : PyData} (h : Sx H v d) (s : Same H H') : Sx H' v d := by
  cases h with
  | th h => exact .th (h.mono s)
  | lst e l p => exact .lst (s _ _ e) l (Paired.map (fun _ _ h => h.mono s) p)
  | tup e l p => exact .tup (s _ _ e) l (Paired.map (fun _ _ h => h.mono s) p)
  | zz e => exact .zz (s _ _ e)
theorem Sx.fit {H : Hp} {v : V} {d : PyData} (h : Sx H v d) : d.showable = true ∧ d.depth ≤ 2 ∧ d.shown.length ≤ 200000 := by
  cases h with
  | th h =>
    obtain ⟨a, b, c⟩ := h.fit
    exact ⟨a, by omega, by omega⟩
  | lst e l p =>
    rename_i xs ds
    obtain ⟨a, b, c, d⟩ := tn_fit p
    refine ⟨by simpa [PyData.showable] using a, by simp only [PyData.depth]; omega, ?_⟩
    have := listText_len_le (PyData.shownAll ds)
    simp only [PyData.shown]
    omega
  | tup e l p =>
    rename_i xs ds
    obtain ⟨a, b, c, d⟩ := tn_fit p
    refine ⟨by simpa [PyData.showable] using a, by simp only [PyData.depth]; omega, ?_⟩
    have := tupleText_len_le (PyData.shownAll ds)
    simp only [PyData.shown]
    omega
  | zz e => exact ⟨by decide +kernel, by decide +kernel, by decide +kernel⟩
section
variable {X : Cx} {pins : List (Addr × Obj)} {σ : L2.St} {H : Hp} {s : Shared}
theorem Sx.reads (I : Inv X pins σ H s) {v : V} {d : PyData} {u : Value} (h : Sx H v d) (r : RelV v u) :
    ∃ as, Reads s.heap u d as ∧ (d.hasDict = true → sysModules ∉ as) := by
  cases h with
  | th h => exact (h.sd (K := X.K)).reads I r
  | lst e l p =>
    have hd : Dp X.K H _ _ := .lst (SqL.of e) (tn_all p)
    obtain ⟨as, q⟩ := Dp.reads I _ _ u hd r
    exact ⟨as, q, PyData.noDict_hsm (by simpa [PyData.hasDict] using tn_no p)⟩
  | tup e l p =>
    have hd : Dp X.K H _ _ := .tup (SqT.of e) (tn_all p)
    obtain ⟨as, q⟩ := Dp.reads I _ _ u hd r
    exact ⟨as, q, PyData.noDict_hsm (by simpa [PyData.hasDict] using tn_no p)⟩
  | zz h =>
    rename_i a
    cases r
    obtain ⟨_, hs, vs, rel, o, es, ep, ho, hx, hd, hko, hp, hn⟩ := I.hok a _ h
    cases rel with
    | cons r1 r2 =>
      cases r2
      rename_i kv
      obtain ⟨kk, uu⟩ := kv
      obtain ⟨e1, t, e2⟩ := r1
      cases e1
      cases e2
      generalize hes : es.toList = l at hp
      cases hp with
      | cons k1 k2 k3 =>
        cases k3
        rename_i e
        have k0 : keyIs (Sum.inl 0) e.key = true := k1
        obtain ⟨y, t', z, e3⟩ | ⟨_, _, z, _⟩ := keyIs_shape k0
        · cases z
          refine ⟨_, Reads.dict (as := []) (bs := []) ho hx.1 hd ?_ ?_, fun _ z => ?_⟩
          · rw [hes, List.map_cons, List.map_nil, e3]
            exact ReadsAll.cons (Reads.int _ _) .nil
          · rw [hes, List.map_cons, List.map_nil, k2]
            exact ReadsAll.cons (Reads.int _ _) .nil
          · have z2 : sysModules = a := by simpa using z
            rw [z2] at hs
            simp at hs
        · cases z
theorem Sx.all (I : Inv X pins σ H s) : ∀ {vs : List V} {ds : List PyData} {us : List Value}, Paired (Sx H) vs ds → Vals vs us →
    ∃ as bs, ReadsAll s.heap us ds as ∧ ReadAtMost s.heap (PyData.depthAll ds) bs ∧ ReprAllK X.prog X.w bs s.heap (PyData.depthAll ds) us (PyData.shownAll ds)
  | _, _, _, .nil, r => by
    cases r
    exact ⟨_, [], .nil, (fun _ h => nomatch h), by simp only [PyData.shownAll]; exact .nil⟩
  | _ :: _, d :: ds, _, .cons h hs, r => by
    cases r with
    | cons r1 r2 =>
      obtain ⟨f1, f2, f3⟩ := h.fit
      obtain ⟨as, q1, n1⟩ := h.reads I r1
      obtain ⟨b1, hb1, k1⟩ := ReprK.of_reads (prog := X.prog) (w := X.w) q1 f1 n1 (by rw [sizeLine_eq]; omega)
      obtain ⟨bs, b2, q2, hb2, k2⟩ := Sx.all I hs r2
      refine ⟨_, b1 ++ b2, .cons q1 q2, ?_, ?_⟩
      · simp only [PyData.depthAll]
        exact (hb1.mono (Nat.le_max_left _ _)).append (hb2.mono (Nat.le_max_right _ _))
      · simp only [PyData.depthAll, PyData.shownAll]
        exact .cons ((k1.more fun b hb => List.mem_append_left _ hb).level_le (Nat.le_max_left _ _)) (k2.more_le (fun b hb => List.mem_append_right _ hb) (Nat.le_max_right _ _))
end
end LT
set_option Elab.async false
set_option linter.all false
set_option maxRecDepth 100000
set_option maxHeartbeats 1600000
/-! Own layer: what the top of a program has left, put by name, for any law (tools/g.py writes the list of it). -/
namespace LT
open PySem PySem.Spec PyProof.Rows L2 NdefX
/-- an own class -/
structure ClF (K : PySem.W.Frag) (mg : Str → Option Value) (x : Str) (C : Addr) : Prop where
  cl : Cls K C
  gl : mg x = some (.ref C)
  kp : PySem.W.keepIn K (.ref C) = true
/-- isinstance of an own thing -/
structure IsC (K : PySem.W.Frag) (C : Addr) : Prop where
  ha : PySem.W.findIn K (.ref C) "__class__" = some (some (.builtin "object.__class__"))
  hn : PySem.W.specialIn K (.builtin "object.__class__") "__get__" = some (some (.builtin "getset_descriptor.__get__"))
  ht : PySem.W.takesIn K (.builtin "object.__class__") = some true
  hm : PySem.W.mroIn K C (.type "object") = some true
  own : PySem.W.kitOne K (.ref C) (.ref C) = some true
  bt : ∀ T ∈ ["NoneType", "bool", "int", "str", "list", "tuple", "dict"], PySem.W.kitOne K (.type T) (.ref C) = some false
theorem Odd.kit {K : PySem.W.Frag} {C : Addr} {H : Hp} {v : V} (h : Odd H v) (Q : IsC K C) : ∃ t, TyX K H v t ∧ PySem.W.kitOne K t (.ref C) = some false := by
  cases h with
  | non => exact ⟨_, .base .non, Q.bt _ (by decide)⟩
  | bl b => exact ⟨_, .base (.bl b), Q.bt _ (by decide)⟩
  | int i => exact ⟨_, .base (.int i), Q.bt _ (by decide)⟩
  | str z => exact ⟨_, .base (.str z), Q.bt _ (by decide)⟩
  | lst e => exact ⟨_, .base (.lst e), Q.bt _ (by decide)⟩
  | tup e => exact ⟨_, .base (.tup e), Q.bt _ (by decide)⟩
  | dK e => exact ⟨_, .base (.dK e), Q.bt _ (by decide)⟩
theorem kit_self {K : PySem.W.Frag} {a : Addr} : PySem.W.kitOne K (.ref a) (.ref a) = some true := if_pos (c := ((Value.ref a) == (Value.ref a)) = true) (beq_self_eq_true (Value.ref a))
theorem cls_of {K : PySem.W.Frag} {t : Value} {C : Addr} {b : Bool} (i : PySem.W.isClsIn K C = true) (ty : PySem.W.typeIn K (.ref C) = some (.type "type")) (s : PySem.W.subIn K t (.ref C) = some b) : PySem.W.kitCls K t (.ref C) = some b := by
  have i' : (PySem.W.clsIn K C).isSome = true := i
  show (if ((PySem.W.clsIn K C).isSome && PySem.W.typeIn K (.ref C) == some (.type "type")) = true then PySem.W.subIn K t (.ref C) else none) = some b
  rw [i', ty]
  exact s
theorem kit_no {K : PySem.W.Frag} {t : Value} {C : Addr} (i : PySem.W.isClsIn K C = true) (ty : PySem.W.typeIn K (.ref C) = some (.type "type")) (s : PySem.W.subIn K t (.ref C) = some false) (q : (t == .ref C) = false) : PySem.W.kitOne K t (.ref C) = some false := by
  unfold PySem.W.kitOne
  rw [q]
  exact cls_of i ty s
/-! ### what the top has left -/
structure Left (K : PySem.W.Frag) (x : Str) (st : Stmt) (f : Addr) (oc : Value) (od an : Option Addr) (kV dc pm cd ct : Value) (sl : Array (Option Value)) : Prop where
  ns : PySem.W.nsIn K mainGlobals x = some (some (.ref f))
  lk : K.lookup f = some ⟨oc, od, .func (PySem.W.fnOf x x (defArgs st) (defBody st) (defScope st) .none kV dc pm an cd ct), sl⟩
  cd : PySem.W.codeIn K cd x = true
  kp : PySem.W.keepIn K (.ref f) = true
theorem Left.fn {K : PySem.W.Frag} {x : Str} {st : Stmt} {f : Addr} {oc : Value} {od an : Option Addr} {kV dc pm cd ct : Value} {sl : Array (Option Value)} (h : Left K x st f oc od an kV dc pm cd ct sl) :
    Fun K x x st f (PySem.W.fnOf x x (defArgs st) (defBody st) (defScope st) .none kV dc pm an cd ct) := fun_mk h.lk h.cd h.kp
structure LeftM (K : PySem.W.Frag) (C : Addr) (x q : Str) (st : Stmt) (f : Addr) (oc : Value) (od an : Option Addr) (kV dc pm cd ct : Value) (sl : Array (Option Value)) : Prop where
  at_ : PySem.W.findIn K (.ref C) x = some (some (.ref f))
  lk : K.lookup f = some ⟨oc, od, .func (PySem.W.fnOf x q (defArgs st) (defBody st) (defScope st) .none kV dc pm an cd ct), sl⟩
  cd : PySem.W.codeIn K cd q = true
  kp : PySem.W.keepIn K (.ref f) = true
  isf : PySem.W.isFn K (.ref f) = true
theorem LeftM.fn {K : PySem.W.Frag} {C : Addr} {x q : Str} {st : Stmt} {f : Addr} {oc : Value} {od an : Option Addr} {kV dc pm cd ct : Value} {sl : Array (Option Value)} (h : LeftM K C x q st f oc od an kV dc pm cd ct sl) :
    Fun K x q st f (PySem.W.fnOf x q (defArgs st) (defBody st) (defScope st) .none kV dc pm an cd ct) := fun_mk h.lk h.cd h.kp
theorem LeftM.me {K : PySem.W.Frag} {C : Addr} {x q : Str} {st : Stmt} {f : Addr} {oc : Value} {od an : Option Addr} {kV dc pm cd ct : Value} {sl : Array (Option Value)} (h : LeftM K C x q st f oc od an kV dc pm cd ct sl) :
    Meth K C x f := ⟨h.at_, h.isf, h.kp⟩
/-- a method with defaults -/
structure LeftMD (K : PySem.W.Frag) (C : Addr) (x q : Str) (st : Stmt) (va : Array Value) (f T : Addr) (oc : Value) (od an : Option Addr) (kV dc pm cd ct : Value) (sl : Array (Option Value)) (oT : Value) (dT : Option Addr) (nT : Nat) (sT : Array (Option Value)) : Prop where
  at_ : PySem.W.findIn K (.ref C) x = some (some (.ref f))
  lk : K.lookup f = some ⟨oc, od, .func (PySem.W.fnOf x q (defArgs st) (defBody st) (defScope st) (.ref T) kV dc pm an cd ct), sl⟩
  cd : PySem.W.codeIn K cd q = true
  kp : PySem.W.keepIn K (.ref f) = true
  isf : PySem.W.isFn K (.ref f) = true
  lT : K.lookup T = some ⟨oT, dT, .seq va nT, sT⟩
end LT
set_option Elab.async false
set_option linter.all false
set_option maxRecDepth 100000
set_option maxHeartbeats 1600000
/-! Own layer: x != y, x an own thing with __eq__, y any thing. -/
namespace LT
open PySem PySem.Spec PyProof.Rows L2 NdefX
section
variable {X : Cx} {C f : Addr} {fd : FuncData} {ps : List Str} {sp : Sp} {n : Nat}
theorem beside_ty {pins : List (Addr × Obj)} {σ : L2.St} {H : Hp} {s : Shared} {v : V} {u : Value} (I : Inv X pins σ H s) (r : RelV v u) (hv : Beside X.K C H v) : ∃ t, PySem.W.Looks (model X.prog X.w) s.heap (typeOf u) t ∧ PySem.W.notFirst X.K C t = true := by
  have nt : ∀ T : String, (PySem.W.subIn X.K (.type T) (.ref C) == some false) = true → PySem.W.notFirst X.K C (.type T) = true := fun T e => by
    unfold PySem.W.notFirst
    rw [e, Bool.or_true]
  cases hv with
  | non => obtain ⟨P, Z, p, _⟩ := kit_of I r (.base .non); exact ⟨_, Z.ty _ _ I.kIn p, nt _ (by rfl)⟩
  | bl b => obtain ⟨P, Z, p, _⟩ := kit_of I r (.base (.bl b)); exact ⟨_, Z.ty _ _ I.kIn p, nt _ (by rfl)⟩
  | int i => obtain ⟨P, Z, p, _⟩ := kit_of I r (.base (.int i)); exact ⟨_, Z.ty _ _ I.kIn p, nt _ (by rfl)⟩
  | str z => obtain ⟨P, Z, p, _⟩ := kit_of I r (.base (.str z)); exact ⟨_, Z.ty _ _ I.kIn p, nt _ (by rfl)⟩
  | lst e => obtain ⟨P, Z, p, _⟩ := kit_of I r (.base (.lst e)); exact ⟨_, Z.ty _ _ I.kIn p, nt _ (by rfl)⟩
  | tup e => obtain ⟨P, Z, p, _⟩ := kit_of I r (.base (.tup e)); exact ⟨_, Z.ty _ _ I.kIn p, nt _ (by rfl)⟩
  | ins e =>
    cases r
    obtain ⟨mB, J', _⟩ := ins_get I.hok e
    obtain ⟨od', J', _⟩ := J'.look
    exact ⟨_, J'.type, by simp [PySem.W.notFirst]⟩
end
end LT
set_option Elab.async false
set_option linter.all false
set_option maxRecDepth 100000
set_option maxHeartbeats 1600000
/-! Own layer: slices as take and drop. -/
namespace LT
open PySem PySem.Spec PyProof.Rows L2 NdefX
theorem sIx_pos {n d : Nat} {i : Int} (h : 0 ≤ i) : HT.sIx n d (some i) = min i.toNat n := by
  show (if i < 0 then (i + (n : Int)).toNat else min i.toNat n) = min i.toNat n
  rw [if_neg (by omega)]
end LT
set_option Elab.async false
set_option linter.all false
set_option maxRecDepth 100000
set_option maxHeartbeats 1600000
/-! Own layer: dicts as lists of pairs of keys and worths of any kind; walks over locked dicts. -/
namespace LT
open PySem PySem.Spec PyProof.Rows L2 NdefX
section
variable {κ α : Type} [DecidableEq κ]
def getA (kvs : List (κ × α)) (k : κ) : Option α := (kvs.find? fun p => decide (p.1 = k)).map (·.2)
def putA (kvs : List (κ × α)) (k : κ) (v : α) : List (κ × α) := if (kvs.any fun p => decide (p.1 = k)) = true then kvs.map (fun p => if p.1 = k then (p.1, v) else p) else kvs ++ [(k, v)]
def enA (g : κ → Key) (f : α → V) (kvs : List (κ × α)) : List (Key × V) := kvs.map fun p => (g p.1, f p.2)
theorem enA_len (g : κ → Key) (f : α → V) (kvs : List (κ × α)) : (enA g f kvs).length = kvs.length := List.length_map ..
theorem getA_nil {k : κ} : getA ([] : List (κ × α)) k = none := rfl
theorem getA_pos {p : κ × α} {r : List (κ × α)} {k : κ} (e : p.1 = k) : getA (p :: r) k = some p.2 := by simp [getA, List.find?_cons, e]
theorem getA_neg {p : κ × α} {r : List (κ × α)} {k : κ} (e : ¬ p.1 = k) : getA (p :: r) k = getA r k := by simp [getA, List.find?_cons, e]
theorem getA_any (k : κ) : ∀ kvs : List (κ × α), (kvs.any fun p => decide (p.1 = k)) = (getA kvs k).isSome
  | [] => rfl
  | p :: r => by
    rw [List.any_cons]
    by_cases e : p.1 = k
    · rw [decide_eq_true e, getA_pos e]; rfl
    · rw [decide_eq_false e, getA_neg e, getA_any k r]; rfl
theorem getA_none_iff {k : κ} : ∀ {kvs : List (κ × α)}, getA kvs k = none ↔ k ∉ kvs.map (·.1)
  | [] => by simp [getA_nil]
  | p :: r => by
    by_cases e : p.1 = k
    · rw [getA_pos e]; simp [e]
    · rw [getA_neg e, getA_none_iff, List.map_cons, List.mem_cons]
      constructor
      · intro h h2
        rcases h2 with rfl | h2
        · exact e rfl
        · exact h h2
      · exact fun h h2 => h (.inr h2)
theorem getA_mem {k : κ} {v : α} : ∀ {kvs : List (κ × α)}, getA kvs k = some v → (k, v) ∈ kvs
  | [], h => nomatch h
  | p :: r, h => by
    by_cases e : p.1 = k
    · rw [getA_pos e] at h
      cases h
      subst e
      exact List.mem_cons_self
    · rw [getA_neg e] at h
      exact List.mem_cons_of_mem _ (getA_mem h)
theorem getA_of_mem {k : κ} {v : α} : ∀ {kvs : List (κ × α)}, (kvs.map (·.1)).Nodup → (k, v) ∈ kvs → getA kvs k = some v
  | [], _, h => nomatch h
  | p :: r, nd, h => by
    rw [List.map_cons, List.nodup_cons] at nd
    rcases List.mem_cons.mp h with rfl | h
    · exact getA_pos rfl
    · rw [getA_neg (fun e => nd.1 (e ▸ List.mem_map.mpr ⟨_, h, rfl⟩))]
      exact getA_of_mem nd.2 h
theorem val_en {g : κ → Key} {f : α → V} (hg : ∀ a b, g a = g b → a = b) (k : κ) : ∀ kvs : List (κ × α), valV (enA g f kvs) (g k) = (getA kvs k).map f
  | [] => rfl
  | p :: r => by
    show valV ((g p.1, f p.2) :: enA g f r) (g k) = _
    by_cases e : p.1 = k
    · rw [valV_pos (by rw [e]), getA_pos e]; rfl
    · rw [valV_neg (fun z => e (hg _ _ z)), getA_neg e, val_en hg k r]
theorem put_en {g : κ → Key} {f : α → V} (hg : ∀ a b, g a = g b → a = b) (kvs : List (κ × α)) (k : κ) (v : α) : putK (enA g f kvs) (g k) (f v) = enA g f (putA kvs k v) := by
  have e : ((enA g f kvs).any fun kv => decide (kv.1 = g k)) = (kvs.any fun p => decide (p.1 = k)) := by
    rw [valV_any, val_en hg, getA_any]
    cases getA kvs k <;> rfl
  unfold putK putA
  rw [e]
  split
  · unfold enA
    rw [List.map_map, List.map_map]
    refine List.map_congr_left fun p _ => ?_
    show (if g p.1 = g k then (g p.1, f v) else (g p.1, f p.2)) = (g (if p.1 = k then (p.1, v) else p).1, f (if p.1 = k then (p.1, v) else p).2)
    by_cases h : p.1 = k
    · rw [if_pos (by rw [h]), if_pos h]
    · rw [if_neg (fun z => h (hg _ _ z)), if_neg h]
  · unfold enA
    rw [List.map_append]
    rfl
theorem putA_new {kvs : List (κ × α)} {k : κ} {v : α} (h : getA kvs k = none) : putA kvs k v = kvs ++ [(k, v)] := by
  unfold putA
  rw [getA_any, h]
  rfl
theorem getA_app {k : κ} : ∀ {q rs : List (κ × α)}, k ∉ q.map (·.1) → getA (q ++ rs) k = getA rs k
  | [], _, _ => rfl
  | p :: q, rs, h => by
    rw [List.map_cons, List.mem_cons, not_or] at h
    rw [List.cons_append, getA_neg (fun e => h.1 e.symm), getA_app h.2]
theorem getA_map (k j : κ) (y : α) : ∀ kvs : List (κ × α), getA (kvs.map fun p => if p.1 = k then (p.1, y) else p) j = (getA kvs j).map fun x => if j = k then y else x
  | [] => rfl
  | p :: r => by
    rw [List.map_cons]
    by_cases e : p.1 = k
    · rw [if_pos e]
      by_cases h : p.1 = j
      · rw [getA_pos (p := (p.1, y)) h, getA_pos h, Option.map_some, if_pos (by rw [← h, e])]
      · rw [getA_neg (p := (p.1, y)) h, getA_neg h, getA_map k j y r]
    · rw [if_neg e]
      by_cases h : p.1 = j
      · rw [getA_pos h, getA_pos h, Option.map_some, if_neg (fun z => e (h.trans z))]
      · rw [getA_neg h, getA_neg h, getA_map k j y r]
theorem getA_put (kvs : List (κ × α)) (k j : κ) (y : α) : getA (putA kvs k y) j = if j = k then some y else getA kvs j := by
  by_cases h : getA kvs k = none
  · rw [putA_new h]
    by_cases e : j = k
    · rw [if_pos e, e, getA_app (getA_none_iff.mp h), getA_pos rfl]
    · rw [if_neg e]
      by_cases hj : getA kvs j = none
      · rw [getA_app (getA_none_iff.mp hj), getA_neg (fun z => e z.symm), hj]; rfl
      · obtain ⟨v, hv⟩ := Option.ne_none_iff_exists'.mp hj
        rw [hv]
        clear h hj
        induction kvs with
        | nil => cases hv
        | cons p r ih =>
          by_cases hp : p.1 = j
          · rw [getA_pos hp] at hv
            rw [List.cons_append, getA_pos hp, hv]
          · rw [getA_neg hp] at hv
            rw [List.cons_append, getA_neg hp, ih hv]
  · obtain ⟨v, hv⟩ := Option.ne_none_iff_exists'.mp h
    unfold putA
    rw [getA_any, hv]
    simp only [Option.isSome_some, if_true]
    rw [getA_map]
    by_cases e : j = k
    · rw [if_pos e, e, hv]; simp
    · rw [if_neg e]
      cases getA kvs j <;> simp [e]
theorem keys_put {kvs : List (κ × α)} {k : κ} {v : α} : (putA kvs k v).map (·.1) = if k ∈ kvs.map (·.1) then kvs.map (·.1) else kvs.map (·.1) ++ [k] := by
  by_cases h : k ∈ kvs.map (·.1)
  · rw [if_pos h]
    unfold putA
    rw [if_pos]
    · rw [List.map_map]
      refine List.map_congr_left fun p _ => ?_
      show (if p.1 = k then (p.1, v) else p).1 = p.1
      split <;> rfl
    · obtain ⟨p, hp, rfl⟩ := List.mem_map.mp h
      exact List.any_eq_true.mpr ⟨p, hp, decide_eq_true rfl⟩
  · rw [if_neg h, putA_new (getA_none_iff.mpr h), List.map_append]
    rfl
theorem nodup_put {kvs : List (κ × α)} {k : κ} {v : α} (h : (kvs.map (·.1)).Nodup) : ((putA kvs k v).map (·.1)).Nodup := by
  rw [keys_put]
  split
  · exact h
  · rename_i hk
    rw [List.nodup_append]
    refine ⟨h, List.nodup_cons.mpr ⟨nofun, List.nodup_nil⟩, fun a ha b hb => ?_⟩
    rw [List.mem_singleton.mp hb]
    rintro rfl
    exact hk ha
theorem putA_len {kvs : List (κ × α)} {k : κ} {v : α} : (putA kvs k v).length ≤ kvs.length + 1 := by
  unfold putA
  split
  · rw [List.length_map]; omega
  · rw [List.length_append]; exact Nat.le_refl _
theorem mem_put {kvs : List (κ × α)} {k : κ} {v : α} {p : κ × α} (h : p ∈ putA kvs k v) : p = (k, v) ∨ p ∈ kvs := by
  unfold putA at h
  split at h
  · obtain ⟨q, hq, rfl⟩ := List.mem_map.mp h
    by_cases e : q.1 = k
    · rw [if_pos e]; exact .inl (by rw [e])
    · rw [if_neg e]; exact .inr hq
  · rcases List.mem_append.mp h with h | h
    · exact .inr h
    · exact .inl (List.mem_singleton.mp h)
end
theorem inr_inj : ∀ a b : Str, (Sum.inr a : Key) = Sum.inr b → a = b := fun _ _ e => Sum.inr.inj e
theorem inl_inj : ∀ a b : Int, (Sum.inl a : Key) = Sum.inl b → a = b := fun _ _ e => Sum.inl.inj e
/-- a statement that lets nothing out -/
theorem PS.nox {X : Cx} {st : Stmt} {t : TS} (h : PS X.nox st t) : PS X st t := ⟨fun pins s σ H D I hw =>
  wpAny_mono (h.run pins s σ H D (I.wish _) hw) (fun _ _ q => q.unwish) fun _ _ z => False.elim z⟩
/-- two ways joined -/
theorem joinA {α : Type} {J : α → Hp → Prop} {sl : α → L2.St} {rest : L2.St → Hp → Prop} {goal : Prop} (k : (∀ a Hx, J a Hx → rest (sl a) Hx) → goal) (h : ∀ a Hx, J a Hx → rest (sl a) Hx) : goal := k h
/-! ### walks over locked dicts -/
theorem lock_back {H Hx : Hp} {d : Addr} {u : HO} {od : Obj} (hd : H d = some u) (s : Same (upd H d (.frz od u)) Hx) : Same H (upd Hx d u) := fun b o e => by
  by_cases hb : b = d
  · subst hb
    rw [upd_same, ← e, hd]
  · rw [upd_ne hb]
    exact s _ _ (by rw [upd_ne hb]; exact e)
end LT
set_option Elab.async false
set_option linter.all false
set_option maxRecDepth 100000
set_option maxHeartbeats 1600000
/-! Own layer: sum(d.values()); names; stores (a dict from names to weights). -/
namespace LT
open PySem PySem.Spec PyProof.Rows L2 NdefX
/-! ### sum(d.values()) -/
/-! ### names -/
def small (c : Nat) : Bool := decide (97 ≤ c) && decide (c ≤ 122)
def nameB : V → Bool
  | .str z => decide (1 ≤ z.length) && decide (z.length ≤ 8) && z.cps.toList.all small
  | _ => false
theorem letters : (Str.ofString "abcdefghijklmnopqrstuvwxyz").cps.toList = List.range' 97 26 := by decide +kernel
theorem small_mem (c : Nat) : decide (c ∈ (Str.ofString "abcdefghijklmnopqrstuvwxyz").cps.toList) = small c := by
  rw [letters]
  unfold small
  rw [Bool.eq_iff_iff, decide_eq_true_iff, List.mem_range'_1, Bool.and_eq_true, decide_eq_true_iff, decide_eq_true_iff]
  omega
theorem take_more {α β : Type} (f : α → β) {xs : List α} {i : Nat} {x : α} (h : xs[i]? = some x) : (xs.take i).map f ++ [f x] = (xs.take (i + 1)).map f := by
  rw [List.take_add_one, h, List.map_append]
  rfl
theorem joinL_nil : ∀ l : List (List Nat), TL.joinL [] l = l.flatten
  | [] => rfl
  | [p] => by simp [TL.joinL]
  | p :: q :: r => by
    show p ++ ([] ++ TL.joinL [] (q :: r)) = _
    rw [joinL_nil (q :: r)]
    rfl
theorem join_codes (ys : List Str) : (Txt.join (Str.ofString "") ys).cps.toList = (ys.map fun y => y.cps.toList).flatten := by
  rw [TL.join_eq]
  have h := TL.tl_join (Str.ofString "") ys
  have e : TL.tl (Str.ofString "") = [] := by decide +kernel
  rw [e, joinL_nil] at h
  exact h
theorem flat_len : ∀ (ys : List Str), (∀ y ∈ ys, y.length = 1) → (ys.map fun y => y.cps.toList).flatten.length = ys.length
  | [], _ => rfl
  | y :: ys, h => by
    rw [List.map_cons, List.flatten_cons, List.length_append, flat_len ys fun z hz => h z (List.mem_cons_of_mem _ hz), Array.length_toList, List.length_cons]
    have : y.cps.size = 1 := h y List.mem_cons_self
    omega
theorem sum_len : ∀ (ys : List Str), (∀ y ∈ ys, y.length = 1) → (ys.map fun y => y.length).sum = ys.length
  | [], _ => rfl
  | y :: ys, h => by
    rw [List.map_cons, List.sum_cons, sum_len ys fun z hz => h z (List.mem_cons_of_mem _ hz), h y List.mem_cons_self, List.length_cons]
    omega
/-- a name -/
structure Nm (z : Str) : Prop where
  l1 : 1 ≤ z.length
  l8 : z.length ≤ 8
  al : ∀ c ∈ z.cps.toList, small c = true
theorem Nm.b {z : Str} (h : Nm z) : nameB (.str z) = true := by
  show (decide (1 ≤ z.length) && decide (z.length ≤ 8) && z.cps.toList.all small) = true
  rw [decide_eq_true h.l1, decide_eq_true h.l8, List.all_eq_true.mpr h.al]
  rfl
/-! ### stores -/
def sd (kvs : List (Str × Int)) : List (Key × V) := kvs.map fun p => (Sum.inr p.1, V.int p.2)
def wsum (kvs : List (Str × Int)) : Int := (kvs.map (·.2)).sum
structure Kv (kvs : List (Str × Int)) : Prop where
  nd : (kvs.map (·.1)).Nodup
  nm : ∀ p ∈ kvs, Nm p.1
  w1 : ∀ p ∈ kvs, 1 ≤ p.2
  w2 : ∀ p ∈ kvs, p.2 ≤ 10 ^ 70
theorem sd_keys (kvs : List (Str × Int)) : (sd kvs).map (·.1) = (kvs.map (·.1)).map Sum.inr := by
  unfold sd
  rw [List.map_map, List.map_map]
  rfl
theorem sd_len (kvs : List (Str × Int)) : (sd kvs).length = kvs.length := List.length_map ..
def putS (kvs : List (Str × Int)) (z : Str) (w : Int) : List (Str × Int) := if z ∈ kvs.map (·.1) then kvs.map fun p => if p.1 = z then (p.1, w) else p else kvs ++ [(z, w)]
theorem put_sd (kvs : List (Str × Int)) (z : Str) (w : Int) : putK (sd kvs) (Sum.inr z) (V.int w) = sd (putS kvs z w) := by
  have e : ((sd kvs).any fun kv => decide (kv.1 = (Sum.inr z : Key))) = decide (z ∈ kvs.map (·.1)) := by
    rw [Bool.eq_iff_iff, List.any_eq_true, decide_eq_true_iff]
    unfold sd
    constructor
    · rintro ⟨kv, hkv, hk⟩
      obtain ⟨p, hp, rfl⟩ := List.mem_map.mp hkv
      have := of_decide_eq_true hk
      exact List.mem_map.mpr ⟨p, hp, Sum.inr.inj this⟩
    · intro h
      obtain ⟨p, hp, rfl⟩ := List.mem_map.mp h
      exact ⟨_, List.mem_map.mpr ⟨p, hp, rfl⟩, decide_eq_true rfl⟩
  unfold putK putS
  rw [e]
  by_cases h : z ∈ kvs.map (·.1)
  · rw [decide_eq_true h, if_pos rfl, if_pos h]
    unfold sd
    rw [List.map_map, List.map_map]
    refine List.map_congr_left fun p hp => ?_
    show (if (Sum.inr p.1 : Key) = Sum.inr z then _ else _) = _
    by_cases hz : p.1 = z
    · rw [if_pos (by rw [hz])]
      show _ = ((Sum.inr (if p.1 = z then (p.1, w) else p).1 : Key), V.int (if p.1 = z then (p.1, w) else p).2)
      rw [if_pos hz]
    · rw [if_neg (fun e => hz (Sum.inr.inj e))]
      show _ = ((Sum.inr (if p.1 = z then (p.1, w) else p).1 : Key), V.int (if p.1 = z then (p.1, w) else p).2)
      rw [if_neg hz]
  · rw [decide_eq_false h, if_neg Bool.false_ne_true, if_neg h]
    unfold sd
    rw [List.map_append]
    rfl
theorem Kv.nil : Kv [] := ⟨List.nodup_nil, (fun _ h => nomatch h), (fun _ h => nomatch h), (fun _ h => nomatch h)⟩
theorem wsum_nonneg : ∀ {kvs : List (Str × Int)}, (∀ p ∈ kvs, 1 ≤ p.2) → 0 ≤ wsum kvs
  | [], _ => Int.le_refl _
  | p :: r, h => by
    have := wsum_nonneg (kvs := r) fun q hq => h q (List.mem_cons_of_mem _ hq)
    have := h p List.mem_cons_self
    unfold wsum at *
    rw [List.map_cons, List.sum_cons]
    omega
theorem wsum_le : ∀ {kvs : List (Str × Int)}, (∀ p ∈ kvs, p.2 ≤ 10 ^ 70) → wsum kvs ≤ kvs.length * 10 ^ 70
  | [], _ => Int.le_refl _
  | p :: r, h => by
    have := wsum_le (kvs := r) fun q hq => h q (List.mem_cons_of_mem _ hq)
    have := h p List.mem_cons_self
    unfold wsum at *
    rw [List.map_cons, List.sum_cons, List.length_cons]
    omega
/-- stores, None as none -/
inductive StV (H : Hp) : V → Int → Prop
  | non : StV H .non 0
  | dict {d : Addr} {kvs : List (Str × Int)} : H d = some (.dK (sd kvs)) → Kv kvs → kvs.length ≤ 8 → StV H (.ref d) (wsum kvs)
theorem StV.mono {H H' : Hp} {v : V} {k : Int} (h : StV H v k) (s : Same H H') : StV H' v k := by
  cases h with
  | non => exact .non
  | dict e k l => exact .dict (s _ _ e) k l
theorem StV.bd {H : Hp} {v : V} {k : Int} (h : StV H v k) : 0 ≤ k ∧ k ≤ 10 ^ 71 := by
  cases h with
  | non => exact ⟨by omega, by omega⟩
  | dict e k l =>
    have := wsum_nonneg k.w1
    have := wsum_le k.w2
    constructor
    · omega
    · omega
end LT
set_option Elab.async false
set_option linter.all false
set_option maxRecDepth 100000
set_option maxHeartbeats 1600000
/-! Own layer: comprehensions within comprehensions, dict comprehensions, tables of rows (dicts from letters to numbers). -/
namespace LT
open PySem PySem.Spec PyProof.Rows L2 NdefX
/-! ### comprehensions within comprehensions -/
section
variable {J : It} {n : Nat} {G : Hp → Prop} {Y : Nat → Hp → V → Hp → Prop}
/-- a dict comprehension over a walk -/
theorem dc_it (w : Walk J n G Y) {g : TG} {tt : TT} {tk tv : TE} {vs : List Nat} {σ : L2.St} {H1 : Hp} {D : Addr} {Qd : Hp → Prop} (Pv : Nat → Hp → Prop) (h0 : Pv 0 (upd H1 D (.dK []))) (hG : ∀ i H, i ≤ n → Pv i H → G H)
    (hs : ∀ i x H H', i < n → Pv i H → Y i H x H' → g x (wipe σ vs) H' fun σ2 H2 => wipe σ2 vs = wipe σ vs ∧ tt σ2 H2 fun b H3 =>
      if b = true then tk σ2 H3 fun y H4 => tv σ2 H4 fun z H5 => ∃ kvs k, y = kV k ∧ H5 D = some (.dK kvs) ∧ kvs.length < sizeLine ∧ Pv (i + 1) (upd H5 D (.dK (putK kvs k z))) else Pv (i + 1) H3) (hd : ∀ H, Pv n H → Qd H) :
    ∃ W : Nat → Nat → Hp → Prop, (∃ m, W 0 m (upd H1 D (.dK []))) ∧ ∀ i m H, W i m H →
      (J.stop i H ∧ Qd H) ∨ (J.go i H ∧ ∃ Nx : Hp → Prop, (∀ H', Nx H' → ∃ m', m' < m ∧ W (i + 1) m' H') ∧ ∀ x H', J.yld i H x H' → g x (wipe σ vs) H' fun σ2 H2 => wipe σ2 vs = wipe σ vs ∧ tt σ2 H2 fun b H3 =>
        if b = true then tk σ2 H3 fun y H4 => tv σ2 H4 fun z H5 => ∃ kvs k, y = kV k ∧ H5 D = some (.dK kvs) ∧ kvs.length < sizeLine ∧ Nx (upd H5 D (.dK (putK kvs k z))) else Nx H3) := by
  refine ⟨fun i m H => m = n - i ∧ i ≤ n ∧ Pv i H, ⟨n, by simp, Nat.zero_le _, h0⟩, ?_⟩
  rintro i m H ⟨rfl, hi, p⟩
  have q := hG i H hi p
  by_cases hlt : i < n
  · exact .inr ⟨w.goes i H hlt q, Pv (i + 1), fun H' p' => ⟨n - (i + 1), by omega, rfl, hlt, p'⟩, fun x H' y => hs i x H H' hlt p (w.yields i H x H' hlt q y)⟩
  · have e : i = n := by omega
    subst e
    exact .inl ⟨w.stops H q, hd H p⟩
end
/-! ### rows and tables -/
abbrev KRow := List (Str × Int)
abbrev KTab := List KRow
/-- one small letter -/
def Ltr (z : Str) : Prop := ∃ c, small c = true ∧ z = ⟨#[c]⟩
def letts : List Str := (List.range' 97 26).map fun c => ⟨#[c]⟩
theorem Ltr.mem {z : Str} (h : Ltr z) : z ∈ letts := by
  obtain ⟨c, hc, rfl⟩ := h
  unfold small at hc
  rw [Bool.and_eq_true, decide_eq_true_eq, decide_eq_true_eq] at hc
  refine List.mem_map.mpr ⟨c, ?_, rfl⟩
  rw [List.mem_range'_1]
  omega
theorem letts_few {zs : List Str} (nd : zs.Nodup) (h : ∀ z ∈ zs, Ltr z) : zs.length ≤ 26 := by
  have := List.Nodup.length_le_of_subset nd (fun z hz => (h z hz).mem)
  simpa [letts] using this
structure KRw (n : Nat) (r : KRow) : Prop where
  ne : r ≠ []
  nd : (r.map (·.1)).Nodup
  lt : ∀ p ∈ r, Ltr p.1
  bd : ∀ p ∈ r, 0 ≤ p.2 ∧ p.2 < n
theorem KRw.len {n : Nat} {r : KRow} (h : KRw n r) : r.length ≤ 26 := by
  have := letts_few h.nd (fun z hz => by
    obtain ⟨p, hp, rfl⟩ := List.mem_map.mp hz
    exact h.lt p hp)
  simpa using this
theorem KRw.mono {n m : Nat} {r : KRow} (h : KRw n r) (l : n ≤ m) : KRw m r := ⟨h.ne, h.nd, h.lt, fun p hp => by have := h.bd p hp; omega⟩
theorem KRw.get {n : Nat} {r : KRow} {z : Str} {v : Int} (h : KRw n r) (e : getA r z = some v) : 0 ≤ v ∧ v < n := h.bd _ (getA_mem e)
structure KTb (t : KTab) : Prop where
  l1 : 1 ≤ t.length
  l2 : t.length ≤ 1000
  rw : ∀ r ∈ t, KRw t.length r
theorem KTb.at_ {t : KTab} (h : KTb t) {i : Nat} {r : KRow} (e : t[i]? = some r) : KRw t.length r := h.rw r (List.mem_of_getElem? e)
/-- the rows stand -/
structure KRows (H : Hp) (ds : List Addr) (t : KTab) : Prop where
  len : ds.length = t.length
  at_ : ∀ (i : Nat) (d : Addr) (r : KRow), ds[i]? = some d → t[i]? = some r → H d = some (.dK (sd r))
theorem KRows.nil {H : Hp} : KRows H [] [] := ⟨rfl, fun i d r h => by simp at h⟩
theorem KRows.get {H : Hp} {ds : List Addr} {t : KTab} (h : KRows H ds t) {i : Nat} (hi : i < t.length) : ∃ d r, ds[i]? = some d ∧ t[i]? = some r ∧ H d = some (.dK (sd r)) := by
  have h2 : i < ds.length := by rw [h.len]; exact hi
  exact ⟨ds[i], t[i], List.getElem?_eq_getElem h2, List.getElem?_eq_getElem hi, h.at_ i _ _ (List.getElem?_eq_getElem h2) (List.getElem?_eq_getElem hi)⟩
theorem KRows.by {H H' : Hp} {ds : List Addr} {t : KTab} (h : KRows H ds t) (f : ∀ d ∈ ds, ∀ r, H d = some (.dK (sd r)) → H' d = some (.dK (sd r))) : KRows H' ds t :=
  ⟨h.len, fun i d r h1 h2 => f d (List.mem_of_getElem? h1) r (h.at_ i d r h1 h2)⟩
theorem KRows.mono {H H' : Hp} {ds : List Addr} {t : KTab} (h : KRows H ds t) (s : Same H H') : KRows H' ds t := h.by fun d _ r e => s _ _ e
theorem KRows.mem {H : Hp} {ds : List Addr} {t : KTab} (h : KRows H ds t) {d : Addr} (hd : d ∈ ds) : ∃ r, H d = some (.dK (sd r)) := by
  obtain ⟨i, hi, rfl⟩ := List.mem_iff_getElem.mp hd
  have h2 : i < t.length := by rw [← h.len]; exact hi
  exact ⟨_, h.at_ i _ _ (List.getElem?_eq_getElem hi) (List.getElem?_eq_getElem h2)⟩
theorem KRows.monoB {H H' : Hp} {p : Addr} {ds : List Addr} {t : KTab} (h : KRows H ds t) (hp : Pot H p) (s : SameB p H H') : KRows H' ds t := h.by fun d _ r e => s _ _ (ne_of_pot hp e) e
theorem KRows.upd {H : Hp} {a : Addr} {o : HO} {ds : List Addr} {t : KTab} (h : KRows H ds t) (ha : a ∉ ds) : KRows (L2.upd H a o) ds t := h.by fun d hd r e => by
  have n : d ≠ a := fun z => ha (by rw [← z]; exact hd)
  rw [upd_ne n]
  exact e
theorem KRows.snoc {H : Hp} {ds : List Addr} {t : KTab} {d : Addr} {r : KRow} (h : KRows H ds t) (e : H d = some (.dK (sd r))) : KRows H (ds ++ [d]) (t ++ [r]) := by
  refine ⟨by rw [List.length_append, List.length_append, h.len]; rfl, fun i d' r' h1 h2 => ?_⟩
  by_cases hi : i < ds.length
  · rw [List.getElem?_append_left hi] at h1
    rw [List.getElem?_append_left (by rw [← h.len]; exact hi)] at h2
    exact h.at_ i d' r' h1 h2
  · rw [List.getElem?_append_right (by omega)] at h1
    rw [List.getElem?_append_right (by rw [← h.len]; omega), ← h.len] at h2
    cases hj : i - ds.length with
    | zero =>
      rw [hj] at h1 h2
      cases h1
      cases h2
      exact e
    | succ j =>
      rw [hj] at h1
      simp at h1
theorem KRows.rd {H : Hp} {ds : List Addr} {t : KTab} (h : KRows H ds t) {i : Nat} {v : V} (e : (ds.map V.ref)[i]? = some v) : ∃ d r, v = .ref d ∧ ds[i]? = some d ∧ t[i]? = some r ∧ H d = some (.dK (sd r)) := by
  rw [List.getElem?_map] at e
  cases hd : ds[i]? with
  | none => rw [hd] at e; cases e
  | some d =>
    rw [hd] at e
    cases e
    have hi : i < t.length := by rw [← h.len]; exact (List.getElem?_eq_some_iff.mp hd).1
    exact ⟨d, t[i], rfl, rfl, List.getElem?_eq_getElem hi, h.at_ i d _ hd (List.getElem?_eq_getElem hi)⟩
/-- a table stands at a -/
structure TabAt (H : Hp) (a : Addr) (ds : List Addr) (t : KTab) : Prop where
  ls : H a = some (.lst (ds.map V.ref))
  rows : KRows H ds t
  nd : ds.Nodup
theorem TabAt.mono {H H' : Hp} {a : Addr} {ds : List Addr} {t : KTab} (h : TabAt H a ds t) (s : Same H H') : TabAt H' a ds t := ⟨s _ _ h.ls, h.rows.mono s, h.nd⟩
theorem refs_not_ints {ds : List Addr} {i j : Int} : (HO.lst (ds.map V.ref)) ≠ .lst [.int i, .int j] := by
  intro e
  have e := HO.lst.inj e
  cases ds with
  | nil => cases e
  | cons d r => simp at e
theorem TabAt.monoB {H H' : Hp} {p a : Addr} {ds : List Addr} {t : KTab} (h : TabAt H a ds t) (hp : Pot H p) (s : SameB p H H') : TabAt H' a ds t :=
  ⟨s _ _ (ne_of_pot hp h.ls fun _ _ => refs_not_ints) h.ls, h.rows.monoB hp s, h.nd⟩
theorem TabAt.ne {H : Hp} {a d : Addr} {ds : List Addr} {t : KTab} (h : TabAt H a ds t) (hd : d ∈ ds) : d ≠ a := by
  obtain ⟨r, e⟩ := h.rows.mem hd
  exact ne_of e h.ls (by intro z; cases z)
theorem TabAt.item {H : Hp} {a : Addr} {ds : List Addr} {t : KTab} (h : TabAt H a ds t) {i : Int} (h0 : 0 ≤ i) (h1 : i < t.length) : ∃ d r, ds[i.toNat]? = some d ∧ t[i.toNat]? = some r ∧ H d = some (.dK (sd r)) ∧ atI (ds.map V.ref) i = some (.ref d) := by
  obtain ⟨d, r, e1, e2, e3⟩ := h.rows.get (i := i.toNat) (by omega)
  refine ⟨d, r, e1, e2, e3, ?_⟩
  have : i = ((i.toNat : Nat) : Int) := by omega
  rw [this]
  exact atI_nat (by rw [List.getElem?_map, e1]; rfl)
theorem val_row {r : KRow} {z : Str} : valV (sd r) (Sum.inr z) = (getA r z).map V.int := val_en inr_inj z r
theorem put_row (r : KRow) (z : Str) (v : Int) : putK (sd r) (Sum.inr z) (V.int v) = sd (putA r z v) := put_en inr_inj r z v
/-! ### a row by rising letters -/
def rowOf (r : KRow) (ys : List Str) : KRow := ys.map fun z => (z, (getA r z).getD 0)
def Rise (r r' : KRow) : Prop := ∃ ys, ys.Perm (r.map (·.1)) ∧ sortedS ys = true ∧ r' = rowOf r ys
theorem rowOf_keys (r : KRow) (ys : List Str) : (rowOf r ys).map (·.1) = ys := by
  unfold LT.rowOf
  rw [List.map_map]
  exact List.map_id' ys
theorem getA_some_of {r : KRow} {z : Str} (h : z ∈ r.map (·.1)) : ∃ v, getA r z = some v := by
  cases e : getA r z with
  | some v => exact ⟨v, rfl⟩
  | none => exact absurd h (getA_none_iff.mp e)
theorem Rise.get {r r' : KRow} (h : Rise r r') (nd : (r.map (·.1)).Nodup) (z : Str) : getA r' z = getA r z := by
  obtain ⟨ys, hp, _, rfl⟩ := h
  by_cases hz : z ∈ ys
  · obtain ⟨v, hv⟩ := getA_some_of (hp.mem_iff.mp hz)
    rw [hv]
    refine getA_of_mem (by rw [rowOf_keys]; exact hp.nodup_iff.mpr nd) ?_
    refine List.mem_map.mpr ⟨z, hz, ?_⟩
    rw [hv]
    rfl
  · rw [getA_none_iff.mpr (by rw [rowOf_keys]; exact hz), getA_none_iff.mpr fun h => hz (hp.mem_iff.mpr h)]
theorem Rise.rw {n : Nat} {r r' : KRow} (h : Rise r r') (k : KRw n r) : KRw n r' := by
  have g := h.get k.nd
  obtain ⟨ys, hp, _, rfl⟩ := h
  have hk := rowOf_keys r ys
  have nd : ((rowOf r ys).map (·.1)).Nodup := by rw [hk]; exact hp.nodup_iff.mpr k.nd
  refine ⟨fun e => ?_, nd, fun p hp' => ?_, fun p hp' => ?_⟩
  · have := hp.length_eq
    rw [e] at hk
    rw [← hk] at this
    simp at this
    exact k.ne (List.length_eq_zero_iff.mp this.symm)
  · have : p.1 ∈ r.map (·.1) := hp.mem_iff.mp (hk ▸ List.mem_map.mpr ⟨p, hp', rfl⟩)
    obtain ⟨p2, hp2, e⟩ := List.mem_map.mp this
    rw [← e]
    exact k.lt p2 hp2
  · have := getA_of_mem nd (k := p.1) (v := p.2) hp'
    rw [g] at this
    exact k.get this
/-- every row risen -/
structure RiseT (t t' : KTab) : Prop where
  len : t'.length = t.length
  at_ : ∀ (i : Nat) (r r' : KRow), t[i]? = some r → t'[i]? = some r' → Rise r r'
theorem RiseT.row {t t' : KTab} (h : RiseT t t') {i : Nat} {r : KRow} (e : t[i]? = some r) : ∃ r', t'[i]? = some r' ∧ Rise r r' := by
  have hi : i < t'.length := by rw [h.len]; exact (List.getElem?_eq_some_iff.mp e).1
  exact ⟨t'[i], List.getElem?_eq_getElem hi, h.at_ i r _ e (List.getElem?_eq_getElem hi)⟩
/-! ### isinstance of str, of all sorts of things -/
def isStr : V → Bool
  | .str _ => true
  | _ => false
theorem Odd.tyS {K : PySem.W.Frag} {H : Hp} {v : V} (h : Odd H v) : ∃ t, TyX K H v t ∧ PySem.W.kitOne K t (.type "str") = some (isStr v) := by
  cases h with
  | non => exact ⟨_, .base .non, kit_ty (show kitB "NoneType" "str" = some false by decide +kernel)⟩
  | bl b => exact ⟨_, .base (.bl b), kit_ty (show kitB "bool" "str" = some false by decide +kernel)⟩
  | int i => exact ⟨_, .base (.int i), kit_ty (show kitB "int" "str" = some false by decide +kernel)⟩
  | str z => exact ⟨_, .base (.str z), kit_ty (show kitB "str" "str" = some true by decide +kernel)⟩
  | lst e => exact ⟨_, .base (.lst e), kit_ty (show kitB "list" "str" = some false by decide +kernel)⟩
  | tup e => exact ⟨_, .base (.tup e), kit_ty (show kitB "tuple" "str" = some false by decide +kernel)⟩
  | dK e => exact ⟨_, .base (.dK e), kit_ty (show kitB "dict" "str" = some false by decide +kernel)⟩
/-- mergeK of pairs with unlike keys -/
theorem merge_nodup {kvs : KRow} (nd : (kvs.map (·.1)).Nodup) : mergeK [] (sd kvs) = sd kvs := by
  suffices h : ∀ (r acc : KRow), ((acc ++ r).map (·.1)).Nodup → mergeK (sd acc) (sd r) = sd (acc ++ r) from h kvs [] nd
  intro r
  induction r with
  | nil => intro acc _; rw [List.append_nil]; rfl
  | cons p r ih =>
    intro acc h
    have e : putK (sd acc) (Sum.inr p.1) (V.int p.2) = sd (acc ++ [p]) := by
      rw [put_row, putA_new]
      rw [getA_none_iff]
      rw [List.map_append, List.map_cons, List.nodup_append] at h
      exact fun hm => h.2.2 _ hm _ List.mem_cons_self rfl
    show mergeK (putK (sd acc) (Sum.inr p.1) (V.int p.2)) (sd r) = _
    rw [e, ih (acc ++ [p]) (by rw [List.append_assoc]; exact h), List.append_assoc]
    rfl
end LT
namespace LT
open PySem PySem.Spec PyProof.Rows L2 NdefX
/-- a row's letters and numbers, pair by pair -/
theorem walk_rows {d : Addr} {o : Obj} {r : KRow} : Walk (Iti d o (sd r)) r.length (fun H => H d = some (.frz o (.dK (sd r)))) (fun i H x H' => ∃ T p, r[i]? = some p ∧ x = .ref T ∧ H T = none ∧ H' = upd H T (.tup [.str p.1, .int p.2])) := by
  refine ⟨fun i H hi q => ⟨q, by rw [sd_len]; exact hi⟩, fun H q => ⟨q, by rw [sd_len]; exact Nat.le_refl _⟩, fun i H x H' hi _ y => ?_⟩
  obtain ⟨T, k, v, h1, rfl, h3, rfl⟩ := y
  unfold sd at h1
  rw [List.getElem?_map, List.getElem?_eq_getElem hi] at h1
  cases h1
  exact ⟨T, r[i], List.getElem?_eq_getElem hi, rfl, h3, rfl⟩
/-- a row's letters -/
theorem walk_rowk {d : Addr} {o : Obj} {r : KRow} : Walk (Itk d o (sd r)) r.length (fun H => H d = some (.frz o (.dK (sd r)))) (fun i H x H' => H' = H ∧ ∃ p, r[i]? = some p ∧ x = .str p.1) := by
  refine ⟨fun i H hi q => ⟨q, by rw [sd_len]; exact hi⟩, fun H q => ⟨q, by rw [sd_len]; exact Nat.le_refl _⟩, fun i H x H' hi _ y => ?_⟩
  obtain ⟨rfl, k, v, h1, rfl⟩ := y
  unfold sd at h1
  rw [List.getElem?_map, List.getElem?_eq_getElem hi] at h1
  cases h1
  exact ⟨rfl, r[i], List.getElem?_eq_getElem hi, rfl⟩
theorem rep_succ {α : Type} (i : Nat) (a : α) : List.replicate i a ++ [a] = List.replicate (i + 1) a := by rw [List.replicate_succ']
theorem rep_all (i : Nat) : (List.replicate i true).all id = true := by
  rw [List.all_eq_true]
  intro b hb
  rw [(List.mem_replicate.mp hb).2]
  rfl
end LT
set_option Elab.async false
set_option linter.all false
set_option maxRecDepth 100000
set_option maxHeartbeats 1600000
/-! Own layer: books. What is told of keepers and lights, as a list of what was told; histories; what of them holds. -/
namespace LT
open PySem PySem.Spec PyProof.Rows L2 NdefX
theorem snoc_ind {α : Type} {p : List α → Prop} (h0 : p []) (hs : ∀ l a, p l → p (l ++ [a])) : ∀ l, p l := by
  intro l
  rw [← List.reverse_reverse l]
  induction l.reverse with
  | nil => exact h0
  | cons a r ih =>
    rw [List.reverse_cons]
    exact hs _ _ ih
/-- what a book is told: of a move or of a landing, known, who, day, worth -/
structure Evt where
  mv : Bool
  kn : Int
  who : Str
  day : Int
  w : V
abbrev Told := List (Int × V)
abbrev Hist := List (Int × Told)
def ctK : Option Int → Int → Bool
  | none, _ => true
  | some m, k => decide (k ≤ m)
def knV : Option Int → V
  | none => .non
  | some k => .int k
/-- what was told last, of that which counts -/
def LastW (t : Told) (kn : Option Int) (w : V) : Prop :=
  ((∀ p ∈ t, ctK kn p.1 = false) ∧ w = .non) ∨ ∃ k, getA t k = some w ∧ ctK kn k = true ∧ ∀ p ∈ t, ctK kn p.1 = true → p.1 ≤ k
theorem LastW.uniq {t : Told} {kn : Option Int} {w w' : V} (h : LastW t kn w) (h' : LastW t kn w') : w = w' := by
  rcases h with ⟨a, rfl⟩ | ⟨k, a1, a2, a3⟩
  · rcases h' with ⟨_, rfl⟩ | ⟨k, b1, b2, _⟩
    · rfl
    · have := a _ (getA_mem b1)
      rw [b2] at this
      cases this
  · rcases h' with ⟨b, rfl⟩ | ⟨k', b1, b2, b3⟩
    · have := b _ (getA_mem a1)
      rw [a2] at this
      cases this
    · have e : k = k' := Int.le_antisymm (b3 _ (getA_mem a1) a2) (a3 _ (getA_mem b1) b2)
      subst e
      rw [a1] at b1
      exact Option.some.inj b1
theorem LastW.nil {kn : Option Int} : LastW [] kn .non := .inl ⟨nofun, rfl⟩
def noteH (h : Hist) (kn day : Int) (w : V) : Hist := putA h day (putA ((getA h day).getD []) kn w)
def ofE (mv : Bool) (who : Str) (e : Evt) : Bool := decide (e.mv = mv) && decide (e.who = who)
def stepH (mv : Bool) (who : Str) (h : Hist) (e : Evt) : Hist := if ofE mv who e = true then noteH h e.kn e.day e.w else h
def histE (es : List Evt) (mv : Bool) (who : Str) : Hist := es.foldl (stepH mv who) []
theorem histE_snoc (es : List Evt) (e : Evt) (mv : Bool) (who : Str) : histE (es ++ [e]) mv who = stepH mv who (histE es mv who) e := by
  unfold histE
  rw [List.foldl_append]
  rfl
def heldP (mv : Bool) (who : Str) (kn : Option Int) (day : Int) (e : Evt) : Bool := ofE mv who e && ctK kn e.kn && decide (e.day = day)
def heldO (es : List Evt) (mv : Bool) (who : Str) (kn : Option Int) (day : Int) : Option V := ((es.filter (heldP mv who kn day)).getLast?).map (·.w)
def heldE (es : List Evt) (mv : Bool) (who : Str) (kn : Option Int) (day : Int) : V := (heldO es mv who kn day).getD .non
theorem heldO_snoc (es : List Evt) (e : Evt) (mv : Bool) (who : Str) (kn : Option Int) (day : Int) :
    heldO (es ++ [e]) mv who kn day = if heldP mv who kn day e = true then some e.w else heldO es mv who kn day := by
  unfold heldO
  rw [List.filter_append]
  by_cases h : heldP mv who kn day e = true
  · rw [if_pos h, List.filter_cons_of_pos h, List.filter_nil, List.getLast?_append]
    rfl
  · rw [if_neg h, List.filter_cons_of_neg h, List.filter_nil, List.append_nil]
theorem heldE_snoc (es : List Evt) (e : Evt) (mv : Bool) (who : Str) (kn : Option Int) (day : Int) :
    heldE (es ++ [e]) mv who kn day = if heldP mv who kn day e = true then e.w else heldE es mv who kn day := by
  unfold heldE
  rw [heldO_snoc]
  split <;> rfl
theorem heldO_mem {es : List Evt} {mv : Bool} {who : Str} {kn : Option Int} {day : Int} {w : V} (h : heldO es mv who kn day = some w) : ∃ e ∈ es, heldP mv who kn day e = true ∧ e.w = w := by
  unfold heldO at h
  rw [Option.map_eq_some_iff] at h
  obtain ⟨e, h1, h2⟩ := h
  have hm := List.mem_of_getLast? h1
  rw [List.mem_filter] at hm
  exact ⟨e, hm.1, hm.2, h2⟩
theorem ofE_iff {mv : Bool} {who : Str} {e : Evt} : ofE mv who e = true ↔ e.mv = mv ∧ e.who = who := by
  unfold ofE
  rw [Bool.and_eq_true, decide_eq_true_iff, decide_eq_true_iff]
theorem heldP_iff {mv : Bool} {who : Str} {kn : Option Int} {day : Int} {e : Evt} : heldP mv who kn day e = true ↔ (e.mv = mv ∧ e.who = who) ∧ ctK kn e.kn = true ∧ e.day = day := by
  unfold heldP
  rw [Bool.and_eq_true, Bool.and_eq_true, ofE_iff, decide_eq_true_iff, and_assoc]
theorem getA_note (h : Hist) (kn day d : Int) (w : V) : getA (noteH h kn day w) d = if d = day then some (putA ((getA h day).getD []) kn w) else getA h d := getA_put _ _ _ _
/-- what stands in a history was told -/
theorem hist_of (mv : Bool) (who : Str) : ∀ es : List Evt, ∀ d t, getA (histE es mv who) d = some t → (t.map (·.1)).Nodup ∧ t.length ≤ es.length ∧ t ≠ [] ∧ ∀ p ∈ t, ∃ e ∈ es, (e.mv = mv ∧ e.who = who) ∧ e.kn = p.1 ∧ e.day = d ∧ e.w = p.2 := by
  refine snoc_ind (fun d t h => by cases h) fun es e ih d t h => ?_
  have old : getA (histE es mv who) d = some t → (t.map (·.1)).Nodup ∧ t.length ≤ (es ++ [e]).length ∧ t ≠ [] ∧ ∀ p ∈ t, ∃ e' ∈ es ++ [e], (e'.mv = mv ∧ e'.who = who) ∧ e'.kn = p.1 ∧ e'.day = d ∧ e'.w = p.2 := fun h => by
    obtain ⟨a, b, n, c⟩ := ih d t h
    refine ⟨a, by rw [List.length_append]; omega, n, fun p hp => ?_⟩
    obtain ⟨e', h1, h2⟩ := c p hp
    exact ⟨e', List.mem_append_left _ h1, h2⟩
  rw [histE_snoc] at h
  unfold stepH at h
  by_cases ho : ofE mv who e = true
  · rw [if_pos ho, getA_note] at h
    by_cases hd : d = e.day
    · rw [if_pos hd] at h
      cases h
      subst hd
      have hi : (((getA (histE es mv who) e.day).getD []).map (·.1)).Nodup ∧ ((getA (histE es mv who) e.day).getD []).length ≤ es.length ∧ ∀ p ∈ (getA (histE es mv who) e.day).getD [], ∃ e' ∈ es, (e'.mv = mv ∧ e'.who = who) ∧ e'.kn = p.1 ∧ e'.day = e.day ∧ e'.w = p.2 := by
        cases hg : getA (histE es mv who) e.day with
        | none => exact ⟨List.nodup_nil, Nat.zero_le _, nofun⟩
        | some t =>
          obtain ⟨a, b, _, c⟩ := ih _ t hg
          exact ⟨a, b, c⟩
      obtain ⟨a, b, c⟩ := hi
      refine ⟨nodup_put a, ?_, ?_, fun p hp => ?_⟩
      · have := putA_len (kvs := (getA (histE es mv who) e.day).getD []) (k := e.kn) (v := e.w)
        rw [List.length_append, List.length_singleton]
        omega
      · intro z
        have := getA_put ((getA (histE es mv who) e.day).getD []) e.kn e.kn e.w
        rw [z, if_pos rfl] at this
        cases this
      · rcases mem_put hp with rfl | hp
        · exact ⟨e, List.mem_append_right _ List.mem_cons_self, ofE_iff.mp ho, rfl, rfl, rfl⟩
        · obtain ⟨e', h1, h2⟩ := c p hp
          exact ⟨e', List.mem_append_left _ h1, h2⟩
    · rw [if_neg hd] at h
      exact old h
  · rw [if_neg ho] at h
    exact old h
theorem hist_keys (mv : Bool) (who : Str) : ∀ es : List Evt, ((histE es mv who).map (·.1)).Nodup ∧ (histE es mv who).length ≤ es.length := by
  refine snoc_ind ⟨List.nodup_nil, Nat.le_refl _⟩ fun es e ih => ?_
  rw [histE_snoc]
  unfold stepH
  have hl : (es ++ [e]).length = es.length + 1 := by rw [List.length_append]; rfl
  rw [hl]
  split
  · refine ⟨nodup_put ih.1, ?_⟩
    have := putA_len (kvs := histE es mv who) (k := e.day) (v := putA ((getA (histE es mv who) e.day).getD []) e.kn e.w)
    have := ih.2
    unfold noteH
    omega
  · exact ⟨ih.1, by have := ih.2; omega⟩
abbrev Rising (es : List Evt) : Prop := es.Pairwise fun a b => a.kn ≤ b.kn
theorem rising_snoc {es : List Evt} {e : Evt} (h : Rising (es ++ [e])) : Rising es ∧ ∀ a ∈ es, a.kn ≤ e.kn := by
  rw [Rising, List.pairwise_append] at h
  exact ⟨h.1, fun a ha => h.2.2 a ha e List.mem_cons_self⟩
theorem last_held (mv : Bool) (who : Str) (kn : Option Int) (d : Int) : ∀ es : List Evt, Rising es → LastW ((getA (histE es mv who) d).getD []) kn (heldE es mv who kn d) := by
  refine snoc_ind (fun _ => .nil) fun es e ih hr => ?_
  obtain ⟨hr, hle⟩ := rising_snoc hr
  have ih := ih hr
  rw [histE_snoc, heldE_snoc]
  unfold stepH
  by_cases ho : ofE mv who e = true
  · rw [if_pos ho, getA_note]
    by_cases hd : d = e.day
    · rw [if_pos hd, Option.getD_some]
      rw [← hd]
      have all : ∀ p ∈ (getA (histE es mv who) d).getD [], p.1 ≤ e.kn := by
        intro p hp
        cases hg : getA (histE es mv who) d with
        | none =>
          rw [hg] at hp
          exact nomatch hp
        | some t =>
          rw [hg] at hp
          obtain ⟨_, _, _, c⟩ := hist_of mv who es d t hg
          obtain ⟨e', h1, _, h2, _⟩ := c p hp
          rw [← h2]
          exact hle e' h1
      by_cases hc : ctK kn e.kn = true
      · rw [if_pos (heldP_iff.mpr ⟨ofE_iff.mp ho, hc, hd.symm⟩)]
        refine .inr ⟨e.kn, by rw [getA_put, if_pos rfl], hc, fun p hp _ => ?_⟩
        rcases mem_put hp with rfl | hp
        · exact Int.le_refl _
        · exact all p hp
      · rw [if_neg (fun h => hc (heldP_iff.mp h).2.1)]
        rcases ih with ⟨a, b⟩ | ⟨k, a1, a2, a3⟩
        · refine .inl ⟨fun p hp => ?_, b⟩
          rcases mem_put hp with rfl | hp
          · exact bool_false hc
          · exact a p hp
        · refine .inr ⟨k, ?_, a2, fun p hp h => ?_⟩
          · rw [getA_put, if_neg (fun z : k = e.kn => hc (z ▸ a2))]
            exact a1
          · rcases mem_put hp with rfl | hp
            · exact absurd h hc
            · exact a3 p hp h
    · rw [if_neg hd, if_neg (fun h => hd (heldP_iff.mp h).2.2.symm)]
      exact ih
  · rw [if_neg ho, if_neg (fun h => ho (ofE_iff.mpr (heldP_iff.mp h).1))]
    exact ih
/-- what holds, by rising days -/
structure HoldF (f : Int → V) (L : List (Int × V)) : Prop where
  up : L.Pairwise fun a b => a.1 < b.1
  mem : ∀ d w, (d, w) ∈ L ↔ w ≠ .non ∧ f d = w
def HoldH (h : Hist) (kn : Option Int) (L : List (Int × V)) : Prop := (L.Pairwise fun a b => a.1 < b.1) ∧ L.length ≤ h.length ∧ ∀ d w, (d, w) ∈ L ↔ w ≠ .non ∧ LastW ((getA h d).getD []) kn w
theorem HoldH.held {es : List Evt} {mv : Bool} {who : Str} {kn : Option Int} {L : List (Int × V)} (h : HoldH (histE es mv who) kn L) (hr : Rising es) : HoldF (heldE es mv who kn) L ∧ L.length ≤ es.length := by
  obtain ⟨h1, h2, h3⟩ := h
  refine ⟨⟨h1, fun d w => ?_⟩, Nat.le_trans h2 (hist_keys mv who es).2⟩
  rw [h3]
  have := last_held mv who kn d es hr
  constructor
  · rintro ⟨a, b⟩
    exact ⟨a, this.uniq b⟩
  · rintro ⟨a, rfl⟩
    exact ⟨a, this⟩
theorem HoldF.uniq {f : Int → V} : ∀ {L L' : List (Int × V)}, HoldF f L → HoldF f L' → L = L' := by
  intro L
  induction L generalizing f with
  | nil =>
    intro L' h h'
    cases L' with
    | nil => rfl
    | cons p r => exact nomatch (h.mem p.1 p.2).mpr ((h'.mem p.1 p.2).mp List.mem_cons_self)
  | cons p r ih =>
    intro L' h h'
    cases L' with
    | nil => exact nomatch (h'.mem p.1 p.2).mpr ((h.mem p.1 p.2).mp List.mem_cons_self)
    | cons p' r' =>
      have u := List.pairwise_cons.mp h.up
      have u' := List.pairwise_cons.mp h'.up
      have hp := (h.mem p.1 p.2).mp List.mem_cons_self
      have hp' := (h'.mem p'.1 p'.2).mp List.mem_cons_self
      have e1 : p.1 = p'.1 := by
        have a : p'.1 ≤ p.1 := by
          rcases List.mem_cons.mp ((h'.mem p.1 p.2).mpr hp) with e | e
          · exact Int.le_of_eq (congrArg Prod.fst e).symm
          · exact Int.le_of_lt (u'.1 _ e)
        have b : p.1 ≤ p'.1 := by
          rcases List.mem_cons.mp ((h.mem p'.1 p'.2).mpr hp') with e | e
          · exact Int.le_of_eq (congrArg Prod.fst e).symm
          · exact Int.le_of_lt (u.1 _ e)
        omega
      have e2 : p.2 = p'.2 := by rw [← hp.2, ← hp'.2, e1]
      have e : p = p' := Prod.ext e1 e2
      subst e
      congr 1
      refine ih (f := fun d => if d = p.1 then .non else f d) ⟨u.2, fun d w => ?_⟩ ⟨u'.2, fun d w => ?_⟩
      · by_cases hd : d = p.1
        · rw [if_pos hd]
          constructor
          · intro hm
            have := u.1 _ hm
            omega
          · rintro ⟨a, b⟩
            exact absurd b.symm a
        · rw [if_neg hd, ← h.mem]
          constructor
          · exact List.mem_cons_of_mem _
          · intro hm
            rcases List.mem_cons.mp hm with e | e
            · exact absurd (congrArg Prod.fst e) hd
            · exact e
      · by_cases hd : d = p.1
        · rw [if_pos hd]
          constructor
          · intro hm
            have := u'.1 _ hm
            omega
          · rintro ⟨a, b⟩
            exact absurd b.symm a
        · rw [if_neg hd, ← h'.mem]
          constructor
          · exact List.mem_cons_of_mem _
          · intro hm
            rcases List.mem_cons.mp hm with e | e
            · exact absurd (congrArg Prod.fst e) hd
            · exact e
/-- where one is on a day, by what holds of each day -/
def IsWhere (f : Int → V) (day : Int) (r : V) : Prop :=
  (∃ on, on ≤ day ∧ f on = r ∧ r ≠ .non ∧ ∀ o, o ≤ day → f o ≠ .non → o ≤ on) ∨ ((∀ o, o ≤ day → f o = .non) ∧ r = .str (Str.ofString ""))
theorem IsWhere.uniq {f : Int → V} {day : Int} {r r' : V} (h : IsWhere f day r) (h' : IsWhere f day r') : r = r' := by
  rcases h with ⟨o, a1, a2, a3, a4⟩ | ⟨a, rfl⟩
  · rcases h' with ⟨o', b1, b2, b3, b4⟩ | ⟨b, rfl⟩
    · have : o = o' := Int.le_antisymm (b4 _ a1 (by rw [a2]; exact a3)) (a4 _ b1 (by rw [b2]; exact b3))
      rw [← a2, ← b2, this]
    · exact absurd (a2.symm.trans (b o a1)) a3
  · rcases h' with ⟨o', b1, b2, b3, b4⟩ | ⟨b, rfl⟩
    · exact absurd (b2.symm.trans (a o' b1)) b3
    · rfl
/-- the place by a list that holds, as far as it is gone through -/
def whereL (L : List (Int × V)) (day : Int) : V := L.foldl (fun r p => if p.1 ≤ day then p.2 else r) (.str (Str.ofString ""))
theorem whereL_is {f : Int → V} {L : List (Int × V)} {day : Int} (h : HoldF f L) : IsWhere f day (whereL L day) := by
  have key : ∀ L : List (Int × V), (L.Pairwise fun a b => a.1 < b.1) → (∃ p ∈ L, p.1 ≤ day ∧ whereL L day = p.2 ∧ ∀ q ∈ L, q.1 ≤ day → q.1 ≤ p.1) ∨ ((∀ q ∈ L, ¬ q.1 ≤ day) ∧ whereL L day = .str (Str.ofString "")) := by
    refine snoc_ind (fun _ => .inr ⟨nofun, rfl⟩) fun L p ih hu => ?_
    rw [List.pairwise_append] at hu
    have ew : whereL (L ++ [p]) day = if p.1 ≤ day then p.2 else whereL L day := by
      unfold whereL
      rw [List.foldl_append]
      rfl
    rw [ew]
    by_cases hp : p.1 ≤ day
    · rw [if_pos hp]
      refine .inl ⟨p, List.mem_append_right _ List.mem_cons_self, hp, rfl, fun q hq _ => ?_⟩
      rcases List.mem_append.mp hq with hq | hq
      · exact Int.le_of_lt (hu.2.2 q hq p List.mem_cons_self)
      · rw [List.mem_singleton.mp hq]
        exact Int.le_refl _
    · rw [if_neg hp]
      rcases ih hu.1 with ⟨q, a, b, c, d⟩ | ⟨a, b⟩
      · refine .inl ⟨q, List.mem_append_left _ a, b, c, fun q' hq' hle => ?_⟩
        rcases List.mem_append.mp hq' with hq' | hq'
        · exact d q' hq' hle
        · rw [List.mem_singleton.mp hq'] at hle
          exact absurd hle hp
      · refine .inr ⟨fun q hq => ?_, b⟩
        rcases List.mem_append.mp hq with hq | hq
        · exact a q hq
        · rw [List.mem_singleton.mp hq]
          exact hp
  rcases key L h.up with ⟨p, a, b, c, d⟩ | ⟨a, b⟩
  · obtain ⟨n, e⟩ := (h.mem p.1 p.2).mp a
    exact .inl ⟨p.1, b, e.trans c.symm, by rw [c]; exact n, fun o ho hn => d (o, f o) ((h.mem o (f o)).mpr ⟨hn, rfl⟩) ho⟩
  · refine .inr ⟨fun o ho => Classical.byContradiction fun hn => ?_, b⟩
    exact a (o, f o) ((h.mem o (f o)).mpr ⟨hn, rfl⟩) ho
end LT
set_option Elab.async false
set_option linter.all false
set_option maxRecDepth 100000
set_option maxHeartbeats 1600000
/-! Own layer: a reading told anew; indices. -/
namespace LT
open PySem PySem.Spec PyProof.Rows L2 NdefX
theorem paired_imp {α β : Type} {R S : α → β → Prop} (f : ∀ a b, R a b → S a b) : ∀ {xs : List α} {ys : List β}, Paired R xs ys → Paired S xs ys
  | _, _, .nil => .nil
  | _, _, .cons h t => .cons (f _ _ h) (paired_imp f t)
theorem ne_of_none' {H : Hp} {a b : Addr} {o : HO} (n : H a = none) (e : H b = some o) : a ≠ b := (ne_of_none e n).symm
/-- a row without one letter -/
def dropA (r : KRow) (z : Str) : KRow := r.filter fun p => decide (p.1 ≠ z)
theorem KRw.drop {n : Nat} {r : KRow} {z : Str} (h : KRw n r) (hl : 1 < r.length) : KRw n (dropA r z) := by
  refine ⟨fun e => ?_, ?_, fun p hp => h.lt p (List.mem_filter.mp hp).1, fun p hp => h.bd p (List.mem_filter.mp hp).1⟩
  · have all : ∀ p ∈ r, p.1 = z := by
      intro p hp
      by_cases hz : p.1 = z
      · exact hz
      · have : p ∈ dropA r z := List.mem_filter.mpr ⟨hp, decide_eq_true hz⟩
        rw [e] at this
        cases this
    match r, hl, h.nd, all with
    | a :: b :: r, _, nd, all =>
      rw [List.map_cons, List.map_cons, List.nodup_cons] at nd
      refine nd.1 ?_
      rw [all a List.mem_cons_self, ← all b (List.mem_cons_of_mem _ List.mem_cons_self)]
      exact List.mem_cons_self
  · exact h.nd.sublist (List.Sublist.map _ List.filter_sublist)
end LT
set_option Elab.async false
set_option linter.all false
set_option maxRecDepth 100000
set_option maxHeartbeats 1600000
/-! Own layer: books on the heap. -/
namespace LT
open PySem PySem.Spec PyProof.Rows L2 NdefX
/-- all but what stands at some addresses is as it was -/
def SameL (S : List Addr) (H H' : Hp) : Prop := ∀ b o, b ∉ S → H b = some o → H' b = some o
theorem SameL.of {S : List Addr} {H H' : Hp} (s : Same H H') : SameL S H H' := fun b o _ e => s b o e
theorem SameL.ofB {p : Addr} {S : List Addr} {H H' : Hp} (hp : p ∈ S) (s : SameB p H H') : SameL S H H' := fun b o n e => s b o (fun h => n (h ▸ hp)) e
theorem SameL.trans {S : List Addr} {H H1 H2 : Hp} (a : SameL S H H1) (b : SameL S H1 H2) : SameL S H H2 := fun c o n e => b c o n (a c o n e)
theorem SameL.mono {S T : List Addr} {H H' : Hp} (h : ∀ a ∈ S, a ∈ T) (s : SameL S H H') : SameL T H H' := fun b o n e => s b o (fun z => n (h b z)) e
theorem SameL.upd {S : List Addr} {H H' : Hp} {p : Addr} {o : HO} (hp : p ∈ S) (s : SameL S H H') : SameL S H (L2.upd H' p o) := fun b x n e => by
  rw [upd_ne (fun z : b = p => n (by rw [z]; exact hp))]
  exact s b x n e
/-- what was new may change, too -/
theorem SameL.fresh {S T : List Addr} {H H1 H2 : Hp} (a : SameL S H H1) (b : SameL T H1 H2) (h : ∀ c ∈ T, c ∈ S ∨ H c = none) : SameL S H H2 := fun c o n e => by
  refine b c o (fun z => ?_) (a c o n e)
  rcases h c z with h | h
  · exact n h
  · rw [h] at e
    cases e
theorem SameL.same {S : List Addr} {H H' : Hp} (s : SameL S H H') (h : ∀ c ∈ S, H c = none) : Same H H' := fun b o e => s b o (fun z => by rw [h b z] at e; cases e) e
theorem SameL.free {S : List Addr} {H H' : Hp} {a : Addr} (s : SameL S H H') (h : H' a = none) (n : a ∉ S) : H a = none := by
  cases e : H a with
  | none => rfl
  | some o =>
    rw [s a o n e] at h
    cases h
/-! ### a heap without what may change -/
def Ho (M : List Addr) (H : Hp) : Hp := fun a => if a ∈ M then none else H a
theorem ho_iff {M : List Addr} {H : Hp} {a : Addr} {o : HO} : Ho M H a = some o ↔ a ∉ M ∧ H a = some o := by
  unfold Ho
  split <;> simp_all
theorem ho_le {M : List Addr} {H : Hp} : Same (Ho M H) H := fun a o e => (ho_iff.mp e).2
theorem ho_step {M M' S : List Addr} {H H' : Hp} (s : SameL S H H') (hs : ∀ a ∈ S, a ∈ M) (hm : ∀ a ∈ M', a ∈ M ∨ H a = none) : Same (Ho M H) (Ho M' H') := fun a o e => by
  obtain ⟨n, e⟩ := ho_iff.mp e
  refine ho_iff.mpr ⟨fun h => ?_, s a o (fun h => n (hs a h)) e⟩
  rcases hm a h with h | h
  · exact n h
  · rw [h] at e
    cases e
theorem ho_in {M : List Addr} {H : Hp} {a : Addr} {o : HO} (n : a ∉ M) (e : H a = some o) : Ho M H a = some o := ho_iff.mpr ⟨n, e⟩
/-! ### histories -/
structure HA where
  x : Addr
  dx : Addr
  D : Addr
  g : List (Int × Addr)
  h : Hist
def HA.fp (a : HA) : List Addr := a.x :: a.D :: a.g.map (·.2)
def toldK (t : Told) : List (Key × V) := enA Sum.inl id t
def dayK (g : List (Int × Addr)) : List (Key × V) := enA Sum.inl V.ref g
def DayR (H : Hp) (p : Int × Addr) (e : Int × Told) : Prop := p.1 = e.1 ∧ H p.2 = some (.dK (toldK e.2))
structure HistAt (C : Addr) (H : Hp) (a : HA) : Prop where
  ix : H a.x = some (.ins C a.dx [("by_day", .ref a.D)])
  bd : H a.D = some (.dK (dayK a.g))
  ta : Paired (DayR H) a.g a.h
  nd : a.fp.Nodup
  nk : (a.h.map (·.1)).Nodup
theorem HistAt.by {C : Addr} {H H' : Hp} {a : HA} (h : HistAt C H a) (f : ∀ c ∈ a.fp, ∀ o, H c = some o → H' c = some o) : HistAt C H' a := by
  refine ⟨f _ List.mem_cons_self _ h.ix, f _ (List.mem_cons_of_mem _ List.mem_cons_self) _ h.bd, ?_, h.nd, h.nk⟩
  have : ∀ {g : List (Int × Addr)} {t : Hist}, (∀ c ∈ g.map (·.2), c ∈ a.fp) → Paired (DayR H) g t → Paired (DayR H') g t := by
    intro g t hg hp
    induction hp with
    | nil => exact .nil
    | cons r _ ih => exact .cons ⟨r.1, f _ (hg _ List.mem_cons_self) _ r.2⟩ (ih fun c hc => hg c (List.mem_cons_of_mem _ hc))
  exact this (fun c hc => List.mem_cons_of_mem _ (List.mem_cons_of_mem _ hc)) h.ta
theorem HistAt.mono {C : Addr} {H H' : Hp} {a : HA} (h : HistAt C H a) (s : Same H H') : HistAt C H' a := h.by fun c _ o e => s c o e
theorem HistAt.monoL {C : Addr} {S : List Addr} {H H' : Hp} {a : HA} (h : HistAt C H a) (s : SameL S H H') (n : ∀ c ∈ a.fp, c ∉ S) : HistAt C H' a := h.by fun c hc o e => s c o (n c hc) e
theorem HistAt.ex {C : Addr} {H : Hp} {a : HA} (h : HistAt C H a) : ∀ c ∈ a.fp, ∃ o, H c = some o := by
  intro c hc
  rcases List.mem_cons.mp hc with rfl | hc
  · exact ⟨_, h.ix⟩
  rcases List.mem_cons.mp hc with rfl | hc
  · exact ⟨_, h.bd⟩
  have : ∀ {g : List (Int × Addr)} {t : Hist}, Paired (DayR H) g t → c ∈ g.map (·.2) → ∃ o, H c = some o := by
    intro g t hp
    induction hp with
    | nil => exact nofun
    | cons r _ ih =>
      intro hc
      rcases List.mem_cons.mp hc with rfl | hc
      · exact ⟨_, r.2⟩
      · exact ih hc
  exact this h.ta hc
theorem paired_keys {H : Hp} {g : List (Int × Addr)} {h : Hist} (p : Paired (DayR H) g h) : g.map (·.1) = h.map (·.1) := by
  induction p with
  | nil => rfl
  | cons r _ ih => rw [List.map_cons, List.map_cons, ih, r.1]
theorem paired_at {H : Hp} {d : Int} {g : List (Int × Addr)} {h : Hist} (p : Paired (DayR H) g h) : (getA g d = none ∧ getA h d = none) ∨ ∃ T t, getA g d = some T ∧ getA h d = some t ∧ H T = some (.dK (toldK t)) := by
  induction p with
  | nil => exact .inl ⟨rfl, rfl⟩
  | cons r _ ih =>
    rename_i x y xs ys _
    by_cases e : y.1 = d
    · exact .inr ⟨x.2, y.2, getA_pos (r.1.trans e), getA_pos e, r.2⟩
    · rw [getA_neg (fun z => e (r.1.symm.trans z)), getA_neg e]
      exact ih
theorem day_val (g : List (Int × Addr)) (d : Int) : valV (dayK g) (Sum.inl d) = (getA g d).map V.ref := val_en inl_inj d g
theorem told_val (t : Told) (k : Int) : valV (toldK t) (Sum.inl k) = getA t k := by
  have := val_en (f := id) inl_inj k t
  rw [Option.map_id] at this
  exact this
theorem told_put (t : Told) (k : Int) (v : V) : putK (toldK t) (Sum.inl k) v = toldK (putA t k v) := put_en (f := id) inl_inj t k v
theorem day_put (g : List (Int × Addr)) (d : Int) (T : Addr) : putK (dayK g) (Sum.inl d) (V.ref T) = dayK (putA g d T) := put_en inl_inj g d T
theorem told_len (t : Told) : (toldK t).length = t.length := enA_len ..
theorem day_len (g : List (Int × Addr)) : (dayK g).length = g.length := enA_len ..
theorem dayK_keys (g : List (Int × Addr)) : (dayK g).map (·.1) = (g.map (·.1)).map Sum.inl := by
  unfold dayK enA
  rw [List.map_map, List.map_map]
  rfl
/-- a day's dict put anew -/
theorem paired_set {H H' : Hp} {d : Int} {T : Addr} {t' : Told} {g : List (Int × Addr)} {h : Hist} (p : Paired (DayR H) g h) (hg : getA g d = some T) (nk : (h.map (·.1)).Nodup)
    (hT : H' T = some (.dK (toldK t'))) (ho : ∀ c ∈ g.map (·.2), c ≠ T → ∀ o, H c = some o → H' c = some o) (nd : (g.map (·.2)).Nodup) : Paired (DayR H') g (h.map fun e => if e.1 = d then (e.1, t') else e) := by
  induction p with
  | nil => exact .nil
  | cons r p ih =>
    rename_i x y xs ys
    have nk' := (List.nodup_cons.mp nk)
    have nd' := (List.nodup_cons.mp nd)
    by_cases e : y.1 = d
    · have e1 : x.2 = T := by
        rw [getA_pos (r.1.trans e)] at hg
        exact Option.some.inj hg
      refine .cons ?_ ?_
      · show DayR H' x (if y.1 = d then (y.1, t') else y)
        rw [if_pos e]
        exact ⟨r.1, by rw [e1]; exact hT⟩
      · have em : ys.map (fun e => if e.1 = d then (e.1, t') else e) = ys := by
          have : ∀ q ∈ ys, (if q.1 = d then (q.1, t') else q) = q := fun q hq => if_neg fun z => nk'.1 (List.mem_map.mpr ⟨q, hq, z.trans e.symm⟩)
          exact (List.map_congr_left this).trans (List.map_id _)
        rw [em]
        have : ∀ {g : List (Int × Addr)} {t : Hist}, (∀ c ∈ g.map (·.2), c ∈ xs.map (·.2)) → Paired (DayR H) g t → Paired (DayR H') g t := by
          intro g t hg hp
          induction hp with
          | nil => exact .nil
          | cons r' _ ih' =>
            refine .cons ⟨r'.1, ho _ (List.mem_cons_of_mem _ (hg _ List.mem_cons_self)) (fun z => ?_) _ r'.2⟩ (ih' fun c hc => hg c (List.mem_cons_of_mem _ hc))
            have := hg _ List.mem_cons_self
            rw [z, ← e1] at this
            exact nd'.1 this
        exact this (fun c hc => hc) p
    · rw [getA_neg (fun z => e (r.1.symm.trans z))] at hg
      have hx : x.2 ≠ T := fun z => nd'.1 (by show x.2 ∈ _; rw [z]; exact List.mem_map.mpr ⟨_, getA_mem hg, rfl⟩)
      refine .cons ?_ (ih hg nk'.2 (fun c hc => ho c (List.mem_cons_of_mem _ hc)) nd'.2)
      show DayR H' x (if y.1 = d then (y.1, t') else y)
      rw [if_neg e]
      exact ⟨r.1, ho _ List.mem_cons_self hx _ r.2⟩
theorem putA_old {κ α : Type} [DecidableEq κ] {kvs : List (κ × α)} {k : κ} {v x : α} (h : getA kvs k = some x) : putA kvs k v = kvs.map fun p => if p.1 = k then (p.1, v) else p := by
  unfold putA
  rw [getA_any, h]
  rfl
theorem paired_snoc' {α β : Type} {R : α → β → Prop} : ∀ {xs : List α} {ys : List β} {x : α} {y : β}, Paired R xs ys → R x y → Paired R (xs ++ [x]) (ys ++ [y]) := by
  intro xs ys x y p r
  induction p with
  | nil => exact .cons r .nil
  | cons r' _ ih => exact .cons r' ih
/-- a note of a day that was told of -/
theorem HistAt.note1 {C : Addr} {H H' : Hp} {a : HA} {d kn : Int} {w : V} {T : Addr} {t : Told} (h : HistAt C H a) (hg : getA a.g d = some T) (hh : getA a.h d = some t)
    (hT : H' T = some (.dK (toldK (putA t kn w)))) (ho : ∀ c, c ≠ T → ∀ o, H c = some o → H' c = some o) : HistAt C H' { a with h := noteH a.h kn d w } := by
  have nd := h.nd
  have nd1 := List.nodup_cons.mp nd
  have nd2 := List.nodup_cons.mp nd1.2
  have mT : T ∈ a.g.map (·.2) := List.mem_map.mpr ⟨_, getA_mem hg, rfl⟩
  refine ⟨ho _ (fun z : a.x = T => nd1.1 (List.mem_cons_of_mem _ (by rw [z]; exact mT))) _ h.ix, ho _ (fun z : a.D = T => nd2.1 (by rw [z]; exact mT)) _ h.bd, ?_, h.nd, nodup_put h.nk⟩
  show Paired (DayR H') a.g (noteH a.h kn d w)
  unfold noteH
  rw [hh, Option.getD_some, putA_old hh]
  exact paired_set h.ta hg h.nk hT (fun c _ n o e => ho c n o e) nd2.2
/-- a note of another day -/
theorem HistAt.note2 {C : Addr} {H H' : Hp} {a : HA} {d kn : Int} {w : V} {T : Addr} (h : HistAt C H a) (hg : getA a.g d = none) (hh : getA a.h d = none) (nT : H T = none)
    (hT : H' T = some (.dK (toldK [(kn, w)]))) (hD : H' a.D = some (.dK (dayK (a.g ++ [(d, T)])))) (ho : ∀ c, c ≠ T → c ≠ a.D → ∀ o, H c = some o → H' c = some o) : HistAt C H' { a with g := a.g ++ [(d, T)], h := noteH a.h kn d w } := by
  have nd := h.nd
  have nd1 := List.nodup_cons.mp nd
  have nd2 := List.nodup_cons.mp nd1.2
  have nTf : T ∉ a.fp := fun z => by
    obtain ⟨o, e⟩ := h.ex T z
    rw [nT] at e
    cases e
  refine ⟨ho _ (fun z : a.x = T => nTf (by rw [← z]; exact List.mem_cons_self)) (fun z : a.x = a.D => nd1.1 (by rw [z]; exact List.mem_cons_self)) _ h.ix, hD, ?_, ?_, nodup_put h.nk⟩
  · show Paired (DayR H') (a.g ++ [(d, T)]) (noteH a.h kn d w)
    unfold noteH
    rw [hh, Option.getD_none, putA_new hh]
    refine paired_snoc' ?_ ⟨rfl, hT⟩
    have : ∀ {g : List (Int × Addr)} {t : Hist}, (∀ c ∈ g.map (·.2), c ∈ a.g.map (·.2)) → Paired (DayR H) g t → Paired (DayR H') g t := by
      intro g t hg hp
      induction hp with
      | nil => exact .nil
      | cons r' _ ih' =>
        have m := hg _ List.mem_cons_self
        exact .cons ⟨r'.1, ho _ (fun z => nTf (by rw [← z]; exact List.mem_cons_of_mem _ (List.mem_cons_of_mem _ m))) (fun z => nd2.1 (by rw [← z]; exact m)) _ r'.2⟩ (ih' fun c hc => hg c (List.mem_cons_of_mem _ hc))
    exact this (fun c hc => hc) h.ta
  · show (a.x :: a.D :: (a.g ++ [(d, T)]).map (·.2)).Nodup
    rw [List.map_append]
    have e : a.x :: a.D :: (a.g.map (·.2) ++ [T]) = a.fp ++ [T] := rfl
    show (a.x :: a.D :: (a.g.map (·.2) ++ [T])).Nodup
    rw [e, List.nodup_append]
    refine ⟨nd, List.nodup_cons.mpr ⟨nofun, List.nodup_nil⟩, fun x hx y hy z => ?_⟩
    rw [List.mem_singleton.mp hy] at z
    exact nTf (by rw [← z]; exact hx)
def OKH (a : HA) : Prop := a.h.length ≤ 60 ∧ ∀ e ∈ a.h, e.2.length ≤ 60
theorem OKH.of {es : List Evt} {mv : Bool} {who : Str} {a : HA} (h : a.h = histE es mv who) (hl : es.length ≤ 60) : OKH a := by
  obtain ⟨k1, k2⟩ := hist_keys mv who es
  refine ⟨by rw [h]; omega, fun e he => ?_⟩
  rw [h] at he
  have := (hist_of mv who es e.1 e.2 (getA_of_mem k1 he)).2.1
  omega
def spHInit (C : Addr) : Sp := fun vs H Q _ => ∃ (x dx : Addr), vs = [.ref x] ∧ H x = some (.ins C dx []) ∧
  ∀ (a : HA) (H' : Hp), a.x = x → a.h = [] → a.g = [] → H a.D = none → HistAt C H' a → SameB x H H' → Q .non H'
def spNote (C : Addr) : Sp := fun vs H Q _ => ∃ (a : HA) (kn d : Int) (w : V), vs = [.ref a.x, .int kn, .int d, w] ∧ HistAt C H a ∧ OKH a ∧
  ∀ (a' : HA) (H' : Hp), a'.x = a.x → a'.h = noteH a.h kn d w → HistAt C H' a' → (∀ c ∈ a'.fp, c ∈ a.fp ∨ H c = none) → SameL a.fp H H' → Q .non H'
def spLast (C : Addr) : Sp := fun vs H Q _ => ∃ (a : HA) (d : Int) (kn : Option Int), vs = [.ref a.x, .int d, knV kn] ∧ HistAt C H a ∧ OKH a ∧
  ∀ (w : V) (H' : Hp), LastW ((getA a.h d).getD []) kn w → Same H H' → Q w H'
/-- tuples of a day and a worth -/
def RowsP (H : Hp) (ts : List Addr) (L : List (Int × V)) : Prop := Paired (fun t (p : Int × V) => H t = some (.tup [.int p.1, p.2])) ts L
theorem RowsP.mono {H H' : Hp} {ts : List Addr} {L : List (Int × V)} (h : RowsP H ts L) (s : Same H H') : RowsP H' ts L := paired_imp (fun _ _ h => s _ _ h) h
theorem RowsP.snoc {H : Hp} {ts : List Addr} {L : List (Int × V)} {t : Addr} {d : Int} {w : V} (h : RowsP H ts L) (e : H t = some (.tup [.int d, w])) : RowsP H (ts ++ [t]) (L ++ [(d, w)]) := paired_snoc' h e
theorem RowsP.upd {H : Hp} {ts : List Addr} {L : List (Int × V)} {F : Addr} {xs : List V} {o : HO} (h : RowsP H ts L) (e : H F = some (.lst xs)) : RowsP (L2.upd H F o) ts L := paired_imp (fun t p h => by rw [upd_ne (ne_of h e (by intro z; cases z))]; exact h) h
theorem RowsP.at_ {H : Hp} {ts : List Addr} {L : List (Int × V)} {i : Nat} {v : V} (h : RowsP H ts L) (e : (ts.map V.ref)[i]? = some v) : ∃ t p, v = .ref t ∧ L[i]? = some p ∧ H t = some (.tup [.int p.1, p.2]) := by
  rw [List.getElem?_map, Option.map_eq_some_iff] at e
  obtain ⟨t, e, rfl⟩ := e
  obtain ⟨p, h1, h2⟩ := paired_get h e
  exact ⟨t, p, rfl, h1, h2⟩
/-- a list of them -/
def RowsAt (H : Hp) (l : Addr) (L : List (Int × V)) : Prop := ∃ ts : List Addr, H l = some (.lst (ts.map V.ref)) ∧ RowsP H ts L
theorem RowsAt.mono {H H' : Hp} {l : Addr} {L : List (Int × V)} (h : RowsAt H l L) (s : Same H H') : RowsAt H' l L := by
  obtain ⟨ts, a, b⟩ := h
  exact ⟨ts, s _ _ a, b.mono s⟩
theorem HistAt.glen {C : Addr} {H : Hp} {a : HA} (h : HistAt C H a) : a.g.length = a.h.length := Paired.length h.ta
/-- of all days, by rising days, those of which anything holds -/
theorem hold_of {h : Hist} {kn : Option Int} {ys : List Int} {rs : List (Int × V)} (nk : (h.map (·.1)).Nodup) (perm : ys.Perm (h.map (·.1))) (up : ys.Pairwise (· ≤ ·)) (ek : rs.map (·.1) = ys)
    (hl : ∀ p ∈ rs, LastW ((getA h p.1).getD []) kn p.2) : HoldH h kn (rs.filter fun p => !decide (p.2 = .non)) := by
  have nd : ys.Nodup := perm.nodup_iff.mpr nk
  have lt : ys.Pairwise (· < ·) := (up.and nd).imp fun ⟨a, b⟩ => by omega
  refine ⟨?_, ?_, fun d w => ?_⟩
  · rw [← ek, List.pairwise_map] at lt
    exact lt.filter _
  · refine Nat.le_trans (List.length_filter_le _ _) ?_
    have e1 := congrArg List.length ek
    have e2 := perm.length_eq
    rw [List.length_map] at e1 e2
    omega
  · rw [List.mem_filter]
    constructor
    · rintro ⟨a, b⟩
      refine ⟨fun e => ?_, hl _ a⟩
      have b : (!decide (w = V.non)) = true := b
      rw [decide_eq_true e] at b
      cases b
    · rintro ⟨a, b⟩
      have hd : d ∈ ys := by
        rw [perm.mem_iff]
        cases hg : getA h d with
        | none =>
          rw [hg] at b
          exact absurd (b.uniq .nil) a
        | some t => exact List.mem_map.mpr ⟨_, getA_mem hg, rfl⟩
      rw [← ek] at hd
      obtain ⟨p, hp, e⟩ := List.mem_map.mp hd
      have e2 := hl p hp
      rw [e] at e2
      have e3 := e2.uniq b
      refine ⟨by rw [← e, ← e3]; exact hp, ?_⟩
      show (!decide (w = V.non)) = true
      rw [decide_eq_false a]
      rfl
def spHolding (C : Addr) : Sp := fun vs H Q _ => ∃ (a : HA) (kn : Option Int), vs = [.ref a.x, knV kn] ∧ HistAt C H a ∧ OKH a ∧
  ∀ (l : Addr) (L : List (Int × V)) (H' : Hp), H l = none → RowsAt H' l L → HoldH a.h kn L → Same H H' → Q (.ref l) H'
end LT
set_option Elab.async false
set_option linter.all false
set_option maxRecDepth 100000
set_option maxHeartbeats 1600000
/-! Own layer: a book on the heap. -/
namespace LT
open PySem PySem.Spec PyProof.Rows L2 NdefX
structure BA where
  b : Addr
  dx : Addr
  R : Addr
  M : Addr
  L : Addr
  mv : List (Str × HA)
  ld : List (Str × HA)
  rk : List (Str × Int)
  es : List Evt
def hsfp (hs : List (Str × HA)) : List Addr := hs.flatMap fun e => e.2.fp
def hsK (hs : List (Str × HA)) : List (Key × V) := enA Sum.inr (fun a : HA => V.ref a.x) hs
def BA.fp (B : BA) : List Addr := B.b :: B.R :: B.M :: B.L :: (hsfp B.mv ++ hsfp B.ld)
def lateV (es : List Evt) : V := match es.getLast? with
  | none => .non
  | some e => .int e.kn
/-- ranks -/
structure Rk (rk : List (Str × Int)) : Prop where
  nd : (rk.map (·.1)).Nodup
  nm : ∀ p ∈ rk, Nm p.1
  b1 : ∀ p ∈ rk, 1 ≤ p.2 ∧ p.2 ≤ 9
  ln : rk.length ≤ 30
def Pl (z : Str) : Prop := z = Str.ofString "" ∨ Nm z
structure EvOK (rk : List (Str × Int)) (e : Evt) : Prop where
  k0 : 0 ≤ e.kn
  d0 : 0 ≤ e.day
  d1 : e.day < 10 ^ 55
  mw : e.mv = true → e.who ∈ rk.map (·.1) ∧ (e.w = .non ∨ ∃ z, e.w = .str z ∧ Pl z)
  lw : e.mv = false → Nm e.who ∧ ∃ n : Int, e.w = .int n ∧ 0 ≤ n ∧ n < 10 ^ 57
structure BkH (CB CH : Addr) (H : Hp) (B : BA) (v : V) : Prop where
  ix : H B.b = some (.ins CB B.dx [("rank_of", .ref B.R), ("moves", .ref B.M), ("landings", .ref B.L), ("latest_known", v)])
  rd : H B.R = some (.dK (sd B.rk))
  md : H B.M = some (.dK (hsK B.mv))
  ldd : H B.L = some (.dK (hsK B.ld))
  hm : ∀ e ∈ B.mv, HistAt CH H e.2
  hl : ∀ e ∈ B.ld, HistAt CH H e.2
  nd : B.fp.Nodup
structure BkP (B : BA) : Prop where
  rk : Rk B.rk
  km : B.mv.map (·.1) = B.rk.map (·.1)
  lk : (B.ld.map (·.1)).Nodup
  hm : ∀ e ∈ B.mv, e.2.h = histE B.es true e.1
  hl : ∀ e ∈ B.ld, e.2.h = histE B.es false e.1
  ln : ∀ e ∈ B.es, e.mv = false → e.who ∈ B.ld.map (·.1)
  up : Rising B.es
  ev : ∀ e ∈ B.es, EvOK B.rk e
theorem hsfp_app (a b : List (Str × HA)) : hsfp (a ++ b) = hsfp a ++ hsfp b := List.flatMap_append
theorem hsfp_cons (e : Str × HA) (b : List (Str × HA)) : hsfp (e :: b) = e.2.fp ++ hsfp b := rfl
theorem hsfp_mem {hs : List (Str × HA)} {c : Addr} : c ∈ hsfp hs ↔ ∃ e ∈ hs, c ∈ e.2.fp := List.mem_flatMap
theorem BkH.ex {CB CH : Addr} {H : Hp} {B : BA} {v : V} (h : BkH CB CH H B v) : ∀ c ∈ B.fp, ∃ o, H c = some o := by
  intro c hc
  rcases List.mem_cons.mp hc with rfl | hc
  · exact ⟨_, h.ix⟩
  rcases List.mem_cons.mp hc with rfl | hc
  · exact ⟨_, h.rd⟩
  rcases List.mem_cons.mp hc with rfl | hc
  · exact ⟨_, h.md⟩
  rcases List.mem_cons.mp hc with rfl | hc
  · exact ⟨_, h.ldd⟩
  rcases List.mem_append.mp hc with hc | hc
  · obtain ⟨e, he, hc⟩ := hsfp_mem.mp hc
    exact (h.hm e he).ex c hc
  · obtain ⟨e, he, hc⟩ := hsfp_mem.mp hc
    exact (h.hl e he).ex c hc
theorem BkH.by {CB CH : Addr} {H H' : Hp} {B : BA} {v : V} (h : BkH CB CH H B v) (f : ∀ c ∈ B.fp, ∀ o, H c = some o → H' c = some o) : BkH CB CH H' B v := by
  have m1 : B.b ∈ B.fp := List.mem_cons_self
  have m2 : B.R ∈ B.fp := List.mem_cons_of_mem _ List.mem_cons_self
  have m3 : B.M ∈ B.fp := List.mem_cons_of_mem _ (List.mem_cons_of_mem _ List.mem_cons_self)
  have m4 : B.L ∈ B.fp := List.mem_cons_of_mem _ (List.mem_cons_of_mem _ (List.mem_cons_of_mem _ List.mem_cons_self))
  have mt : ∀ c ∈ hsfp B.mv ++ hsfp B.ld, c ∈ B.fp := fun c hc => List.mem_cons_of_mem _ (List.mem_cons_of_mem _ (List.mem_cons_of_mem _ (List.mem_cons_of_mem _ hc)))
  exact ⟨f _ m1 _ h.ix, f _ m2 _ h.rd, f _ m3 _ h.md, f _ m4 _ h.ldd,
    fun e he => (h.hm e he).by fun c hc => f c (mt c (List.mem_append_left _ (hsfp_mem.mpr ⟨e, he, hc⟩))),
    fun e he => (h.hl e he).by fun c hc => f c (mt c (List.mem_append_right _ (hsfp_mem.mpr ⟨e, he, hc⟩))), h.nd⟩
theorem nodup_swap {X F F' Y : List Addr} (h : (X ++ (F ++ Y)).Nodup) (h' : F'.Nodup) (hs : ∀ c ∈ F', c ∈ F ∨ (c ∉ X ∧ c ∉ Y)) : (X ++ (F' ++ Y)).Nodup := by
  rw [List.nodup_append, List.nodup_append] at h ⊢
  obtain ⟨a, ⟨b, c, d⟩, e⟩ := h
  refine ⟨a, ⟨h', c, fun x hx y hy z => ?_⟩, fun x hx y hy z => ?_⟩
  · subst z
    rcases hs x hx with h | h
    · exact d x h x hy rfl
    · exact h.2 hy
  · subst z
    rcases List.mem_append.mp hy with hy | hy
    · rcases hs x hy with h | h
      · exact e x hx x (List.mem_append_left _ h) rfl
      · exact h.1 hx
    · exact e x hx x (List.mem_append_right _ hy) rfl
theorem get_split {α : Type} {z : Str} {a : α} : ∀ {hs : List (Str × α)}, getA hs z = some a → ∃ l1 l2, hs = l1 ++ (z, a) :: l2 ∧ z ∉ l1.map (·.1)
  | [], h => nomatch h
  | p :: r, h => by
    by_cases e : p.1 = z
    · rw [getA_pos e] at h
      cases h
      subst e
      exact ⟨[], r, rfl, nofun⟩
    · rw [getA_neg e] at h
      obtain ⟨l1, l2, rfl, n⟩ := get_split h
      refine ⟨p :: l1, l2, rfl, fun hm => ?_⟩
      rcases List.mem_cons.mp hm with hm | hm
      · exact e hm.symm
      · exact n hm
theorem hsK_swap {l1 l2 : List (Str × HA)} {z : Str} {a a' : HA} (h : a'.x = a.x) : hsK (l1 ++ (z, a') :: l2) = hsK (l1 ++ (z, a) :: l2) := by
  unfold hsK enA
  rw [List.map_append, List.map_append, List.map_cons, List.map_cons]
  show _ ++ ((Sum.inr z : Key), V.ref a'.x) :: _ = _ ++ ((Sum.inr z : Key), V.ref a.x) :: _
  rw [h]
theorem step_eq (mv : Bool) (kn : Int) (z : Str) (d : Int) (w : V) (h : Hist) : stepH mv z h ⟨mv, kn, z, d, w⟩ = noteH h kn d w := by
  unfold stepH
  rw [show ofE mv z ⟨mv, kn, z, d, w⟩ = true from ofE_iff.mpr ⟨rfl, rfl⟩]
  rfl
theorem step_ne {mv : Bool} {who : Str} {h : Hist} {e : Evt} (n : ¬ (e.mv = mv ∧ e.who = who)) : stepH mv who h e = h := by
  unfold stepH
  rw [if_neg (fun z => n (ofE_iff.mp z))]
/-- one keeper's history put otherwise -/
theorem BkH.setM {CB CH : Addr} {H H' : Hp} {B : BA} {v : V} {l1 l2 : List (Str × HA)} {z : Str} {a a' : HA} (h : BkH CB CH H B v) (e : B.mv = l1 ++ (z, a) :: l2)
    (h' : HistAt CH H' a') (ex : a'.x = a.x) (fr : ∀ c ∈ a'.fp, c ∈ a.fp ∨ H c = none) (s : SameL a.fp H H') :
    BkH CB CH H' { B with mv := l1 ++ (z, a') :: l2 } v ∧ (∀ c ∈ BA.fp { B with mv := l1 ++ (z, a') :: l2 }, c ∈ B.fp ∨ H c = none) ∧ SameL B.fp H H' := by
  have efp : B.fp = (B.b :: B.R :: B.M :: B.L :: hsfp l1) ++ (a.fp ++ (hsfp l2 ++ hsfp B.ld)) := by
    unfold BA.fp
    rw [e, hsfp_app, hsfp_cons, List.append_assoc, List.append_assoc]
    rfl
  have efp' : BA.fp { B with mv := l1 ++ (z, a') :: l2 } = (B.b :: B.R :: B.M :: B.L :: hsfp l1) ++ (a'.fp ++ (hsfp l2 ++ hsfp B.ld)) := by
    unfold BA.fp
    show B.b :: B.R :: B.M :: B.L :: (hsfp (l1 ++ (z, a') :: l2) ++ hsfp B.ld) = _
    rw [hsfp_app, hsfp_cons, List.append_assoc, List.append_assoc]
    rfl
  have nd := h.nd
  rw [efp] at nd
  have nd0 := nd
  rw [List.nodup_append, List.nodup_append] at nd
  obtain ⟨_, ⟨_, _, n3⟩, n4⟩ := nd
  have offX : ∀ c ∈ B.b :: B.R :: B.M :: B.L :: hsfp l1, c ∉ a.fp := fun c hc hf => n4 c hc c (List.mem_append_left _ hf) rfl
  have offY : ∀ c ∈ hsfp l2 ++ hsfp B.ld, c ∉ a.fp := fun c hc hf => n3 c hf c hc rfl
  have exf := h.ex
  refine ⟨⟨s _ _ (offX _ List.mem_cons_self) h.ix, s _ _ (offX _ (List.mem_cons_of_mem _ List.mem_cons_self)) h.rd, ?_, s _ _ (offX _ (List.mem_cons_of_mem _ (List.mem_cons_of_mem _ (List.mem_cons_of_mem _ List.mem_cons_self)))) h.ldd, ?_, ?_, ?_⟩, ?_, ?_⟩
  · show H' B.M = some (.dK (hsK (l1 ++ (z, a') :: l2)))
    rw [hsK_swap ex, ← e]
    exact s _ _ (offX _ (List.mem_cons_of_mem _ (List.mem_cons_of_mem _ List.mem_cons_self))) h.md
  · intro q hq
    rcases List.mem_append.mp hq with hq | hq
    · exact (h.hm q (by rw [e]; exact List.mem_append_left _ hq)).monoL s fun c hc => offX c (List.mem_cons_of_mem _ (List.mem_cons_of_mem _ (List.mem_cons_of_mem _ (List.mem_cons_of_mem _ (hsfp_mem.mpr ⟨q, hq, hc⟩)))))
    · rcases List.mem_cons.mp hq with rfl | hq
      · exact h'
      · exact (h.hm q (by rw [e]; exact List.mem_append_right _ (List.mem_cons_of_mem _ hq))).monoL s fun c hc => offY c (List.mem_append_left _ (hsfp_mem.mpr ⟨q, hq, hc⟩))
  · exact fun q hq => (h.hl q hq).monoL s fun c hc => offY c (List.mem_append_right _ (hsfp_mem.mpr ⟨q, hq, hc⟩))
  · rw [efp']
    refine nodup_swap nd0 h'.nd fun c hc => ?_
    rcases fr c hc with f | f
    · exact .inl f
    · refine .inr ⟨fun z => ?_, fun z => ?_⟩
      · obtain ⟨o, w⟩ := exf c (by rw [efp]; exact List.mem_append_left _ z)
        rw [f] at w
        cases w
      · obtain ⟨o, w⟩ := exf c (by rw [efp]; exact List.mem_append_right _ (List.mem_append_right _ z))
        rw [f] at w
        cases w
  · intro c hc
    rw [efp'] at hc
    rw [efp]
    rcases List.mem_append.mp hc with hc | hc
    · exact .inl (List.mem_append_left _ hc)
    · rcases List.mem_append.mp hc with hc | hc
      · exact (fr c hc).imp (fun f => List.mem_append_right _ (List.mem_append_left _ f)) id
      · exact .inl (List.mem_append_right _ (List.mem_append_right _ hc))
  · refine s.mono fun c hc => ?_
    rw [efp]
    exact List.mem_append_right _ (List.mem_append_left _ hc)
/-- one light's history put otherwise -/
theorem BkH.setL {CB CH : Addr} {H H' : Hp} {B : BA} {v : V} {l1 l2 : List (Str × HA)} {z : Str} {a a' : HA} (h : BkH CB CH H B v) (e : B.ld = l1 ++ (z, a) :: l2)
    (h' : HistAt CH H' a') (ex : a'.x = a.x) (fr : ∀ c ∈ a'.fp, c ∈ a.fp ∨ H c = none) (s : SameL a.fp H H') :
    BkH CB CH H' { B with ld := l1 ++ (z, a') :: l2 } v ∧ (∀ c ∈ BA.fp { B with ld := l1 ++ (z, a') :: l2 }, c ∈ B.fp ∨ H c = none) ∧ SameL B.fp H H' := by
  have efp : B.fp = (B.b :: B.R :: B.M :: B.L :: (hsfp B.mv ++ hsfp l1)) ++ (a.fp ++ hsfp l2) := by
    unfold BA.fp
    rw [e, hsfp_app, hsfp_cons, ← List.append_assoc]
    rfl
  have efp' : BA.fp { B with ld := l1 ++ (z, a') :: l2 } = (B.b :: B.R :: B.M :: B.L :: (hsfp B.mv ++ hsfp l1)) ++ (a'.fp ++ hsfp l2) := by
    unfold BA.fp
    show B.b :: B.R :: B.M :: B.L :: (hsfp B.mv ++ hsfp (l1 ++ (z, a') :: l2)) = _
    rw [hsfp_app, hsfp_cons, ← List.append_assoc]
    rfl
  have nd := h.nd
  rw [efp] at nd
  have nd0 := nd
  rw [List.nodup_append, List.nodup_append] at nd
  obtain ⟨_, ⟨_, _, n3⟩, n4⟩ := nd
  have offX : ∀ c ∈ B.b :: B.R :: B.M :: B.L :: (hsfp B.mv ++ hsfp l1), c ∉ a.fp := fun c hc hf => n4 c hc c (List.mem_append_left _ hf) rfl
  have offY : ∀ c ∈ hsfp l2, c ∉ a.fp := fun c hc hf => n3 c hf c hc rfl
  have exf := h.ex
  have d4 : ∀ {c : Addr} {X : List Addr}, c ∈ X → c ∈ B.b :: B.R :: B.M :: B.L :: X := fun h => List.mem_cons_of_mem _ (List.mem_cons_of_mem _ (List.mem_cons_of_mem _ (List.mem_cons_of_mem _ h)))
  refine ⟨⟨s _ _ (offX _ List.mem_cons_self) h.ix, s _ _ (offX _ (List.mem_cons_of_mem _ List.mem_cons_self)) h.rd, s _ _ (offX _ (List.mem_cons_of_mem _ (List.mem_cons_of_mem _ List.mem_cons_self))) h.md, ?_, ?_, ?_, ?_⟩, ?_, ?_⟩
  · show H' B.L = some (.dK (hsK (l1 ++ (z, a') :: l2)))
    rw [hsK_swap ex, ← e]
    exact s _ _ (offX _ (List.mem_cons_of_mem _ (List.mem_cons_of_mem _ (List.mem_cons_of_mem _ List.mem_cons_self)))) h.ldd
  · exact fun q hq => (h.hm q hq).monoL s fun c hc => offX c (d4 (List.mem_append_left _ (hsfp_mem.mpr ⟨q, hq, hc⟩)))
  · intro q hq
    rcases List.mem_append.mp hq with hq | hq
    · exact (h.hl q (by rw [e]; exact List.mem_append_left _ hq)).monoL s fun c hc => offX c (d4 (List.mem_append_right _ (hsfp_mem.mpr ⟨q, hq, hc⟩)))
    · rcases List.mem_cons.mp hq with rfl | hq
      · exact h'
      · exact (h.hl q (by rw [e]; exact List.mem_append_right _ (List.mem_cons_of_mem _ hq))).monoL s fun c hc => offY c (hsfp_mem.mpr ⟨q, hq, hc⟩)
  · rw [efp']
    refine nodup_swap nd0 h'.nd fun c hc => ?_
    rcases fr c hc with f | f
    · exact .inl f
    · refine .inr ⟨fun z => ?_, fun z => ?_⟩
      · obtain ⟨o, w⟩ := exf c (by rw [efp]; exact List.mem_append_left _ z)
        rw [f] at w
        cases w
      · obtain ⟨o, w⟩ := exf c (by rw [efp]; exact List.mem_append_right _ (List.mem_append_right _ z))
        rw [f] at w
        cases w
  · intro c hc
    rw [efp'] at hc
    rw [efp]
    rcases List.mem_append.mp hc with hc | hc
    · exact .inl (List.mem_append_left _ hc)
    · rcases List.mem_append.mp hc with hc | hc
      · exact (fr c hc).imp (fun f => List.mem_append_right _ (List.mem_append_left _ f)) id
      · exact .inl (List.mem_append_right _ (List.mem_append_right _ hc))
  · refine s.mono fun c hc => ?_
    rw [efp]
    exact List.mem_append_right _ (List.mem_append_left _ hc)
/-- one light more -/
theorem BkH.newL {CB CH : Addr} {H H1 H' : Hp} {B : BA} {v : V} {z : Str} {a : HA} (h : BkH CB CH H B v) (s1 : Same H H1) (h' : HistAt CH H1 a) (fr : ∀ c ∈ a.fp, H c = none)
    (hL : H' B.L = some (.dK (hsK (B.ld ++ [(z, a)])))) (s : SameB B.L H1 H') :
    BkH CB CH H' { B with ld := B.ld ++ [(z, a)] } v ∧ (∀ c ∈ BA.fp { B with ld := B.ld ++ [(z, a)] }, c ∈ B.fp ∨ H c = none) ∧ SameL B.fp H H' := by
  have efp' : BA.fp { B with ld := B.ld ++ [(z, a)] } = B.fp ++ a.fp := by
    unfold BA.fp
    show B.b :: B.R :: B.M :: B.L :: (hsfp B.mv ++ hsfp (B.ld ++ [(z, a)])) = _
    rw [hsfp_app, ← List.append_assoc]
    show _ = B.b :: B.R :: B.M :: B.L :: (hsfp B.mv ++ hsfp B.ld ++ a.fp)
    rw [show hsfp [(z, a)] = a.fp from List.append_nil _]
  have exf := h.ex
  have nd := h.nd
  have n1 := (List.nodup_cons.mp nd).1
  have n2 := (List.nodup_cons.mp (List.nodup_cons.mp nd).2).1
  have n3 := (List.nodup_cons.mp (List.nodup_cons.mp (List.nodup_cons.mp nd).2).2).1
  have n4 := (List.nodup_cons.mp (List.nodup_cons.mp (List.nodup_cons.mp (List.nodup_cons.mp nd).2).2).2).1
  have mL : B.L ∈ B.fp := List.mem_cons_of_mem _ (List.mem_cons_of_mem _ (List.mem_cons_of_mem _ List.mem_cons_self))
  have up : ∀ c o, c ≠ B.L → H c = some o → H' c = some o := fun c o n e => s c o n (s1 c o e)
  refine ⟨⟨up _ _ (fun z => n1 (by rw [z]; exact List.mem_cons_of_mem _ (List.mem_cons_of_mem _ List.mem_cons_self))) h.ix, up _ _ (fun z => n2 (by rw [z]; exact List.mem_cons_of_mem _ List.mem_cons_self)) h.rd,
    up _ _ (fun z => n3 (by rw [z]; exact List.mem_cons_self)) h.md, hL, ?_, ?_, ?_⟩, ?_, ?_⟩
  · exact fun q hq => (h.hm q hq).by fun c hc o e => up c o (fun z => n4 (by rw [← z]; exact List.mem_append_left _ (hsfp_mem.mpr ⟨q, hq, hc⟩))) e
  · intro q hq
    rcases List.mem_append.mp hq with hq | hq
    · exact (h.hl q hq).by fun c hc o e => up c o (fun z => n4 (by rw [← z]; exact List.mem_append_right _ (hsfp_mem.mpr ⟨q, hq, hc⟩))) e
    · rw [List.mem_singleton.mp hq]
      refine h'.by fun c hc o e => s c o (fun z => ?_) e
      obtain ⟨o', w⟩ := exf B.L mL
      rw [← z, fr c hc] at w
      cases w
  · rw [efp', List.nodup_append]
    refine ⟨nd, h'.nd, fun x hx y hy z => ?_⟩
    obtain ⟨o', w⟩ := exf x hx
    rw [z, fr y hy] at w
    cases w
  · intro c hc
    rw [efp'] at hc
    exact (List.mem_append.mp hc).imp id (fr c)
  · exact fun c o n e => up c o (fun z => n (by rw [z]; exact mL)) e
/-- another latest day -/
theorem BkH.late {CB CH : Addr} {H : Hp} {B : BA} {v : V} (h : BkH CB CH H B v) (v' : V) :
    BkH CB CH (upd H B.b (.ins CB B.dx [("rank_of", .ref B.R), ("moves", .ref B.M), ("landings", .ref B.L), ("latest_known", v')])) B v' := by
  have n1 := (List.nodup_cons.mp h.nd).1
  have up : ∀ {c : Addr} {o : HO}, c ∈ B.R :: B.M :: B.L :: (hsfp B.mv ++ hsfp B.ld) → H c = some o → upd H B.b (.ins CB B.dx [("rank_of", .ref B.R), ("moves", .ref B.M), ("landings", .ref B.L), ("latest_known", v')]) c = some o := fun hc e => by
    rw [upd_ne (fun z => n1 (by rw [← z]; exact hc))]
    exact e
  have d3 : ∀ {c : Addr}, c ∈ hsfp B.mv ++ hsfp B.ld → c ∈ B.R :: B.M :: B.L :: (hsfp B.mv ++ hsfp B.ld) := fun h => List.mem_cons_of_mem _ (List.mem_cons_of_mem _ (List.mem_cons_of_mem _ h))
  exact ⟨upd_same, up List.mem_cons_self h.rd, up (List.mem_cons_of_mem _ List.mem_cons_self) h.md, up (List.mem_cons_of_mem _ (List.mem_cons_of_mem _ List.mem_cons_self)) h.ldd,
    fun q hq => (h.hm q hq).by fun c hc o e => up (d3 (List.mem_append_left _ (hsfp_mem.mpr ⟨q, hq, hc⟩))) e,
    fun q hq => (h.hl q hq).by fun c hc o e => up (d3 (List.mem_append_right _ (hsfp_mem.mpr ⟨q, hq, hc⟩))) e, h.nd⟩
/-- a book of these ranks stands at b, told these things; its own addresses are fp -/
def Bk (CB CH : Addr) (H : Hp) (b : Addr) (rk : List (Str × Int)) (es : List Evt) (fp : List Addr) : Prop :=
  ∃ B : BA, B.b = b ∧ B.rk = rk ∧ B.es = es ∧ B.fp = fp ∧ BkH CB CH H B (lateV es) ∧ BkP B ∧ B.ld.length ≤ B.es.length
theorem Bk.by {CB CH : Addr} {H H' : Hp} {b : Addr} {rk : List (Str × Int)} {es : List Evt} {fp : List Addr} (h : Bk CB CH H b rk es fp) (f : ∀ c ∈ fp, ∀ o, H c = some o → H' c = some o) : Bk CB CH H' b rk es fp := by
  obtain ⟨B, rfl, rfl, rfl, rfl, h1, h2⟩ := h
  exact ⟨B, rfl, rfl, rfl, rfl, h1.by f, h2⟩
theorem Bk.mono {CB CH : Addr} {H H' : Hp} {b : Addr} {rk : List (Str × Int)} {es : List Evt} {fp : List Addr} (h : Bk CB CH H b rk es fp) (s : Same H H') : Bk CB CH H' b rk es fp := h.by fun c _ o e => s c o e
theorem Bk.monoL {CB CH : Addr} {H H' : Hp} {S : List Addr} {b : Addr} {rk : List (Str × Int)} {es : List Evt} {fp : List Addr} (h : Bk CB CH H b rk es fp) (s : SameL S H H') (n : ∀ c ∈ fp, c ∉ S) : Bk CB CH H' b rk es fp := h.by fun c hc o e => s c o (n c hc) e
theorem Bk.ex {CB CH : Addr} {H : Hp} {b : Addr} {rk : List (Str × Int)} {es : List Evt} {fp : List Addr} (h : Bk CB CH H b rk es fp) : ∀ c ∈ fp, ∃ o, H c = some o := by
  obtain ⟨B, rfl, rfl, rfl, rfl, h1, _⟩ := h
  exact h1.ex
theorem Bk.ev {CB CH : Addr} {H : Hp} {b : Addr} {rk : List (Str × Int)} {es : List Evt} {fp : List Addr} (h : Bk CB CH H b rk es fp) : Rk rk ∧ Rising es ∧ ∀ e ∈ es, EvOK rk e := by
  obtain ⟨B, rfl, rfl, rfl, rfl, _, h2, _⟩ := h
  exact ⟨h2.rk, h2.up, h2.ev⟩
theorem lateV_snoc (es : List Evt) (e : Evt) : lateV (es ++ [e]) = .int e.kn := by
  unfold lateV
  rw [List.getLast?_append]
  rfl
theorem late_le {es : List Evt} {kn : Int} (h : ∀ e ∈ es, e.kn ≤ kn) : lateV es = .non ∨ ∃ l, lateV es = .int l ∧ l ≤ kn := by
  unfold lateV
  cases e : es.getLast? with
  | none => exact .inl rfl
  | some x => exact .inr ⟨x.kn, rfl, h x (List.mem_of_getLast? e)⟩
theorem rising_app {es : List Evt} {e : Evt} (h : Rising es) (g : ∀ a ∈ es, a.kn ≤ e.kn) : Rising (es ++ [e]) := by
  rw [Rising, List.pairwise_append]
  refine ⟨h, List.pairwise_singleton _ _, fun a ha b hb => ?_⟩
  rw [List.mem_singleton.mp hb]
  exact g a ha
/-- the pure side of a told move -/
theorem BkP.tell {B : BA} {l1 l2 : List (Str × HA)} {z : Str} {a a' : HA} {kn d : Int} {w : V} (h : BkP B) (e : B.mv = l1 ++ (z, a) :: l2) (ha : a'.h = noteH a.h kn d w)
    (hk : ∀ x ∈ B.es, x.kn ≤ kn) (ok : EvOK B.rk ⟨true, kn, z, d, w⟩) : BkP { B with mv := l1 ++ (z, a') :: l2, es := B.es ++ [⟨true, kn, z, d, w⟩] } := by
  have nk : (B.mv.map (·.1)).Nodup := by rw [h.km]; exact h.rk.nd
  rw [e, List.map_append, List.map_cons, List.nodup_append, List.nodup_cons] at nk
  obtain ⟨_, ⟨k2, _⟩, k4⟩ := nk
  have hne : ∀ q ∈ l1 ++ l2, q.1 ≠ z := by
    intro q hq hz
    rcases List.mem_append.mp hq with hq | hq
    · exact k4 z (by rw [← hz]; exact List.mem_map.mpr ⟨q, hq, rfl⟩) z List.mem_cons_self rfl
    · exact k2 (by show z ∈ _; rw [← hz]; exact List.mem_map.mpr ⟨q, hq, rfl⟩)
  have old : ∀ q ∈ l1 ++ l2, q.2.h = histE (B.es ++ [⟨true, kn, z, d, w⟩]) true q.1 := by
    intro q hq
    rw [histE_snoc, step_ne (fun he => hne q hq he.2.symm)]
    exact h.hm q (by
      rw [e]
      rcases List.mem_append.mp hq with hq | hq
      · exact List.mem_append_left _ hq
      · exact List.mem_append_right _ (List.mem_cons_of_mem _ hq))
  refine ⟨h.rk, ?_, h.lk, ?_, ?_, ?_, rising_app h.up hk, ?_⟩
  · have := h.km
    rw [e] at this
    show (l1 ++ (z, a') :: l2).map (·.1) = _
    rw [← this, List.map_append, List.map_append]
    rfl
  · intro q hq
    rcases List.mem_append.mp hq with hq | hq
    · exact old q (List.mem_append_left _ hq)
    rcases List.mem_cons.mp hq with rfl | hq
    · show a'.h = histE (B.es ++ [⟨true, kn, z, d, w⟩]) true z
      rw [histE_snoc]
      rw [step_eq, ha]
      have := h.hm (z, a) (by rw [e]; exact List.mem_append_right _ List.mem_cons_self)
      rw [show a.h = _ from this]
    · exact old q (List.mem_append_right _ hq)
  · intro q hq
    show q.2.h = histE (B.es ++ [⟨true, kn, z, d, w⟩]) false q.1
    rw [histE_snoc, step_ne (fun he => by cases he.1)]
    exact h.hl q hq
  · intro x hx hm
    rcases List.mem_append.mp hx with hx | hx
    · exact h.ln x hx hm
    · rw [List.mem_singleton.mp hx] at hm
      cases hm
  · intro x hx
    rcases List.mem_append.mp hx with hx | hx
    · exact h.ev x hx
    · rw [List.mem_singleton.mp hx]
      exact ok
/-- the pure side of a told landing, of a light that has a history -/
theorem BkP.land {B : BA} {l1 l2 : List (Str × HA)} {z : Str} {a a' : HA} {kn d : Int} {w : V} (h : BkP B) (e : B.ld = l1 ++ (z, a) :: l2) (ha : a'.h = noteH a.h kn d w)
    (hk : ∀ x ∈ B.es, x.kn ≤ kn) (ok : EvOK B.rk ⟨false, kn, z, d, w⟩) : BkP { B with ld := l1 ++ (z, a') :: l2, es := B.es ++ [⟨false, kn, z, d, w⟩] } := by
  have nk := h.lk
  rw [e, List.map_append, List.map_cons, List.nodup_append, List.nodup_cons] at nk
  obtain ⟨_, ⟨k2, _⟩, k4⟩ := nk
  have hne : ∀ q ∈ l1 ++ l2, q.1 ≠ z := by
    intro q hq hz
    rcases List.mem_append.mp hq with hq | hq
    · exact k4 z (by rw [← hz]; exact List.mem_map.mpr ⟨q, hq, rfl⟩) z List.mem_cons_self rfl
    · exact k2 (by show z ∈ _; rw [← hz]; exact List.mem_map.mpr ⟨q, hq, rfl⟩)
  have old : ∀ q ∈ l1 ++ l2, q.2.h = histE (B.es ++ [⟨false, kn, z, d, w⟩]) false q.1 := by
    intro q hq
    rw [histE_snoc, step_ne (fun he => hne q hq he.2.symm)]
    exact h.hl q (by
      rw [e]
      rcases List.mem_append.mp hq with hq | hq
      · exact List.mem_append_left _ hq
      · exact List.mem_append_right _ (List.mem_cons_of_mem _ hq))
  have ek : (l1 ++ (z, a') :: l2).map (·.1) = B.ld.map (·.1) := by
    rw [e, List.map_append, List.map_append]
    rfl
  refine ⟨h.rk, h.km, ?_, ?_, ?_, ?_, rising_app h.up hk, ?_⟩
  · show ((l1 ++ (z, a') :: l2).map (·.1)).Nodup
    rw [ek]
    exact h.lk
  · intro q hq
    show q.2.h = histE (B.es ++ [⟨false, kn, z, d, w⟩]) true q.1
    rw [histE_snoc, step_ne (fun he => by cases he.1)]
    exact h.hm q hq
  · intro q hq
    rcases List.mem_append.mp hq with hq | hq
    · exact old q (List.mem_append_left _ hq)
    rcases List.mem_cons.mp hq with rfl | hq
    · show a'.h = histE (B.es ++ [⟨false, kn, z, d, w⟩]) false z
      rw [histE_snoc]
      rw [step_eq, ha]
      have := h.hl (z, a) (by rw [e]; exact List.mem_append_right _ List.mem_cons_self)
      rw [show a.h = _ from this]
    · exact old q (List.mem_append_right _ hq)
  · intro x hx hm
    show x.who ∈ (l1 ++ (z, a') :: l2).map (·.1)
    rw [ek]
    rcases List.mem_append.mp hx with hx | hx
    · exact h.ln x hx hm
    · rw [List.mem_singleton.mp hx, e, List.map_append]
      exact List.mem_append_right _ List.mem_cons_self
  · intro x hx
    rcases List.mem_append.mp hx with hx | hx
    · exact h.ev x hx
    · rw [List.mem_singleton.mp hx]
      exact ok
theorem hist_none {z : Str} : ∀ es : List Evt, (∀ e ∈ es, e.mv = false → e.who ≠ z) → histE es false z = [] := by
  refine snoc_ind (fun _ => rfl) fun es e ih h => ?_
  rw [histE_snoc, ih fun x hx => h x (List.mem_append_left _ hx)]
  unfold stepH
  rw [if_neg (fun he => h e (List.mem_append_right _ List.mem_cons_self) (ofE_iff.mp he).1 (ofE_iff.mp he).2)]
/-- one light more, of which nothing was told -/
theorem BkP.newL {B : BA} {z : Str} {a : HA} (h : BkP B) (hz : z ∉ B.ld.map (·.1)) (ha : a.h = []) : BkP { B with ld := B.ld ++ [(z, a)] } := by
  refine ⟨h.rk, h.km, ?_, h.hm, ?_, ?_, h.up, h.ev⟩
  · show ((B.ld ++ [(z, a)]).map (·.1)).Nodup
    rw [List.map_append, List.nodup_append]
    refine ⟨h.lk, List.nodup_cons.mpr ⟨nofun, List.nodup_nil⟩, fun x hx y hy e => ?_⟩
    rw [List.map_singleton, List.mem_singleton] at hy
    exact hz (by rw [← show y = z from hy, ← e]; exact hx)
  · intro q hq
    rcases List.mem_append.mp hq with hq | hq
    · exact h.hl q hq
    · rw [List.mem_singleton.mp hq]
      show a.h = _
      rw [ha, hist_none B.es fun e he hm (e2 : e.who = z) => hz (by rw [← e2]; exact h.ln e he hm)]
  · intro x hx hm
    show x.who ∈ (B.ld ++ [(z, a)]).map (·.1)
    rw [List.map_append]
    exact List.mem_append_left _ (h.ln x hx hm)
end LT
set_option Elab.async false
set_option linter.all false
set_option maxRecDepth 100000
set_option maxHeartbeats 1600000
/-! Own layer: {k: v} with a tuple as key; "".join(reversed(a list)). -/
namespace LT
open PySem PySem.Spec PyProof.Rows L2 NdefX
/-! ### {k: v}, k a tuple -/
/-! ### "".join(reversed(xs)) -/
end LT
set_option Elab.async false
set_option linter.all false
set_option maxRecDepth 100000
set_option maxHeartbeats 1600000
/-! Own layer: weathers along tables, and the search for the first one beyond (pure). -/
namespace LT
open PySem PySem.Spec PyProof.Rows L2 NdefX
/-- where some weather leads -/
def aftF (t : KTab) : Int → List Nat → Option Int
  | i, [] => some i
  | i, c :: cs => match (t[i.toNat]?).bind (fun r => getA r ⟨#[c]⟩) with
    | none => none
    | some j => aftF t j cs
def rowAt (t : KTab) (i : Int) : KRow := (t[i.toNat]?).getD []
theorem rowAt_of {t : KTab} {i : Int} {r : KRow} (e : t[i.toNat]? = some r) : rowAt t i = r := by unfold rowAt; rw [e]; rfl
theorem bind_row (t : KTab) (i : Int) (z : Str) : (t[i.toNat]?).bind (fun r => getA r z) = getA (rowAt t i) z := by
  unfold rowAt
  cases t[i.toNat]? with
  | none => rfl
  | some r => rfl
theorem aft_cons (t : KTab) (i : Int) (c : Nat) (cs : List Nat) : aftF t i (c :: cs) = (getA (rowAt t i) ⟨#[c]⟩).bind fun j => aftF t j cs := by
  rw [aftF, bind_row]
  cases getA (rowAt t i) ⟨#[c]⟩ <;> rfl
theorem aft_app (t : KTab) : ∀ (a b : List Nat) (i : Int), aftF t i (a ++ b) = (aftF t i a).bind fun j => aftF t j b
  | [], b, i => rfl
  | c :: a, b, i => by
    rw [List.cons_append, aft_cons, aft_cons]
    cases getA (rowAt t i) ⟨#[c]⟩ with
    | none => rfl
    | some j => exact aft_app t a b j
theorem aft_snoc (t : KTab) (w : List Nat) (c : Nat) (i : Int) : aftF t i (w ++ [c]) = (aftF t i w).bind fun j => getA (rowAt t j) ⟨#[c]⟩ := by
  rw [aft_app]
  cases aftF t i w with
  | none => rfl
  | some j =>
    show aftF t j [c] = getA (rowAt t j) ⟨#[c]⟩
    rw [aft_cons]
    cases getA (rowAt t j) ⟨#[c]⟩ <;> rfl
theorem KTb.rowAt {t : KTab} (k : KTb t) {i : Int} (h0 : 0 ≤ i) (h1 : i < t.length) : KRw t.length (rowAt t i) := by
  have : i.toNat < t.length := by omega
  have e : t[i.toNat]? = some t[i.toNat] := List.getElem?_eq_getElem this
  rw [rowAt_of e]
  exact k.at_ e
/-! ### the search -/
abbrev Ent := (Int × Int) × List Nat
def addE (es : List Ent) (p : Int × Int) (w : List Nat) : List Ent := if p ∈ es.map (·.1) then es else es ++ [(p, w)]
theorem addE_pre (es : List Ent) (p : Int × Int) (w : List Nat) : es <+: addE es p w := by
  unfold addE
  split
  · exact List.prefix_refl _
  · exact List.prefix_append _ _
theorem addE_mem (es : List Ent) (p : Int × Int) (w : List Nat) : p ∈ (addE es p w).map (·.1) := by
  unfold addE
  split
  · assumption
  · rw [List.map_append, List.mem_append]
    exact .inr List.mem_cons_self
theorem addE_in {es : List Ent} {p : Int × Int} {w : List Nat} {e : Ent} (h : e ∈ addE es p w) : e ∈ es ∨ e = (p, w) := by
  unfold addE at h
  split at h
  · exact .inl h
  · rcases List.mem_append.mp h with h | h
    · exact .inl h
    · exact .inr (List.mem_singleton.mp h)
def scanR (w : List Nat) (o : KRow) : KRow → List Ent → (List Nat) ⊕ (List Ent)
  | [], es => .inr es
  | (z, v) :: r, es => match getA o z with
    | none => .inl (w ++ z.cps.toList)
    | some u => scanR w o r (addE es (v, u) (w ++ z.cps.toList))
inductive BSt
  | run (a : Nat) (es : List Ent)
  | stop (x : Option (List Nat))
def stepB (t u : KTab) : BSt → BSt
  | .stop x => .stop x
  | .run a es => match es[a]? with
    | none => .stop none
    | some e => match scanR e.2 (rowAt u e.1.2) (rowAt t e.1.1) es with
      | .inl w => .stop (some w)
      | .inr es' => .run (a + 1) es'
def iterB (t u : KTab) : Nat → BSt
  | 0 => .run 0 [((0, 0), [])]
  | n + 1 => stepB t u (iterB t u n)
def Res (t u : KTab) (x : Option (List Nat)) : Prop := ∃ n, iterB t u n = .stop x
theorem iter_stay {t u : KTab} {n : Nat} {x : Option (List Nat)} (h : iterB t u n = .stop x) : ∀ m, iterB t u (n + m) = .stop x
  | 0 => h
  | m + 1 => by
    show stepB t u (iterB t u (n + m)) = _
    rw [iter_stay h m]
    rfl
theorem Res.uniq {t u : KTab} {x y : Option (List Nat)} (h : Res t u x) (g : Res t u y) : x = y := by
  obtain ⟨n, h⟩ := h
  obtain ⟨m, g⟩ := g
  have a := iter_stay h m
  have b := iter_stay g n
  rw [Nat.add_comm] at b
  rw [a] at b
  injection b
/-- what holds of all that is met -/
structure BI (t u : KTab) (es : List Ent) : Prop where
  nd : (es.map (·.1)).Nodup
  bd : ∀ e ∈ es, (0 ≤ e.1.1 ∧ e.1.1 < t.length) ∧ (0 ≤ e.1.2 ∧ e.1.2 < u.length)
  re : ∀ e ∈ es, aftF t 0 e.2 = some e.1.1 ∧ aftF u 0 e.2 = some e.1.2
  hd : es[0]? = some ((0, 0), [])
theorem BI.start {t u : KTab} (k1 : KTb t) (k2 : KTb u) : BI t u [((0, 0), [])] := by
  have a := k1.l1
  have b := k2.l1
  refine ⟨List.nodup_cons.mpr ⟨nofun, List.nodup_nil⟩, fun e he => ?_, fun e he => ?_, rfl⟩
  · rw [List.mem_singleton.mp he]
    exact ⟨⟨Int.le_refl _, by show (0 : Int) < _; omega⟩, ⟨Int.le_refl _, by show (0 : Int) < _; omega⟩⟩
  · rw [List.mem_singleton.mp he]
    exact ⟨rfl, rfl⟩
theorem BI.add {t u : KTab} {es : List Ent} (h : BI t u es) {i j : Int} {w : List Nat} (hi : 0 ≤ i ∧ i < t.length) (hj : 0 ≤ j ∧ j < u.length) (ht : aftF t 0 w = some i) (hu : aftF u 0 w = some j) : BI t u (addE es (i, j) w) := by
  refine ⟨?_, fun e he => ?_, fun e he => ?_, ?_⟩
  · unfold addE
    split
    · exact h.nd
    · rename_i hn
      rw [List.map_append, List.nodup_append]
      refine ⟨h.nd, List.nodup_cons.mpr ⟨nofun, List.nodup_nil⟩, fun x hx y hy => ?_⟩
      rw [List.mem_singleton.mp hy]
      rintro rfl
      exact hn hx
  · rcases addE_in he with he | rfl
    · exact h.bd e he
    · exact ⟨hi, hj⟩
  · rcases addE_in he with he | rfl
    · exact h.re e he
    · exact ⟨ht, hu⟩
  · obtain ⟨s, hs⟩ := addE_pre es (i, j) w
    rw [← hs, List.getElem?_append_left, h.hd]
    exact (List.getElem?_eq_some_iff.mp h.hd).1
theorem box_len (n m : Nat) (ps : List (Int × Int)) (nd : ps.Nodup) (h : ∀ p ∈ ps, (0 ≤ p.1 ∧ p.1 < n) ∧ (0 ≤ p.2 ∧ p.2 < m)) : ps.length ≤ n * m := by
  have hs : ps ⊆ (List.range n).flatMap fun i => (List.range m).map fun j => (((i : Nat) : Int), ((j : Nat) : Int)) := by
    intro p hp
    obtain ⟨⟨a, b⟩, c, d⟩ := h p hp
    rw [List.mem_flatMap]
    refine ⟨p.1.toNat, List.mem_range.mpr (by omega), List.mem_map.mpr ⟨p.2.toNat, List.mem_range.mpr (by omega), ?_⟩⟩
    rw [show ((p.1.toNat : Nat) : Int) = p.1 by omega, show ((p.2.toNat : Nat) : Int) = p.2 by omega]
  have hl := List.Nodup.length_le_of_subset nd hs
  have e : ((List.range n).flatMap fun i => (List.range m).map fun j => (((i : Nat) : Int), ((j : Nat) : Int))).length = n * m := by
    clear hl hs h nd ps
    induction n with
    | zero => simp
    | succ n ih => rw [List.range_succ, List.flatMap_append, List.length_append, ih]; simp [Nat.succ_mul]
  omega
theorem BI.len {t u : KTab} {es : List Ent} (h : BI t u es) (k1 : KTb t) (k2 : KTb u) : es.length ≤ 1000000 := by
  have := box_len t.length u.length (es.map (·.1)) h.nd (fun p hp => by
    obtain ⟨e, he, rfl⟩ := List.mem_map.mp hp
    exact h.bd e he)
  rw [List.length_map] at this
  have := Nat.mul_le_mul k1.l2 k2.l2
  omega
/-- a row scanned -/
theorem scan_ok {t u : KTab} (k1 : KTb t) (k2 : KTb u) {i j : Int} {w : List Nat} (hi : 0 ≤ i ∧ i < t.length) (hj : 0 ≤ j ∧ j < u.length) (ht : aftF t 0 w = some i) (hu : aftF u 0 w = some j) :
    ∀ (r : KRow) (es : List Ent), (∀ p ∈ r, getA (rowAt t i) p.1 = some p.2) → BI t u es →
    (∀ es', scanR w (rowAt u j) r es = .inr es' → es <+: es' ∧ BI t u es' ∧ ∀ p ∈ r, ∃ l, getA (rowAt u j) p.1 = some l ∧ (p.2, l) ∈ es'.map (·.1)) ∧
    (∀ x, scanR w (rowAt u j) r es = .inl x → ∃ p ∈ r, getA (rowAt u j) p.1 = none ∧ x = w ++ p.1.cps.toList)
  | [], es, _, h => ⟨fun es' e => by cases e; exact ⟨List.prefix_refl _, h, nofun⟩, fun x e => by cases e⟩
  | (z, v) :: r, es, hr, h => by
    have hz := hr _ List.mem_cons_self
    have kt := k1.rowAt hi.1 hi.2
    have ku := k2.rowAt hj.1 hj.2
    obtain ⟨c, _, rfl⟩ : Ltr z := kt.lt _ (getA_mem hz)
    unfold scanR
    cases hg : getA (rowAt u j) ⟨#[c]⟩ with
    | none =>
      refine ⟨fun es' e => ?_, fun x e => ?_⟩
      · cases e
      · cases e
        exact ⟨_, List.mem_cons_self, hg, rfl⟩
    | some l =>
      have a1 : aftF t 0 (w ++ [c]) = some v := by rw [aft_snoc, ht]; exact hz
      have a2 : aftF u 0 (w ++ [c]) = some l := by rw [aft_snoc, hu]; exact hg
      have h' := h.add (kt.get hz) (ku.get hg) a1 a2
      obtain ⟨i1, i2⟩ := scan_ok k1 k2 hi hj ht hu r _ (fun p hp => hr p (List.mem_cons_of_mem _ hp)) h'
      refine ⟨fun es' e => ?_, fun x e => ?_⟩
      · obtain ⟨p1, p2, p3⟩ := i1 es' e
        refine ⟨(addE_pre _ _ _).trans p1, p2, fun p hp => ?_⟩
        rcases List.mem_cons.mp hp with rfl | hp
        · refine ⟨l, hg, ?_⟩
          obtain ⟨s, rfl⟩ := p1
          rw [List.map_append, List.mem_append]
          exact .inl (addE_mem _ _ _)
        · exact p3 p hp
      · obtain ⟨p, hp, q⟩ := i2 x e
        exact ⟨p, List.mem_cons_of_mem _ hp, q⟩
/-- at the head of the loop -/
structure BH (t u : KTab) (n : Nat) (es : List Ent) : Prop where
  it : iterB t u n = .run n es
  bi : BI t u es
  cl : ∀ (k : Nat) (e : Ent), k < n → es[k]? = some e → ∀ z l, getA (rowAt t e.1.1) z = some l → ∃ l', getA (rowAt u e.1.2) z = some l' ∧ (l, l') ∈ es.map (·.1)
theorem BH.start {t u : KTab} (k1 : KTb t) (k2 : KTb u) : BH t u 0 [((0, 0), [])] := ⟨rfl, BI.start k1 k2, fun k e h => by omega⟩
theorem row_all {n : Nat} {r : KRow} (h : KRw n r) : ∀ p ∈ r, getA r p.1 = some p.2 := fun p hp => getA_of_mem h.nd hp
theorem BH.next {t u : KTab} (k1 : KTb t) (k2 : KTb u) {n : Nat} {es es' : List Ent} (h : BH t u n es) {e : Ent} (he : es[n]? = some e) (hs : scanR e.2 (rowAt u e.1.2) (rowAt t e.1.1) es = .inr es') : BH t u (n + 1) es' := by
  have hm := List.mem_of_getElem? he
  obtain ⟨hi, hj⟩ := h.bi.bd e hm
  obtain ⟨ht, hu⟩ := h.bi.re e hm
  obtain ⟨p1, p2, p3⟩ := (scan_ok k1 k2 hi hj ht hu _ es (row_all (k1.rowAt hi.1 hi.2)) h.bi).1 es' hs
  refine ⟨?_, p2, fun k e' hk he' z l hz => ?_⟩
  · show stepB t u (iterB t u n) = _
    rw [h.it]
    show (match es[n]? with | none => _ | some e => _) = _
    rw [he]
    show (match scanR e.2 (rowAt u e.1.2) (rowAt t e.1.1) es with | .inl w => BSt.stop (some w) | .inr es' => .run (n + 1) es') = _
    rw [hs]
  · obtain ⟨s, rfl⟩ := p1
    by_cases hkn : k = n
    · subst hkn
      have : k < es.length := (List.getElem?_eq_some_iff.mp he).1
      rw [List.getElem?_append_left this, he] at he'
      cases he'
      exact p3 (z, l) (getA_mem hz)
    · have hk2 : k < n := by omega
      have hn : n < es.length := (List.getElem?_eq_some_iff.mp he).1
      rw [List.getElem?_append_left (by omega)] at he'
      obtain ⟨l', q1, q2⟩ := h.cl k e' hk2 he' z l hz
      exact ⟨l', q1, by rw [List.map_append, List.mem_append]; exact .inl q2⟩
theorem BH.done {t u : KTab} {n : Nat} {es : List Ent} (h : BH t u n es) (he : es.length ≤ n) : Res t u none := by
  refine ⟨n + 1, ?_⟩
  show stepB t u (iterB t u n) = _
  rw [h.it]
  show (match es[n]? with | none => _ | some e => _) = _
  rw [List.getElem?_eq_none he]
theorem BH.hit {t u : KTab} {n : Nat} {es : List Ent} (h : BH t u n es) {e : Ent} {x : List Nat} (he : es[n]? = some e) (hs : scanR e.2 (rowAt u e.1.2) (rowAt t e.1.1) es = .inl x) : Res t u (some x) := by
  refine ⟨n + 1, ?_⟩
  show stepB t u (iterB t u n) = _
  rw [h.it]
  show (match es[n]? with | none => _ | some e => _) = _
  rw [he]
  show (match scanR e.2 (rowAt u e.1.2) (rowAt t e.1.1) es with | .inl w => BSt.stop (some w) | .inr es' => .run (n + 1) es') = _
  rw [hs]
/-! ### what it tells -/
theorem bh_all {t u : KTab} (k1 : KTb t) (k2 : KTb u) : ∀ n, (∃ es, BH t u n es) ∨ ∃ m es, m < n ∧ BH t u m es ∧ iterB t u (m + 1) = iterB t u n ∧ ∀ a es', iterB t u n ≠ .run a es'
  | 0 => .inl ⟨_, BH.start k1 k2⟩
  | n + 1 => by
    rcases bh_all k1 k2 n with ⟨es, h⟩ | ⟨m, es, hm, h, e, hs⟩
    · cases he : es[n]? with
      | none =>
        refine .inr ⟨n, es, Nat.lt_succ_self _, h, rfl, fun a es' => ?_⟩
        show stepB t u (iterB t u n) ≠ _
        rw [h.it]
        show (match es[n]? with | none => _ | some e => _) ≠ _
        rw [he]
        nofun
      | some e =>
        cases hsc : scanR e.2 (rowAt u e.1.2) (rowAt t e.1.1) es with
        | inr es' => exact .inl ⟨es', h.next k1 k2 he hsc⟩
        | inl x =>
          refine .inr ⟨n, es, Nat.lt_succ_self _, h, rfl, fun a es' => ?_⟩
          show stepB t u (iterB t u n) ≠ _
          rw [h.it]
          show (match es[n]? with | none => _ | some e => _) ≠ _
          rw [he]
          show (match scanR e.2 (rowAt u e.1.2) (rowAt t e.1.1) es with | .inl w => BSt.stop (some w) | .inr es' => .run (n + 1) es') ≠ _
          rw [hsc]
          nofun
    · refine .inr ⟨m, es, by omega, h, ?_, ?_⟩
      · rw [e]
        show _ = stepB t u (iterB t u n)
        cases hi : iterB t u n with
        | run a es' => exact absurd hi (hs a es')
        | stop x => rfl
      · intro a es'
        show stepB t u (iterB t u n) ≠ _
        cases hi : iterB t u n with
        | run a es' => exact absurd hi (hs a es')
        | stop x => nofun
/-- it comes to an end -/
theorem Res.ex {t u : KTab} (k1 : KTb t) (k2 : KTb u) : ∃ x, Res t u x := by
  rcases bh_all k1 k2 1000001 with ⟨es, h⟩ | ⟨m, es, _, h, e, hs⟩
  · refine ⟨none, h.done ?_⟩
    have := h.bi.len k1 k2
    omega
  · cases hi : iterB t u 1000001 with
    | run a es' => exact absurd hi (hs a es')
    | stop x => exact ⟨x, _, hi⟩
end LT
set_option Elab.async false
set_option linter.all false
set_option maxRecDepth 100000
set_option maxHeartbeats 1600000
/-! Own layer: promises of the defs that every law over kinds has. -/
namespace LT
open PySem PySem.Spec PyProof.Rows L2 NdefX
theorem small2k {n : Nat} (h : n ≤ 2000) : n < sizeLine := by rw [sizeLine_eq]; omega
def spWhole : Sp := fun vs H Q _ => ∃ v, vs = [v] ∧ Odd H v ∧ Q (.bl (wholeB v)) H
def spWithin : Sp := fun vs H Q _ => ∃ v l m, vs = [v, .int l, .int m] ∧ Odd H v ∧ Q (.bl (withinB v l m)) H
/-- a kind stands at x, its rows as they are kept -/
def Kd (C : Addr) (H : Hp) (x : Addr) (t : KTab) : Prop := ∃ dx l ds, H x = some (.ins C dx [("rows", .ref l)]) ∧ TabAt H l ds t
theorem Kd.mono {C : Addr} {H H' : Hp} {x : Addr} {t : KTab} (h : Kd C H x t) (s : Same H H') : Kd C H' x t := by
  obtain ⟨dx, l, ds, h1, h2⟩ := h
  exact ⟨dx, l, ds, s _ _ h1, h2.mono s⟩
theorem Kd.monoB {C : Addr} {H H' : Hp} {p x : Addr} {t : KTab} (h : Kd C H x t) (hp : Pot H p) (s : SameB p H H') : Kd C H' x t := by
  obtain ⟨dx, l, ds, h1, h2⟩ := h
  exact ⟨dx, l, ds, s _ _ (ne_of_pot hp h1) h1, h2.monoB hp s⟩
def spPot (K : PySem.W.Frag) : Sp := fun vs H Q _ => ∃ (a : Addr) (ns : List Int) (k : Nat), vs = [.ref a, .int (k : Nat)] ∧ SqL K H a (ns.map V.int) ∧ k ≤ 1000 ∧
  ∀ p H', H p = none → Same H H' → Pot H' p → Q (.ref p) H'
/-- unlike letters -/
structure Lts (zs : List Str) : Prop where
  nd : zs.Nodup
  lt : ∀ z ∈ zs, Ltr z
theorem Lts.len {zs : List Str} (h : Lts zs) : zs.length ≤ 26 := letts_few h.nd h.lt
theorem str_at {zs : List Str} {i : Int} (h0 : 0 ≤ i) (h1 : i < zs.length) : ∃ z, zs[i.toNat]? = some z ∧ z ∈ zs ∧ atI (zs.map V.str) i = some (.str z) := by
  obtain ⟨m, rfl⟩ : ∃ m : Nat, i = (m : Nat) := ⟨i.toNat, by omega⟩
  have h2 : m < zs.length := by omega
  exact ⟨zs[m], List.getElem?_eq_getElem h2, List.getElem_mem h2, atI_nat (by rw [List.getElem?_map, List.getElem?_eq_getElem h2]; rfl)⟩
theorem strs_not_ints {zs : List Str} {i j : Int} : (HO.lst (zs.map V.str)) ≠ .lst [.int i, .int j] := by
  intro e
  have e := HO.lst.inj e
  cases zs with
  | nil => cases e
  | cons d r => simp at e
/-- a row under way -/
def KRq (n : Nat) (r : KRow) : Prop := r = [] ∨ KRw n r
theorem KRq.len {n : Nat} {r : KRow} (h : KRq n r) : r.length ≤ 26 := by
  rcases h with rfl | h
  · exact Nat.zero_le _
  · exact h.len
/-- rows that stand, new since H -/
structure RowsN (H Hx : Hp) (F : Addr) (ds : List Addr) (t : KTab) (n : Nat) : Prop where
  at_ : TabAt Hx F ds t
  nF : H F = none
  nd : ∀ d ∈ ds, H d = none
  rw : ∀ r ∈ t, KRw n r
theorem RowsN.monoB {H Hx Hy : Hp} {p F : Addr} {ds : List Addr} {t : KTab} {n : Nat} (h : RowsN H Hx F ds t n) (hp : Pot Hx p) (s : SameB p Hx Hy) : RowsN H Hy F ds t n := ⟨h.at_.monoB hp s, h.nF, h.nd, h.rw⟩
theorem RowsN.mono {H Hx Hy : Hp} {F : Addr} {ds : List Addr} {t : KTab} {n : Nat} (h : RowsN H Hx F ds t n) (s : Same Hx Hy) : RowsN H Hy F ds t n := ⟨h.at_.mono s, h.nF, h.nd, h.rw⟩
theorem RowsN.upd {H Hx : Hp} {F R : Addr} {o : HO} {ds : List Addr} {t : KTab} {n : Nat} (h : RowsN H Hx F ds t n) (h1 : F ≠ R) (h2 : R ∉ ds) : RowsN H (L2.upd Hx R o) F ds t n :=
  ⟨⟨by rw [upd_ne h1]; exact h.at_.ls, h.at_.rows.upd h2, h.at_.nd⟩, h.nF, h.nd, h.rw⟩
theorem RowsN.snoc {H Hx : Hp} {F R : Addr} {ds : List Addr} {t : KTab} {r : KRow} {n : Nat} (h : RowsN H Hx F ds t n) (nR : H R = none) (hR : Hx R = some (.dK (sd r))) (h2 : R ∉ ds) (hr : KRw n r) :
    RowsN H (L2.upd Hx F (.lst (ds.map V.ref ++ [V.ref R]))) F (ds ++ [R]) (t ++ [r]) n := by
  have hRF : R ≠ F := ne_of hR h.at_.ls (by intro z; cases z)
  have hF : F ∉ ds := fun hd => h.at_.ne hd rfl
  refine ⟨⟨by rw [upd_same, List.map_append]; rfl, KRows.snoc (h.at_.rows.upd hF) (by rw [upd_ne hRF]; exact hR), ?_⟩, h.nF, fun d hd => ?_, fun r' hr' => ?_⟩
  · rw [List.nodup_append]
    refine ⟨h.at_.nd, List.nodup_cons.mpr ⟨nofun, List.nodup_nil⟩, fun x hx y hy => ?_⟩
    rw [List.mem_singleton.mp hy]
    rintro rfl
    exact h2 hx
  · rcases List.mem_append.mp hd with hd | hd
    · exact h.nd d hd
    · rw [List.mem_singleton.mp hd]
      exact nR
  · rcases List.mem_append.mp hr' with hr' | hr'
    · exact h.rw r' hr'
    · rw [List.mem_singleton.mp hr']
      exact hr
/-- the same weathers -/
def LgEq (t' t : KTab) : Prop := ∀ w, (aftF t' 0 w).isSome = (aftF t 0 w).isSome
theorem LgEq.trans {a b c : KTab} (h : LgEq a b) (g : LgEq b c) : LgEq a c := fun w => (h w).trans (g w)
theorem str_app_len (i j : Str) : (i ++ j).length = i.length + j.length := strLen_append i j
theorem small_txt {n : Nat} (h : n ≤ 3000) : n ≤ sizeLine := by rw [sizeLine_eq]; omega
end LT
set_option Elab.async false
set_option linter.all false
set_option maxRecDepth 100000
set_option maxHeartbeats 1600000
/-! Own layer: a sign taken many times; a text within a text; dict.update with a dict; len(set(text)). -/
namespace LT
open PySem PySem.Spec PyProof.Rows L2 NdefX
end LT
set_option Elab.async false
set_option linter.all false
set_option maxRecDepth 100000
set_option maxHeartbeats 3200000
/-! Own layer: len(set(text)). -/
namespace LT
open PySem PySem.Spec PyProof.Rows L2 NdefX
end LT
set_option Elab.async false
set_option linter.all false
set_option maxRecDepth 100000
set_option maxHeartbeats 1600000
/-! Own layer: y = {k: v for ..} as a statement. -/
namespace LT
open PySem PySem.Spec PyProof.Rows L2 NdefX
end LT
set_option Elab.async false
set_option linter.all false
set_option maxRecDepth 100000
set_option maxHeartbeats 1600000
/-! Own layer: a walk on the heap. -/
namespace LT
open PySem PySem.Spec PyProof.Rows L2 NdefX
theorem RiseT.rowAt {t t' : KTab} (h : RiseT t t') (k : KTb t) (i : Int) (z : Str) : getA (rowAt t' i) z = getA (rowAt t i) z := by
  unfold LT.rowAt
  cases hr : t[i.toNat]? with
  | none =>
    have : t'[i.toNat]? = none := by
      rw [List.getElem?_eq_none_iff] at hr ⊢
      rw [h.len]
      exact hr
    rw [this]
  | some r =>
    obtain ⟨r', e1, e2⟩ := h.row hr
    rw [e1]
    exact e2.get (k.at_ hr).nd _
def keyE (p : Int × Int) : List Key := [Sum.inl p.1, Sum.inl p.2]
def numF : Nat → List Ent → List (List Key × V)
  | _, [] => []
  | n, e :: es => (keyE e.1, .int (n : Nat)) :: numF (n + 1) es
/-- a walk that has met es -/
structure WkA (C : Addr) (H : Hp) (x dx P N Y : Addr) (es : List Ent) : Prop where
  ix : H x = some (.ins C dx [("places", .ref P), ("numbers", .ref N), ("ways", .ref Y)])
  pl : ∃ ps : List Addr, H P = some (.lst (ps.map V.ref)) ∧ Paired (fun q (e : Ent) => H q = some (.tup [.int e.1.1, .int e.1.2])) ps es
  nu : H N = some (.dT (numF 0 es))
  wy : ∃ ys : List Addr, H Y = some (.lst (V.non :: ys.map V.ref)) ∧ ys.length + 1 = es.length ∧ ∀ (k : Nat) (y : Addr) (e : Ent), ys[k]? = some y → es[k + 1]? = some e →
    ∃ (o : Nat) (z : Str) (e0 : Ent), H y = some (.tup [.int (o : Nat), .str z]) ∧ o ≤ k ∧ es[o]? = some e0 ∧ Ltr z ∧ e.2 = e0.2 ++ z.cps.toList
  h0 : ∃ p, es[0]? = some (p, [])
def Same3 (P N Y : Addr) (H H' : Hp) : Prop := ∀ b o, b ≠ P → b ≠ N → b ≠ Y → H b = some o → H' b = some o
theorem Same3.of {P N Y : Addr} {H H' : Hp} (s : Same H H') : Same3 P N Y H H' := fun b o _ _ _ e => s b o e
theorem Same3.trans {P N Y : Addr} {H H1 H2 : Hp} (a : Same3 P N Y H H1) (b : Same3 P N Y H1 H2) : Same3 P N Y H H2 := fun c o h1 h2 h3 e => b c o h1 h2 h3 (a c o h1 h2 h3 e)
/-- what another thing's writing leaves -/
theorem WkA.by {C : Addr} {H H' : Hp} {x dx P N Y : Addr} {es : List Ent} (h : WkA C H x dx P N Y es) (f : ∀ b o, H b = some o → (match o with | .ins _ _ _ => True | .lst _ => True | .tup _ => True | .dT _ => True | _ => False) → H' b = some o) : WkA C H' x dx P N Y es := by
  obtain ⟨ps, p1, p2⟩ := h.pl
  obtain ⟨ys, y1, y2, y3⟩ := h.wy
  refine ⟨f _ _ h.ix trivial, ⟨ps, f _ _ p1 trivial, paired_imp (fun q e h => f _ _ h trivial) p2⟩, f _ _ h.nu trivial, ⟨ys, f _ _ y1 trivial, y2, fun k y e h1 h2 => ?_⟩, h.h0⟩
  obtain ⟨o, z, e0, a, b⟩ := y3 k y e h1 h2
  exact ⟨o, z, e0, f _ _ a trivial, b⟩
theorem WkA.mono {C : Addr} {H H' : Hp} {x dx P N Y : Addr} {es : List Ent} (h : WkA C H x dx P N Y es) (s : Same H H') : WkA C H' x dx P N Y es := h.by fun b o e _ => s b o e
theorem WkA.unlock {C : Addr} {H : Hp} {x dx P N Y d : Addr} {es : List Ent} {od : Obj} {v u : HO} (h : WkA C H x dx P N Y es) (e : H d = some (.frz od v)) : WkA C (upd H d u) x dx P N Y es := h.by fun b o eb ho => by
  rw [upd_ne (fun z => by rw [z, e] at eb; cases eb; exact ho)]
  exact eb
theorem WkA.len {C : Addr} {H : Hp} {x dx P N Y : Addr} {es : List Ent} (h : WkA C H x dx P N Y es) : ∃ (ps : List Addr), H P = some (.lst (ps.map V.ref)) ∧ ps.length = es.length := by
  obtain ⟨ps, p1, p2⟩ := h.pl
  exact ⟨ps, p1, Paired.length p2⟩
theorem str_eq {a b : Str} (h : a.cps.toList = b.cps.toList) : a = b := by
  obtain ⟨⟨a⟩⟩ := a
  obtain ⟨⟨b⟩⟩ := b
  have : a = b := h
  rw [this]
theorem str_app_codes (a b : Str) : (a ++ b).cps.toList = a.cps.toList ++ b.cps.toList := by
  show (a.cps ++ b.cps).toList = _
  exact Array.toList_append
end LT
set_option Elab.async false
set_option linter.all false
set_option maxRecDepth 100000
set_option maxHeartbeats 1600000
/-! Own layer: == of an own thing with any thing; lists of texts; letters that rise. -/
namespace LT
open PySem PySem.Spec PyProof.Rows L2 NdefX
def BesideD (K : PySem.W.Frag) (C : Addr) (H : Hp) (v : V) : Prop := Beside K C H v ∨ ∃ (a : Addr) (kvs : List (Key × V)), v = .ref a ∧ H a = some (.dK kvs)
section
variable {X : Cx} {C f : Addr} {fd : FuncData} {ps : List Str} {sp : Sp} {n : Nat}
theorem besideD_ty {pins : List (Addr × Obj)} {σ : L2.St} {H : Hp} {s : Shared} {v : V} {u : Value} (I : Inv X pins σ H s) (r : RelV v u) (hv : BesideD X.K C H v) : ∃ t, PySem.W.Looks (model X.prog X.w) s.heap (typeOf u) t ∧ PySem.W.notFirst X.K C t = true := by
  rcases hv with hv | ⟨a, kvs, rfl, e⟩
  · exact beside_ty I r hv
  · obtain ⟨P, Z, p, _⟩ := kit_of I r (.base (.dK e))
    refine ⟨_, Z.ty _ _ I.kIn p, ?_⟩
    unfold PySem.W.notFirst
    rw [show (PySem.W.subIn X.K (.type "dict") (.ref C) == some false) = true from by rfl, Bool.or_true]
/-- x == y, x an own thing, y any -/
def rOwnL (K : PySem.W.Frag) (C : Addr) (sp : Sp) : R2 := fun x y H Q => ∃ (a dx : Addr) (fs : List (Str × V)), x = .ref a ∧ H a = some (.ins C dx fs) ∧ BesideD K C H y ∧ sp [.ref a, y] H (fun z H' => ∃ b, z = .bl b ∧ Q z H') E0
theorem op_ownL (EC : EqC X.K C f) (F : FnOk X.prog X.w X.K X.mg X.base CX0 n f fd ps sp) (hr : Room n X.A) (hb : L2.Binds X.K fd ps []) : OpR X (compareOp .Eq) (rOwnL X.K C sp) := by
  intro pins s σ H x y v u Q I rx ry h
  obtain ⟨a, dx, fs, rfl, ha, hy, h⟩ := h
  cases rx
  obtain ⟨mA, J, _⟩ := ins_get I.hok ha
  obtain ⟨od, J, _⟩ := J.look
  obtain ⟨m, hF⟩ := I.fr
  obtain ⟨t, ht, hn⟩ := besideD_ty I ry hy
  refine PySem.W.cmp_K (op := .Eq) hr.units0 hF I.ok.mod.kin J ht hn EC.eq EC.fn (wpAny_mono (run_eq F ⟨hr, rfl⟩ hb I ry h) (fun z s' hz => ?_) fun _ _ x => x)
  obtain ⟨b, H', rfl, I', q⟩ := hz
  exact ⟨.bl b, H', I', rfl, q⟩
end
/-! ### lists of texts -/
/-! ### letters that rise -/
/-! ### pairs met by the law -/
end LT
namespace LT
open PySem PySem.Spec PyProof.Rows L2 NdefX
theorem LgEq.symm {a b : KTab} (h : LgEq a b) : LgEq b a := fun w => (h w).symm
theorem Odd.besideD {K : PySem.W.Frag} {C : Addr} {H : Hp} {v : V} (h : Odd H v) : BesideD K C H v := by
  cases h with
  | non => exact .inl .non
  | bl b => exact .inl (.bl b)
  | int i => exact .inl (.int i)
  | str z => exact .inl (.str z)
  | lst e => exact .inl (.lst e)
  | tup e => exact .inl (.tup e)
  | dK e => exact .inr ⟨_, _, rfl, e⟩
end LT
set_option Elab.async false
set_option linter.all false
set_option maxRecDepth 100000
set_option maxHeartbeats 1600000
/-! Own layer: promises of the defs over books. -/
namespace LT
open PySem PySem.Spec PyProof.Rows L2 NdefX
/-- keys of any dict, one by one -/
theorem walk_enk {κ α : Type} [DecidableEq κ] {gk : κ → Key} {f : α → V} {d : Addr} {o : Obj} {r : List (κ × α)} : Walk (Itk d o (enA gk f r)) r.length (fun H => H d = some (.frz o (.dK (enA gk f r)))) (fun i H x H' => H' = H ∧ ∃ p, r[i]? = some p ∧ x = kV (gk p.1)) := by
  refine ⟨fun i H hi q => ⟨q, by rw [enA_len]; exact hi⟩, fun H q => ⟨q, by rw [enA_len]; exact Nat.le_refl _⟩, fun i H x H' hi _ y => ?_⟩
  obtain ⟨rfl, k, v, h1, rfl⟩ := y
  unfold enA at h1
  rw [List.getElem?_map, List.getElem?_eq_getElem hi] at h1
  cases h1
  exact ⟨rfl, r[i], List.getElem?_eq_getElem hi, rfl⟩
/-- pairs of any dict, one by one -/
theorem walk_eni {κ α : Type} [DecidableEq κ] {gk : κ → Key} {f : α → V} {d : Addr} {o : Obj} {r : List (κ × α)} : Walk (Iti d o (enA gk f r)) r.length (fun H => H d = some (.frz o (.dK (enA gk f r)))) (fun i H x H' => ∃ T p, r[i]? = some p ∧ x = .ref T ∧ H T = none ∧ H' = upd H T (.tup [kV (gk p.1), f p.2])) := by
  refine ⟨fun i H hi q => ⟨q, by rw [enA_len]; exact hi⟩, fun H q => ⟨q, by rw [enA_len]; exact Nat.le_refl _⟩, fun i H x H' hi _ y => ?_⟩
  obtain ⟨T, k, v, h1, rfl, h3, rfl⟩ := y
  unfold enA at h1
  rw [List.getElem?_map, List.getElem?_eq_getElem hi] at h1
  cases h1
  exact ⟨T, r[i], List.getElem?_eq_getElem hi, rfl, h3, rfl⟩
def spFromB : Sp := fun vs H Q _ => ∃ (v : V) (l : Int), vs = [v, .int l] ∧ Odd H v ∧ Q (.bl (fromB v l)) H
def spDayB : Sp := fun vs H Q _ => ∃ (v : V), vs = [v] ∧ Odd H v ∧ Q (.bl (fromB v 0)) H
def spNameB : Sp := fun vs H Q _ => ∃ (v : V), vs = [v] ∧ Odd H v ∧ (∀ z, v = .str z → z.length ≤ sizeLine) ∧ ∀ H', Same H H' → Q (.bl (nameB v)) H'
def placeB : V → Bool
  | .str z => nameB (.str z) || decide (z = Str.ofString "")
  | _ => false
def spPlaceB : Sp := fun vs H Q _ => ∃ (v : V), vs = [v] ∧ Odd H v ∧ (∀ z, v = .str z → z.length ≤ sizeLine) ∧ ∀ H', Same H H' → Q (.bl (placeB v)) H'
theorem pl_b {z : Str} (h : Pl z) : placeB (.str z) = true := by
  rcases h with rfl | h
  · show (nameB (.str (Str.ofString "")) || decide (Str.ofString "" = Str.ofString "")) = true
    rw [decide_eq_true rfl, Bool.or_true]
  · show (nameB (.str z) || _) = true
    rw [h.b]
    rfl
theorem pl_len {z : Str} (h : Pl z) : z.length ≤ 8 := by
  rcases h with rfl | h
  · decide +kernel
  · exact h.l8
def spCkDay : Sp := fun vs H Q _ => ∃ (i : Int), vs = [.int i] ∧ 0 ≤ i ∧ Q .non H
def knOK (kn : Option Int) : Prop := ∀ k, kn = some k → 0 ≤ k
def spCkKnown : Sp := fun vs H Q _ => ∃ (kn : Option Int), vs = [knV kn] ∧ knOK kn ∧ Q .non H
def spCkDays : Sp := fun vs H Q _ => ∃ (i : Int) (kn : Option Int), vs = [.int i, knV kn] ∧ 0 ≤ i ∧ knOK kn ∧ Q .non H
def spCkLight : Sp := fun vs H Q _ => ∃ (z : Str), vs = [.str z] ∧ Nm z ∧ ∀ H', Same H H' → Q .non H'
def spCkPlace : Sp := fun vs H Q _ => ∃ (z : Str), vs = [.str z] ∧ Pl z ∧ ∀ H', Same H H' → Q .non H'
def spCkNumber : Sp := fun vs H Q _ => ∃ (i l : Int), vs = [.int i, .int l] ∧ l ≤ i ∧ Q .non H
def spRanks : Sp := fun vs H Q _ => ∃ (r : Addr) (rk : List (Str × Int)), vs = [.ref r] ∧ H r = some (.dK (sd rk)) ∧ Rk rk ∧ ∀ H', Same H H' → Q (.bl true) H'
def spBInit (CB CH : Addr) : Sp := fun vs H Q _ => ∃ (b dx r : Addr) (rk : List (Str × Int)), vs = [.ref b, .ref r] ∧ H b = some (.ins CB dx []) ∧ H r = some (.dK (sd rk)) ∧ Rk rk ∧
  ∀ (fp : List Addr) (H' : Hp), Bk CB CH H' b rk [] fp → (∀ c ∈ fp, c = b ∨ H c = none) → SameB b H H' → Q .non H'
def spBRanks (CB CH : Addr) : Sp := fun vs H Q _ => ∃ (b : Addr) (rk : List (Str × Int)) (es : List Evt) (fp : List Addr), vs = [.ref b] ∧ Bk CB CH H b rk es fp ∧
  ∀ (r : Addr) (H' : Hp), H r = none → H' r = some (.dK (sd rk)) → Same H H' → Q (.ref r) H'
def spTell (CB CH : Addr) : Sp := fun vs H Q _ => ∃ (b : Addr) (rk : List (Str × Int)) (es : List Evt) (fp : List Addr) (kn d : Int) (z : Str) (w : V), vs = [.ref b, .int kn, .str z, .int d, w] ∧ Bk CB CH H b rk es fp ∧
  EvOK rk ⟨true, kn, z, d, w⟩ ∧ (∀ e ∈ es, e.kn ≤ kn) ∧ es.length < 60 ∧
  ∀ (fp' : List Addr) (H' : Hp), Bk CB CH H' b rk (es ++ [⟨true, kn, z, d, w⟩]) fp' → (∀ c ∈ fp', c ∈ fp ∨ H c = none) → SameL fp H H' → Q .non H'
def spLand (CB CH : Addr) : Sp := fun vs H Q _ => ∃ (b : Addr) (rk : List (Str × Int)) (es : List Evt) (fp : List Addr) (kn d : Int) (z : Str) (w : V), vs = [.ref b, .int kn, .str z, .int d, w] ∧ Bk CB CH H b rk es fp ∧
  EvOK rk ⟨false, kn, z, d, w⟩ ∧ (∀ e ∈ es, e.kn ≤ kn) ∧ es.length < 60 ∧
  ∀ (fp' : List Addr) (H' : Hp), Bk CB CH H' b rk (es ++ [⟨false, kn, z, d, w⟩]) fp' → (∀ c ∈ fp', c ∈ fp ∨ H c = none) → SameL fp H H' → Q .non H'
def spMKn (CB CH : Addr) : Sp := fun vs H Q _ => ∃ (b : Addr) (rk : List (Str × Int)) (es : List Evt) (fp : List Addr) (z : Str) (kn : Option Int), vs = [.ref b, .str z, knV kn] ∧ Bk CB CH H b rk es fp ∧ z ∈ rk.map (·.1) ∧ es.length ≤ 60 ∧
  ∀ (l : Addr) (L : List (Int × V)) (H' : Hp), H l = none → RowsAt H' l L → HoldF (heldE es true z kn) L → L.length ≤ es.length → Same H H' → Q (.ref l) H'
def spWhere (CB CH : Addr) : Sp := fun vs H Q _ => ∃ (b : Addr) (rk : List (Str × Int)) (es : List Evt) (fp : List Addr) (z : Str) (d : Int) (kn : Option Int), vs = [.ref b, .str z, .int d, knV kn] ∧ Bk CB CH H b rk es fp ∧ z ∈ rk.map (·.1) ∧ es.length ≤ 60 ∧ 0 ≤ d ∧ knOK kn ∧
  ∀ (r : V) (H' : Hp), IsWhere (heldE es true z kn) d r → Same H H' → Q r H'
def spCkKeeper (CB CH : Addr) : Sp := fun vs H Q _ => ∃ (b : Addr) (rk : List (Str × Int)) (es : List Evt) (fp : List Addr) (z : Str), vs = [.ref b, .str z] ∧ Bk CB CH H b rk es fp ∧ z ∈ rk.map (·.1) ∧ ∀ H', Same H H' → Q .non H'
def spNotEarly (CB CH : Addr) : Sp := fun vs H Q _ => ∃ (b : Addr) (rk : List (Str × Int)) (es : List Evt) (fp : List Addr) (kn : Int), vs = [.ref b, .int kn] ∧ Bk CB CH H b rk es fp ∧ (∀ e ∈ es, e.kn ≤ kn) ∧ Q .non H
end LT
set_option Elab.async false
set_option linter.all false
set_option maxRecDepth 100000
set_option maxHeartbeats 1600000
/-! Own layer: books, what the readings want. -/
namespace LT
open PySem PySem.Spec PyProof.Rows L2 NdefX
theorem merge_en {κ α : Type} [DecidableEq κ] {g : κ → Key} {f : α → V} (hg : ∀ a b, g a = g b → a = b) {kvs : List (κ × α)} (nd : (kvs.map (·.1)).Nodup) : mergeK [] (enA g f kvs) = enA g f kvs := by
  suffices h : ∀ (r acc : List (κ × α)), ((acc ++ r).map (·.1)).Nodup → mergeK (enA g f acc) (enA g f r) = enA g f (acc ++ r) from h kvs [] nd
  intro r
  induction r with
  | nil =>
    intro acc _
    rw [List.append_nil]
    rfl
  | cons p r ih =>
    intro acc h
    have e : putK (enA g f acc) (g p.1) (f p.2) = enA g f (acc ++ [p]) := by
      rw [put_en hg, putA_new]
      rw [getA_none_iff]
      rw [List.map_append, List.nodup_append] at h
      exact fun hm => h.2.2 _ hm _ List.mem_cons_self rfl
    show mergeK (putK (enA g f acc) (g p.1) (f p.2)) (enA g f r) = _
    rw [e, ih (acc ++ [p]) (by rw [List.append_assoc]; exact h), List.append_assoc]
    rfl
theorem hsK_val (hs : List (Str × HA)) (z : Str) : valV (hsK hs) (Sum.inr z) = (getA hs z).map fun a => V.ref a.x := val_en inr_inj z hs
theorem hsK_put (hs : List (Str × HA)) (z : Str) (a : HA) : putK (hsK hs) (Sum.inr z) (V.ref a.x) = hsK (putA hs z a) := put_en (f := fun a : HA => V.ref a.x) inr_inj hs z a
theorem hsK_len (hs : List (Str × HA)) : (hsK hs).length = hs.length := enA_len ..
theorem get_key {α : Type} {kvs : List (Str × α)} {z : Str} (h : z ∈ kvs.map (·.1)) : ∃ a, getA kvs z = some a := by
  cases e : getA kvs z with
  | none => exact absurd h (getA_none_iff.mp e)
  | some a => exact ⟨a, rfl⟩
theorem dget_hs {H : Hp} {M : Addr} {hs : List (Str × HA)} {z : Str} {a : HA} (h : H M = some (.dK (hsK hs))) (e : getA hs z = some a) : DGet H M (.str z) (some (.ref a.x)) := by
  have := DGet.k (k := Sum.inr z) h
  rw [hsK_val, e] at this
  exact this
theorem dget_no {H : Hp} {M : Addr} {hs : List (Str × HA)} {z : Str} (h : H M = some (.dK (hsK hs))) (e : getA hs z = none) : DGet H M (.str z) none := by
  have := DGet.k (k := Sum.inr z) h
  rw [hsK_val, e] at this
  exact this
theorem dget_sd {H : Hp} {M : Addr} {r : KRow} {z : Str} {v : Int} (h : H M = some (.dK (sd r))) (e : getA r z = some v) : DGet H M (.str z) (some (.int v)) := by
  have := DGet.k (k := Sum.inr z) h
  rw [val_row, e] at this
  exact this
theorem held_move {rk : List (Str × Int)} {es : List Evt} {z : Str} {kn : Option Int} {d : Int} {w : V} (h : ∀ e ∈ es, EvOK rk e) (e : heldO es true z kn d = some w) : w = .non ∨ ∃ y, w = .str y ∧ Pl y := by
  obtain ⟨e', h1, h2, rfl⟩ := heldO_mem e
  exact ((h e' h1).mw (heldP_iff.mp h2).1.1).2
theorem whereL_snoc (L : List (Int × V)) (p : Int × V) (d : Int) : whereL (L ++ [p]) d = if p.1 ≤ d then p.2 else whereL L d := by
  unfold whereL
  rw [List.foldl_append]
  rfl
theorem take_snoc {α : Type} {xs : List α} {i : Nat} {x : α} (h : xs[i]? = some x) : xs.take (i + 1) = xs.take i ++ [x] := by
  rw [List.take_add_one, h]
  rfl
end LT
set_option Elab.async false
set_option linter.all false
set_option maxRecDepth 100000
set_option maxHeartbeats 1000000
namespace LT
open PySem PySem.Spec PyProof.Rows L2 LamX
abbrev noX : CXT := fun _ _ _ _ _ _ => False
abbrev noE : XK := fun _ _ _ => False
/-! ### a lambda of one parameter -/
/-- x is the parameter; every other name is captured or global -/
structure LamP (sc scope : Scope) (x : Str) : Prop where
  kind : scope.kind = .function
  co : scope.isCoroutine = false
  gen : scope.isGenerator = false
  par : scope.names.lookup x = some .local
  nc : ∀ y ∈ scope.names, y.2 ≠ .cell
  own : ∀ y, scope.names.lookup y = some .local → y = x
  free : ∀ y ∈ scope.names, y.2 = .free → sc.names.lookup y.1 = some .cell ∨ sc.names.lookup y.1 = some .free
def lamPB (sc scope : Scope) (x : Str) : Bool :=
  decide (scope.kind = .function) && (!scope.isCoroutine && (!scope.isGenerator && (decide (scope.names.lookup x = some .local) && (scope.names.all (fun y => !decide (y.2 = .cell)) && (scope.names.all (fun y => !decide (y.2 = .local) || decide (y.1 = x)) &&
    scope.names.all (fun y => !decide (y.2 = .free) || (decide (sc.names.lookup y.1 = some .cell) || decide (sc.names.lookup y.1 = some .free))))))))
theorem lamP_by {sc scope : Scope} {x : Str} (h : lamPB sc scope x = true) : LamP sc scope x := by
  unfold lamPB at h
  simp only [Bool.and_eq_true, Bool.or_eq_true, Bool.not_eq_true', decide_eq_true_eq, decide_eq_false_iff_not, List.all_eq_true] at h
  obtain ⟨h1, h2, h3, h4, h5, h6, h7⟩ := h
  refine ⟨h1, h2, h3, h4, h5, fun y hy => ?_, fun y hy e => ?_⟩
  · rcases h6 (y, .local) (PySem.mem_of_lookup hy) with z | z
    · exact absurd rfl z
    · exact z
  · rcases h7 y hy with z | z
    · exact absurd e z
    · exact z
theorem LamP.has {X : Cx} {scope : Scope} {x : Str} (L : LamP X.env.scope scope x) (ok : X.Ok) : ∀ y ∈ scope.names, y.2 = .free → ∃ c, X.env.cells.lookup y.1 = some c :=
  fun y hy e => (L.free y hy e).elim (fun k => ok.has _ (.inl k)) (fun k => ok.has _ (.inr k))
/-- where the body of the lambda runs: slot 0 is the parameter, behind it the maker's slots -/
def lamCxP (CX : CXT) (X : Cx) (A : Around) (outer : List Env) (s : Shared) (H : Hp) (E : XK) (scope : Scope) (f c' : Addr) (x : Str) : Cx where
  prog := X.prog
  w := X.w
  K := X.K
  mg := X.mg
  base := X.base
  A := A.deeper (lamEnv X scope s.heap.objs.size f c')
  N := x :: X.N
  s_0 := s
  H_0 := H
  env := lamEnv X scope s.heap.objs.size f c'
  outer := outer
  stack := lamEnv X scope s.heap.objs.size f c' :: outer
  ex := []
  fn := fun _ => false
  calm := true
  pn := []
  xe := fun e s' => wpAny (model X.prog X.w) (A.deeper (lamEnv X scope s.heap.objs.size f c')) (leaving (lamEnv X scope s.heap.objs.size f c') e) (fun _ z => CX outer H s E e z) (fun e' z => CX outer H s E e' z) s'
section
variable {X : Cx} {pins : List (Addr × Obj)} {σ : L2.St} {H HZ : Hp} {s s1 : Shared} {CX : CXT}
theorem lam_startP {A : Around} {outer : List Env} {E : XK} {scope : Scope} {f c' : Addr} {x : Str} {v : V} {u : Value} {h₁ : Heap} {tk : Nat} (I : Inv X pins σ H s) (L : LamP X.env.scope scope x) (hx : x ∉ X.N)
    (e0 : Env0 X.prog X.w X.K X.mg X.base A outer s1 HZ) (hd : A.handled = none) (un : Un (frs X.stack) [] H HZ s.heap s1.heap) (r : RelV v u)
    (hns : h₁.Ns s1.heap.objs.size fun y => [(x, u)].reverse.lookup y) (kp : ∀ b o, s1.heap.get? b = some o → h₁.get? b = some o) :
    Inv (lamCxP CX X A outer s1 HZ E scope f c' x) [] (some v :: σ) HZ { s1 with heap := h₁, toks := tk } := by
  have hfree := L.has I.ok
  have cm : ∀ {y c}, (cloFrom X.env.cells scope.names []).lookup y = some c → X.env.cells.lookup y = some c := fun {y c} e => by
    rcases cloFrom_mem (PySem.mem_of_lookup e) with hm | ⟨g1, g2⟩
    · cases hm
    · obtain ⟨c1, hc⟩ := hfree _ g1 rfl
      have hc : X.env.cells.lookup y = some c1 := hc
      have e2 : c = c1 := by rw [g2, hc] <;> rfl
      rw [e2, hc]
  have look : ∀ {y}, scope.names.lookup y = some .free → ∃ c, (cloFrom X.env.cells scope.names []).lookup y = some c := fun {y} hl =>
    mem_lookup (cloFrom_has (cells := X.env.cells) (acc := []) (show (y, NameKind.free) ∈ scope.names from PySem.mem_of_lookup hl))
  have cellK : ∀ {c : Addr} {z : Option Value}, H c = none → s.heap.IsCell c z → h₁.IsCell c z := fun {c z} n ⟨o, ho, hd⟩ =>
    let ⟨_, q⟩ := un.any ho n (by simp)
    ⟨_, kp _ _ q, hd⟩
  have noA : ∀ b : Addr, b ∉ (lamCxP CX X A outer s1 HZ E scope f c' x).ex := fun b z => nomatch (show b ∈ ([] : List Addr) from z)
  refine ⟨⟨e0.mod, L.kind, rfl, rfl, Nat.le_refl _, fun y z c e1 e2 => I.ok.inj y z c (cm e1) (cm e2), fun y hy => ?has, fun y c z _ => (nomatch (show false = true from z)), fun _ => hd, Around.frames_deeper e0.frames, .inr ⟨rfl, rfl⟩, fun b z => absurd z (noA b),
      e0.bs, e0.bsz, fun b _ _ => noA b, fun b z => absurd z (noA b), e0.funs, e0.frf⟩,
    rfl, e0.bare, Un.kept kp, ⟨_, hns, fun i y z e1 e2 e3 => ?loc⟩, fun y c e => ?cell, e0.hok.fresh (Nat.le_refl _), fun y c e => ?freeC, fun q hq => (nomatch (show q ∈ ([] : List (Addr × Obj)) from hq)), e0.hok.kept kp, ?len⟩
  case has =>
    have hy : scope.names.lookup y = some .cell ∨ scope.names.lookup y = some .free := hy
    rcases hy with hy | hy
    · exact absurd rfl (L.nc _ (PySem.mem_of_lookup hy))
    · exact look hy
  case loc =>
    have e3 : Vis scope y := e3
    cases i with
    | zero =>
      have a1 : x = y := Option.some.inj e1
      have a2 : v = z := Option.some.inj (Option.some.inj e2)
      subst a1 a2
      refine ⟨u, r, .inl ⟨L.par, ?_⟩⟩
      show List.lookup x [(x, u)] = some u
      rw [List.lookup_cons, beq_self_eq_true]
    | succ i =>
      have n1 : X.N[i]? = some y := e1
      have n2 : σ[i]? = some (some z) := e2
      rcases e3 with k | k | k
      · exact absurd (L.own _ k ▸ List.mem_of_getElem? n1) hx
      · exact absurd rfl (L.nc _ (PySem.mem_of_lookup k))
      · obtain ⟨m, hn, hl⟩ := I.loc
        have kf := L.free _ (PySem.mem_of_lookup k) rfl
        obtain ⟨w', r', q⟩ := hl i y z n1 n2 (kf.elim (fun k => .inr (.inl k)) (fun k => .inr (.inr k)))
        obtain ⟨c2, h2⟩ := look k
        refine ⟨w', r', .inr ⟨.inr k, c2, h2, ?_⟩⟩
        have c1 := cm h2
        rcases q with ⟨k', _⟩ | ⟨_, c3, e', zz⟩
        · have k' : X.env.scope.names.lookup y = some .local := k'
          rcases kf with k2 | k2 <;> rw [show X.env.scope.names.lookup y = _ from k2] at k' <;> cases k'
        · rw [c1] at e'
          cases e'
          exact cellK (I.freeC y _ c1) zz
  case cell =>
    obtain ⟨w', z⟩ := I.cell y c (cm e)
    exact ⟨w', cellK (I.freeC y c (cm e)) z⟩
  case freeC =>
    obtain ⟨w', o, ho, _⟩ := I.cell y c (cm e)
    exact un.free c o ho (I.freeC y c (cm e)) (by simp)
  case len =>
    show σ.length + 1 = X.N.length + 1
    rw [I.len]
/-- the lambda called with one value -/
theorem lam_run {A : Around} {outer : List Env} {E : XK} {scope : Scope} {f c' : Addr} {x : Str} {v : V} {u pm ctv : Value} {params : Arguments} {body : Expr} {k : Nat} {Q : VK} {tb : TE} (I : Inv X pins σ H s) (L : LamP X.env.scope scope x) (hx : x ∉ X.N)
    (e0 : Env0 X.prog X.w X.K X.mg X.base A outer s1 HZ) (un : Un (frs X.stack) [] H HZ s.heap s1.heap)
    (hf : s1.heap.get? f = some (PySem.W.kla_obj "<lambda>" (X.env.qual ++ "<lambda>") params body scope (cloFrom X.env.cells scope.names []) pm c' ctv)) (hc : HZ c' = some (CodeO c' (X.env.qual ++ "<lambda>")))
    (hbind : bindArgs (PySem.W.kla_fn "<lambda>" (X.env.qual ++ "<lambda>") params body scope (cloFrom X.env.cells scope.names []) pm (.ref c') ctv) ⟨[u], []⟩ = pure [(x, u)]) (r : RelV v u) (hr : Room (k + 1) A)
    (hbody : Room k (A.deeper (lamEnv X scope s1.heap.objs.size f c')) → PE (lamCxP CX X A outer s1 HZ E scope f c' x) body tb) (ht : tb (some v :: σ) HZ Q) :
    codeAny (model X.prog X.w) A (.call (.ref f) ⟨[u], []⟩) (CR CX outer X.prog X.w HZ s1 Q E) s1 := by
  obtain ⟨⟨oc, vs, t, hoc, hdc, hvc⟩, _, _⟩ := e0.hok c' _ hc
  have lim : s1.heap.NoLimit := e0.mod.nolimit.keeps fun b o e => (e0.bs b o e).1
  refine PySem.W.kla_callFunE hr.depth hf rfl L.co L.gen rfl ⟨c', oc, vs, t, rfl, hoc, hdc, hvc⟩ ?_
  rw [hbind]
  refine wpAny_pure (wpAny_newFunctionEnv L.nc (fun y hy => ?_) (fun h₁ hns hsb => ⟨lim.fresh _ hsb, ?_⟩) L.kind)
  · rw [List.mem_singleton.mp hy]
    exact L.par
  show codeAny _ _ (.expr body (lamEnv X scope s1.heap.objs.size f c')) _ _
  have kp : ∀ b o, s1.heap.get? b = some o → h₁.get? b = some o := fun b o e => hsb.extBut b o (Nat.ne_of_lt (Heap.lt_size e)) (Heap.get?_push_of_some _ e)
  have J : Inv (lamCxP CX X A outer s1 HZ E scope f c' x) [] (some v :: σ) HZ { s1 with heap := h₁, toks := s1.toks + [(x, u)].length } := lam_startP I L hx e0 hr.hd un r hns kp
  refine PySem.W.kla_codeExpr (wpAny_mono ((hbody (hr.deeper _)).run [] _ _ HZ Q J ht) (fun z s' hq => ?_) fun e s' hq => hq)
  obtain ⟨w', H', J', rv, q⟩ := hq
  exact ⟨w', H', J'.os, J'.bare, J'.base, J'.hok, rv, q⟩
end
end LT
set_option Elab.async false
set_option linter.all false
set_option maxRecDepth 100000
set_option maxHeartbeats 1000000
namespace LT
open PySem PySem.Spec PyProof.Rows L2 LamX
/-! ### sorted(list or tuple, key=f) -/
theorem freed_get {h : Heap} {a : Addr} : (h.update a fun o => { o with data := .freed }).get? a = none := by
  obtain ⟨objs, l⟩ := h
  show Heap.get? ⟨objs.modify a (fun o => { o with data := .freed }), l⟩ a = none
  unfold Heap.get?
  show (match (objs.modify a (fun o => { o with data := .freed }))[a]? with
    | some ⟨_, _, .freed, _⟩ => none
    | r => r) = none
  rw [Array.getElem?_modify, if_pos rfl]
  cases objs[a]? <;> rfl
theorem vals_at : ∀ {xs : List V} {us : List Value}, Vals xs us → ∀ (j : Nat) {v : V} {u : Value}, xs[j]? = some v → us[j]? = some u → RelV v u
  | _, _, .cons h _, 0, _, _, e1, e2 => by
    cases e1
    cases e2
    exact h
  | _, _, .cons _ t, j + 1, _, _, e1, e2 => vals_at t j e1 e2
theorem dataLe_int {β : Type} (k : β → Int) : PySem.W.dataLe false (fun v => PyData.int (k v)) = fun a b => decide (k a ≤ k b) := by
  funext a b
  have e : PySem.W.dataLe false (fun v => PyData.int (k v)) a b = !(PyProof.Rows.lexLt itemOrd [.inl (k b)] [.inl (k a)]) := rfl
  rw [e]
  have e2 : PyProof.Rows.lexLt itemOrd [.inl (k b)] [.inl (k a)] = decide (k b < k a) := by
    show (decide (k b < k a) || (!decide (k a < k b) && false)) = _
    rw [Bool.and_false, Bool.or_false]
  rw [e2, Bool.eq_iff_iff]
  simp
section
variable {prog : Program} {w : World} {A : Around} {E : Value → Shared → Prop} {s : Shared}
theorem sorted_seq {it : Addr} {T : String} {o : Obj} {vs : List Value} {n : Nat} {kw : List (Str × Value)} {Q : Value → Shared → Prop} (hT : T = "list" ∨ T = "tuple") (ho : s.heap.get? it = some o) (hc : o.cls = .type T) (hd : o.data = .seq vs.toArray n) (hL : vs.length ≤ sizeLine)
    (ha1 : argsOk "sorted" ⟨[.ref it], kw⟩) (ha2 : ∀ x, argsOk "list.sort" ⟨[.ref x], kw⟩)
    (go : ∀ (E' : Value → Shared → Prop) (g : Heap), (∀ b u, s.heap.get? b = some u → g.get? b = some u) →
      wpAny (model prog w) A.in1.in1 (Builtin.«list.sort» ⟨[.ref g.objs.size], kw⟩) (fun f s' => f = .done (.ret .none) ∧ Q (.ref g.objs.size) s') E' { s with heap := g.push (seqObj "list" vs.toArray 0) }) :
    wpAny (model prog w) A (call (.builtin "sorted") [.ref it] kw) Q E s := by
  refine call_function_entry_kw kind_sorted plain_sorted entry_sorted ha1 ?_
  unfold Builtin.«sorted»
  refine wpAny_bind (m := checkCount "sorted" 1 1 _) (wpAny_pure ?_)
  refine wpAny_bind (wpAny_collect_seq it hT ho hc hd (fun g hg => ?_) (by rw [List.size_toArray]; exact hL))
  refine wpAny_bind (wpAny_newList ?_ hL)
  refine wpAny_bind (wpAny_holding (wpAny_call_entry_kw slot_list_sort ⟨_, Heap.get?_push_size _ rfl, rfl⟩ entry_list_sort ?body (ha2 _)))
  case body =>
    refine wpAny_mono (go _ g hg) (fun f s' hf => ?_) fun _ _ e => e
    obtain ⟨rfl, hq⟩ := hf
    exact ⟨_, rfl, wpAny_pure ⟨_, rfl, hq⟩⟩
end
section
variable {X : Cx} {pins : List (Addr × Obj)} {σ : L2.St} {H : Hp} {s : Shared}
/-- an object that was not looked at is looked at as a list from now on -/
theorem inv_track {a : Addr} {ys : List V} {out : List Value} {c : Nat} (I : Inv X pins σ H s) (fp : FpOk X pins H a) (hv : Vals ys out) (hz : ys.length ≤ sizeLine) (ho : s.heap.get? a = some (seqObj "list" out.toArray c)) :
    Inv X pins σ (upd H a (.lst ys)) s := by
  have ne : ∀ b u, H b = some u → b ≠ a := fun b u e => ne_of_none e fp.1
  have at_ : ∀ b u, H b = some u → upd H a (.lst ys) b = some u := fun b u e => by rw [upd_ne (ne b u e)]; exact e
  refine I.step (h' := s.heap) (g' := s.gens) (d' := s.drawn) (t' := s.toks) (ch := [a]) (fun b hb => ?_) (fun _ _ _ _ _ e _ => e) (fun b o _ _ _ e _ => ⟨o.slots, e⟩) (fun b o hb e n => ?_) (fun b o _ e => ⟨o, e⟩) (fun b xs e => at_ _ _ e) (fun b o u e => at_ _ _ e) (fun b ps e => ⟨#[], by rw [at_ _ _ e]; simp⟩) (fun _ h => h) (fun b u e => ?_) I.bare
  · rw [List.mem_singleton.mp hb]
    exact ⟨fp.2.2.2.1, fp.2.1, fp.2.2.2.2.1, fp.2.2.2.2.2⟩
  · rw [upd_ne (fun z => hb (by rw [z]; exact List.mem_singleton.mpr rfl))]
    exact n
  · by_cases hb : b = a
    · subst hb
      rw [upd_same] at e
      cases e
      exact ⟨hz, out, c, hv, ho⟩
    · rw [upd_ne hb] at e
      exact (I.hok b u e).stay (fun _ _ _ q => q) (fun d q => at_ _ _ q) fun d xs q => at_ _ _ q
/-- the calls of the key, the sorting, the new list -/
theorem sort_keyed {xs : List V} {us : List Value} {k : V → Int} {f : Value} {g : Heap} {E' : Value → Shared → Prop} {A : Around} {R : PySem.Fin → Shared → Prop} (I : Inv X pins σ H { s with heap := g }) (hv : Vals xs us) (hz : us.length ≤ sizeLine) (hu : A.units < cLine)
    (turn : ∀ (pins' : List (Addr × Obj)) (s' : Shared) (v : V) (u : Value), (∀ p ∈ pins, p ∈ pins') → Inv X pins' σ H s' → v ∈ xs → RelV v u →
      wpAny (model X.prog X.w) A (call f [u]) (fun z s'' => ∃ t, z = .int (k v) t ∧ Inv X pins' σ H s'') (fun _ _ => False) s')
    (fin : ∀ s', H g.objs.size = none → Inv X pins σ (upd H g.objs.size (.lst (xs.mergeSort fun a b => decide (k a ≤ k b)))) s' → R (.done (.ret .none)) s') :
    wpAny (model X.prog X.w) A (ksk_tree g.objs.size f false) R E' { s with heap := g.push (seqObj "list" us.toArray 0) } := by
  have ho : (g.push (seqObj "list" us.toArray 0)).get? g.objs.size = some (seqObj "list" us.toArray 0) := Heap.get?_push_size _ rfl
  obtain ⟨e1, ho1⟩ : ∃ e1, ((g.push (seqObj "list" us.toArray 0)).update g.objs.size (Obj.mapSeq fun _ => (#[] : Array Value))).get? g.objs.size = some (seqObj "list" #[] e1) := ⟨_, get?_update_seq ho fun _ => #[]⟩
  have fa0 : FpOk X pins H g.objs.size := I.fpOk (Nat.le_refl _) (I.hok.fresh (Nat.le_refl _))
  generalize ea : g.objs.size = a at *
  have old : ∀ b u, g.get? b = some u → ((g.push (seqObj "list" us.toArray 0)).update a (Obj.mapSeq fun _ => (#[] : Array Value))).get? b = some u := fun b u e => by
    rw [Heap.get?_update_ne _ _ _ _ (by rw [← ea]; exact Nat.ne_of_lt (Heap.lt_size e))]
    exact Heap.get?_push_of_some _ e
  have hs1 : ((g.push (seqObj "list" us.toArray 0)).update a (Obj.mapSeq fun _ => (#[] : Array Value))).objs.size = a + 1 := by rw [Heap.size_update, size_push', ea]
  unfold ksk_tree
  refine wpAny_bind (listItems_at ho rfl ?_)
  refine wpAny_bind (listUpdate_at ho rfl ?_ (by rw [List.size_toArray]; exact hz) (Nat.zero_le _))
  refine wpAny_bind (seqEpoch_at ho1 rfl ?_)
  refine wpAny_bind (wpAny_newTuple ?_ (by show us.length ≤ _; exact hz))
  refine wpAny_bind (wpAny_newList ?_ (Nat.zero_le _))
  refine wpAny_holding ?_
  generalize eg1 : (g.push (seqObj "list" us.toArray 0)).update a (Obj.mapSeq fun _ => (#[] : Array Value)) = g1 at *
  have hs2 : (g1.push (seqObj "tuple" us.toArray 0)).objs.size = a + 2 := by rw [size_push', hs1]
  have nk : ((g1.push (seqObj "tuple" us.toArray 0)).push (seqObj "list" #[] 0)).get? (a + 2) = some (seqObj "list" #[] 0) := by
    rw [← hs2]
    exact Heap.get?_push_size _ rfl
  have na : ((g1.push (seqObj "tuple" us.toArray 0)).push (seqObj "list" #[] 0)).get? a = some (seqObj "list" #[] e1) := Heap.get?_push_of_some _ (Heap.get?_push_of_some _ ho1)
  have old2 : ∀ b u, g.get? b = some u → ((g1.push (seqObj "tuple" us.toArray 0)).push (seqObj "list" #[] 0)).get? b = some u := fun b u e => Heap.get?_push_of_some _ (Heap.get?_push_of_some _ (old b u e))
  show wpAny (model X.prog X.w) A (ksk_rest a f false us.toArray _ (.ref (g1.push (seqObj "tuple" us.toArray 0)).objs.size)) _ _ _
  rw [hs2]
  generalize (g1.push (seqObj "tuple" us.toArray 0)).push (seqObj "list" #[] 0) = g2 at *
  have I2 : Inv X pins σ H { s with heap := g2 } := by
    have := I.kept (h' := g2) (t' := s.toks) old2
    exact this
  have fk0 : FpOk X pins H (a + 2) := I.fpOk (by show g.objs.size ≤ a + 2; omega) (I.hok.fresh (by show g.objs.size ≤ a + 2; omega))
  have pinA : ∀ {s' : Shared}, Inv X pins σ H s' → s'.heap.get? a = some (seqObj "list" #[] e1) → Inv X ((a, seqObj "list" #[] e1) :: pins) σ H s' := fun {s'} J e => J.pins_of fun p hp => by
    rcases List.mem_cons.mp hp with rfl | hp
    · exact ⟨e, fa0.1, fa0.2.1, fa0.2.2.1, fun v z => nomatch z⟩
    · exact J.pin p (List.mem_append_right _ hp)
  have fk : FpOk X ((a, seqObj "list" #[] e1) :: pins) H (a + 2) := ⟨fk0.1, fk0.2.1, fk0.2.2.1, fk0.2.2.2.1, fk0.2.2.2.2.1, fun p hp => by
    rcases List.mem_append.mp hp with h | h
    · exact fk0.2.2.2.2.2 p (List.mem_append_left _ h)
    · rcases List.mem_cons.mp h with rfl | h
      · show a ≠ a + 2
        omega
      · exact fk0.2.2.2.2.2 p (List.mem_append_right _ h)⟩
  have hlen : us.length = xs.length := hv.length.symm
  unfold ksk_rest
  refine wpAny_bind (wpAny_rule ?_)
  rw [List.forIn_toArray]
  refine wpAny_bind (ksk_fold (fun i s' => ∃ (kA : Array Value) (e : Nat), Inv X ((a, seqObj "list" #[] e1) :: pins) σ H s' ∧ s'.heap.get? (a + 2) = some (seqObj "list" kA e) ∧ PySem.W.EachIs (fun u n => ∃ t, u = Value.int n t) kA.toList ((xs.map k).take i)) us 0 _
    ⟨#[], 0, pinA I2 na, nk, by rw [List.take_zero]; exact .nil⟩ ?step ?done)
  case step =>
    rintro j u s' hj ⟨kA, e, J, nk', hk⟩
    simp only [Nat.zero_add] at hk ⊢
    have hjl : j < us.length := (List.getElem?_eq_some_iff.mp hj).1
    obtain ⟨v, hvj⟩ : ∃ v, xs[j]? = some v := ⟨_, List.getElem?_eq_getElem (by omega)⟩
    have r : RelV v u := vals_at hv j hvj hj
    have hzA : kA.size ≤ us.length := by
      have h1 := hk.length
      rw [Array.length_toList, List.length_take, List.length_map] at h1
      omega
    have J2 : Inv X ((a + 2, seqObj "list" kA e) :: (a, seqObj "list" #[] e1) :: pins) σ H s' := J.pins_of fun p hp => by
      rcases List.mem_cons.mp hp with rfl | hp
      · exact ⟨nk', fk.1, fk.2.1, fk.2.2.1, fun v z => nomatch z⟩
      · exact J.pin p (List.mem_append_right _ hp)
    refine wpAny_bind (wpAny_attempt (wpAny_mono (turn _ s' v u (fun p hp => .tail _ (.tail _ hp)) J2 (List.mem_of_getElem? hvj) r) (fun z s'' hq => ?_) fun _ _ hF => hF.elim))
    obtain ⟨t, rfl, J3⟩ := hq
    have nk3 := (J3.pin (a + 2, seqObj "list" kA e) (List.mem_append_right _ (.head _))).1
    have J4 : Inv X ((a, seqObj "list" #[] e1) :: pins) σ H s'' := J3.pins_of fun p hp => J3.pin p (List.mem_append_right _ (.tail _ hp))
    obtain ⟨c2, hc2⟩ : ∃ c2, (s''.heap.update (a + 2) (Obj.mapSeq (·.push (.int (k v) t)))).get? (a + 2) = some (seqObj "list" (kA.push (.int (k v) t)) c2) := ⟨_, get?_update_seq nk3 (·.push (.int (k v) t))⟩
    have sb := Heap.SameBut.update s''.heap (a + 2) (Obj.mapSeq (·.push (.int (k v) t)))
    try dsimp only
    refine wpAny_bind (listUpdate_at nk3 rfl ?_ (Nat.le_trans hzA hz) (Nat.le_trans (Nat.le_of_eq (Array.size_push ..)) (Nat.succ_le_succ (Nat.le_trans hzA hz))))
    have J5 : Inv X ((a, seqObj "list" #[] e1) :: pins) σ H { s'' with heap := s''.heap.update (a + 2) (Obj.mapSeq (·.push (.int (k v) t))) } := by
      have := J4.turnedL (h' := s''.heap.update (a + 2) (Obj.mapSeq (·.push (.int (k v) t)))) (t' := s''.toks) (ch := [a + 2]) (fun b o hb q => (sb.2 b fun z => hb (by rw [z]; exact List.mem_singleton.mpr rfl)).trans q) (fun b hb => by rw [List.mem_singleton.mp hb]; exact fk)
      exact this
    refine wpAny_pure ⟨rfl, kA.push (.int (k v) t), c2, J5, hc2, ?_⟩
    have ek : (xs.map k).take (j + 1) = (xs.map k).take j ++ [k v] := by rw [List.take_add_one, List.getElem?_map, hvj]; rfl
    rw [Array.toList_push, ek]
    exact PySem.W.each_snoc (R := fun (u : Value) (n : Int) => ∃ t, u = Value.int n t) ⟨t, rfl⟩ hk
  case done =>
    rintro s' ⟨kA, e, J, nk', hk⟩
    have hk1 : PySem.W.EachIs (fun u n => ∃ t, u = Value.int n t) kA.toList (xs.map k) := by
      have e3 : (xs.map k).take (0 + us.length) = xs.map k := List.take_of_length_le (by rw [List.length_map]; omega)
      rw [e3] at hk
      exact hk
    have hsz : kA.size = us.length := by
      have h1 := hk1.length
      rw [Array.length_toList, List.length_map] at h1
      omega
    have na' := (J.pin (a, seqObj "list" #[] e1) (List.mem_append_right _ (.head _))).1
    have hk2 : PySem.W.EachIs (fun v d => ∃ as, Reads s'.heap v d as) kA.toList (xs.map fun v => PyData.int (k v)) := by
      have h2 : ∀ (us : List Value) (ys : List V), PySem.W.EachIs (fun u n => ∃ t, u = Value.int n t) us (ys.map k) → PySem.W.EachIs (fun v d => ∃ as, Reads s'.heap v d as) us (ys.map fun v => PyData.int (k v)) := by
        intro us ys h
        induction ys generalizing us with
        | nil => cases h; exact .nil
        | cons y ys ih =>
          cases h with
          | cons h t =>
            obtain ⟨tt, rfl⟩ := h
            exact .cons ⟨[], .int _ _⟩ (ih _ t)
      exact h2 _ _ hk1
    have hal : PySem.W.AllAlike (xs.map fun v => PyData.int (k v)) := fun d hd d' hd' => by
      obtain ⟨_, _, rfl⟩ := List.mem_map.mp hd
      obtain ⟨_, _, rfl⟩ := List.mem_map.mp hd'
      simp [PySem.W.alike]
    have hso : PySem.W.Sortable (xs.map fun v => PyData.int (k v)) := .inr fun d hd => by
      obtain ⟨_, _, rfl⟩ := List.mem_map.mp hd
      exact ⟨nofun, nofun⟩
    have hdp : ∀ d, d ∈ (xs.map fun v => PyData.int (k v)) → A.units + d.depth < cLine := fun d hd => by
      obtain ⟨_, _, rfl⟩ := List.mem_map.mp hd
      simpa [PyData.depth] using hu
    have sb := Heap.SameBut.update s'.heap (a + 2) fun o => { o with data := .freed }
    have kp : PySem.W.KeepsBut a (s'.heap.update (a + 2) fun o => { o with data := .freed }) s'.heap := fun b o hb q => by
      by_cases hb2 : b = a + 2
      · rw [hb2, freed_get] at q
        cases q
      · exact ((sb.2 b hb2).symm.trans q)
    try dsimp only
    refine wpAny_bind (listItems_at nk' rfl ?_)
    refine PySem.W.keyH_end (κ := PySem.W.dataKind s'.heap (xs.map fun v => PyData.int (k v))) (h₁ := s'.heap.update (a + 2) fun o => { o with data := .freed }) kp freed_get nk' na' (show a + 2 ≠ a by omega) (PySem.W.SortsAt.data (s := s') hk2 hal hso hdp) hsz hz fun h3 tk3 c k3 n3 => ?_
    have ko : PySem.W.KeyedOut false (xs.map fun v => PyData.int (k v)) us (PySem.W.sortVals (PySem.W.dataKind s'.heap (xs.map fun v => PyData.int (k v))) false kA.toList us) := ⟨s'.heap, kA.toList, hal, rfl, hk2⟩
    have hR : PySem.W.EachIs (fun (u : Value) (v : V) => RelV v u) us xs := by
      have h2 : ∀ (xs : List V) (us : List Value), Vals xs us → PySem.W.EachIs (fun (u : Value) (v : V) => RelV v u) us xs := by
        intro xs us h
        induction h with
        | nil => exact .nil
        | cons a _ ih => exact .cons a ih
      exact h2 _ _ hv
    have hO := PySem.W.keyedOut_each (fun v => PyData.int (k v)) ko hR
    rw [dataLe_int] at hO
    have hV : Vals (xs.mergeSort fun a b => decide (k a ≤ k b)) (PySem.W.sortVals (PySem.W.dataKind s'.heap (xs.map fun v => PyData.int (k v))) false kA.toList us) := by
      have h2 : ∀ (us : List Value) (xs : List V), PySem.W.EachIs (fun (u : Value) (v : V) => RelV v u) us xs → Vals xs us := by
        intro us xs h
        induction h with
        | nil => exact .nil
        | cons a _ ih => exact .cons a ih
      exact h2 _ _ hO
    have J1 : Inv X pins σ H s' := J.pins_of fun p hp => J.pin p (List.mem_append_right _ (.tail _ hp))
    have J6 := J1.turnedL (h' := h3) (t' := tk3) (ch := [a, a + 2]) (fun b o hb q => by
      have n1 : b ≠ a := fun z => hb (by rw [z]; exact .head _)
      have n2 : b ≠ a + 2 := fun z => hb (by rw [z]; exact .tail _ (.head _))
      exact k3 b o n1 ((sb.2 b n2).trans q)) (fun b hb => by
      rcases List.mem_cons.mp hb with rfl | hb
      · exact fa0
      · rw [List.mem_singleton.mp hb]
        exact fk0)
    refine fin _ fa0.1 (inv_track J6 fa0 hV ?_ n3)
    rw [List.length_mergeSort]
    omega
end
end LT
set_option Elab.async false
set_option linter.all false
set_option maxRecDepth 100000
set_option maxHeartbeats 1000000
namespace LT
open PySem PySem.Spec PyProof.Rows L2 LamX
theorem extN_seqL {K : PySem.W.Frag} {H H' : Hp} {a : Addr} {xs : List V} (e : ExtN H H') (h : SqL K H a xs) : SqL K H' a xs := by
  rcases h with (h | ⟨o, h⟩) | h
  · exact .inl (.inl (e _ _ h nofun))
  · exact .inl (.inr ⟨o, e _ _ h nofun⟩)
  · exact .inr h
theorem extN_seqT {K : PySem.W.Frag} {H H' : Hp} {a : Addr} {xs : List V} (e : ExtN H H') (h : SqT K H a xs) : SqT K H' a xs := by
  rcases h with (h | ⟨o, h⟩) | h
  · exact .inl (.inl (e _ _ h nofun))
  · exact .inl (.inr ⟨o, e _ _ h nofun⟩)
  · exact .inr h
def oneOf (R : V → Hp → Prop) : List V → Hp → Prop
  | [z], H => R z H
  | _, _ => False
def tSortLam (K : PySem.W.Frag) (T : List (Addr × Str)) (ta : TA) (tb : TE) : TE := fun σ H Q => ta σ H (oneOf fun z H1 => Tabs T H1 ∧ ∃ (q : Addr) (xs : List V) (k : V → Int), z = .ref q ∧ (SqL K H1 q xs ∨ SqT K H1 q xs) ∧
  ∀ H2, ExtN H1 H2 → Tabs T H2 → (∀ v ∈ xs, ∀ Q' : VK, Q' (.int (k v)) H2 → tb (some v :: σ) H2 Q') ∧ ∀ l, H2 l = none → Q (.ref l) (upd H2 l (.lst (xs.mergeSort fun a b => decide (k a ≤ k b)))))
section
variable {X : Cx}
theorem stk_free {f : Addr} (hst : X.stack = X.env :: X.outer) (hfr : X.env.frame = some X.env.locals) (h : f ∉ frs X.stack) : f ≠ X.env.locals ∧ f ∉ X.fs := by
  rw [hst] at h
  have e : frs (X.env :: X.outer) = X.env.locals :: frs X.outer := by
    unfold frs
    rw [List.filterMap_cons, hfr]
  rw [e] at h
  exact ⟨fun z => h (by rw [z]; exact .head _), fun z => h (.tail _ z)⟩
theorem in1_env0 {pins : List (Addr × Obj)} {σ : L2.St} {H : Hp} {s : Shared} (I : Inv X pins σ H s) : Env0 X.prog X.w X.K X.mg X.base X.A.in1.in1 X.stack s H := by
  have e := I.env0
  exact ⟨e.frames, e.mod, e.bs, e.bsz, e.funs, e.frf, e.hok, e.bare⟩
/-- sorted(e, key=lambda x: body) -/
theorem pe_sortedLam {T : List (Addr × Str)} {c P : Addr} {x : Str} {k : Nat} {params : Arguments} {body e : Expr} {scope : Scope} {ta : TA} {tb : TE} {p lpos kpos pos : Pos} (hg : Gl X "sorted") (hm : X.mg "sorted" = none) (ha : PA X [e] ta)
    (hst : X.stack = X.env :: X.outer) (hfr : X.env.frame = some X.env.locals) (TB : TabB X.base X.mg c P) (hcode : X.env.code = .ref c) (hmT : (P, X.env.qual ++ "<lambda>") ∈ T) (hu : ∀ p ∈ T, p.1 = P → p.2 = X.env.qual ++ "<lambda>")
    (L : LamP X.env.scope scope x) (hx : x ∉ X.N) (hdef : defaultsOf params X.env = ([], [])) (hbind : ∀ (q : Str) (cl : List (Str × Addr)) (pm cv ctv u : Value), bindArgs (PySem.W.kla_fn "<lambda>" q params body scope cl pm cv ctv) ⟨[u], []⟩ = pure [(x, u)]) (hr : Room (k + 3) X.A)
    (hbody : ∀ (A : Around) (outer : List Env) (s : Shared) (H : Hp) (f c' : Addr), Room k (A.deeper (lamEnv X scope s.heap.objs.size f c')) → PE (lamCxP noX X A outer s H noE scope f c' x) body tb)
    (hv : bootBuiltins "sorted" = some (.builtin "sorted"))
    (he : backTo pos (starEach [e] X.env) = (false, eval e X.env) :: backTo pos (starEach [] X.env) := by rfl) (hpl : (backTo pos (starEach [e] X.env)).any (·.1) = false := by rfl)  :
    PE X (.Call (.Name "sorted" p) [e] [⟨some "key", .Lambda params body scope lpos, kpos⟩] pos) (tSortLam X.K T ta tb) := by
  refine ⟨fun pins s σ H Q I h => ?_⟩
  refine wpAny_Call_Name_kw (ld_blt I hg hm hv ?_)
  refine PyProof.Rows.callWith_kw (thn (ha.run pos pins s σ H (oneOf fun z H1 => Tabs T H1 ∧ ∃ (q : Addr) (xs : List V) (k : V → Int), z = .ref q ∧ (SqL X.K H1 q xs ∨ SqT X.K H1 q xs) ∧
    ∀ H2, ExtN H1 H2 → Tabs T H2 → (∀ v ∈ xs, ∀ Q' : VK, Q' (.int (k v)) H2 → tb (some v :: σ) H2 Q') ∧ ∀ l, H2 l = none → Q (.ref l) (upd H2 l (.lst (xs.mergeSort fun a b => decide (k a ≤ k b))))) I h) fun us s1 ⟨vs, H1, I1, r1, q1⟩ => ?_) he hpl (by rfl) (by rfl)
  match vs, q1 with
  | [z], q1 =>
  have q1 : Tabs T H1 ∧ ∃ (q : Addr) (xs : List V) (k : V → Int), z = .ref q ∧ (SqL X.K H1 q xs ∨ SqT X.K H1 q xs) ∧
    ∀ H2, ExtN H1 H2 → Tabs T H2 → (∀ v ∈ xs, ∀ Q' : VK, Q' (.int (k v)) H2 → tb (some v :: σ) H2 Q') ∧ ∀ l, H2 l = none → Q (.ref l) (upd H2 l (.lst (xs.mergeSort fun a b => decide (k a ≤ k b)))) := q1
  show wpAny _ _ (evalAll ((do let v ← eval (.Lambda params body scope lpos) X.env; standAt pos; pure v) :: (backToKw pos (keywordEach [] X.env)).map (·.2))) _ _ s1
  obtain ⟨hT, q, xs, kf, rfl, hq, h2⟩ := q1
  refine wpAny_evalAll_cons (wpAny_bind (lam_make2 I1 TB hcode hmT hu hT hdef (L.has I1.ok) fun f c' pm ctv H2 s2 I2 eN T2 hf hfn hfs hco => wpAny_bind (wpAny_standAt (wpAny_pure ?_))))
  refine wpAny_evalAll_nil ?_
  obtain ⟨hb, hQ⟩ := h2 H2 eN T2
  obtain ⟨n1, n2⟩ := stk_free hst hfr hfs
  have I3 : Inv X ((f, PySem.W.kla_obj "<lambda>" (X.env.qual ++ "<lambda>") params body scope (cloFrom X.env.cells scope.names []) pm c' ctv) :: pins) σ H2 s2 := I2.pins_of fun p hp => by
    rcases List.mem_cons.mp hp with rfl | hp
    · exact ⟨hf, hfn, n1, n2, fun v z => nomatch z⟩
    · exact I2.pin p (List.mem_append_right _ hp)
  cases r1 with
  | cons r1 r0 =>
    cases r0
    cases r1
    show wpAny (model X.prog X.w) X.A (call (.builtin "sorted") [.ref q] [(Str.ofString "key", .ref f)]) _ _ s2
    have seq : ∃ (T : String) (o : Obj) (its : List Value) (n : Nat), (T = "list" ∨ T = "tuple") ∧ s2.heap.get? q = some o ∧ o.cls = .type T ∧ o.data = .seq its.toArray n ∧ Vals xs its ∧ its.length ≤ sizeLine := by
      rcases hq with hq | hq
      · obtain ⟨its, hv, ⟨o, n, e1, e2, _, e4⟩, hl⟩ := I2.list (extN_seqL eN hq)
        exact ⟨"list", o, its, n, .inl rfl, e1, e2, e4, hv, by rw [← hv.length]; exact hl⟩
      · obtain ⟨its, hv, ⟨o, e1, e2, n, e4⟩, hl⟩ := I2.tuple (extN_seqT eN hq)
        exact ⟨"tuple", o, its, n, .inr rfl, e1, e2, e4, hv, by rw [← hv.length]; exact hl⟩
    obtain ⟨T', o, its, n, hT', e1, e2, e3, hvs, hl⟩ := seq
    refine sorted_seq hT' e1 e2 e3 hl (ksk_s1 _ _) (fun _ => ksk_l1 _ _) fun E' g hg => ?_
    rw [ksk_t1]
    have I4 : Inv X ((f, PySem.W.kla_obj "<lambda>" (X.env.qual ++ "<lambda>") params body scope (cloFrom X.env.cells scope.names []) pm c' ctv) :: pins) σ H2 { s2 with heap := g } := by
      have := I3.kept (h' := g) (t' := s2.toks) hg
      exact this
    have hr2 : Room (k + 1) X.A.in1.in1 := hr.in1.in1
    refine sort_keyed (k := kf) I4 hvs hl hr2.units0 (fun pins' s' v u hp J hv r => ?_) fun s' hn J => ⟨rfl, .ref g.objs.size, _, J.pins_of fun p hp => J.pin p (List.mem_append_right _ (.tail _ hp)), rfl, hQ _ hn⟩
    have hf' := (J.pin _ (List.mem_append_right _ (hp _ (.head _)))).1
    refine wpAny_call (codeAny_mono (lam_run (CX := noX) (E := noE) (Q := fun z H' => z = .int (kf v) ∧ H' = H2) (k := k) J L hx (in1_env0 J) Un.refl hf' hco (hbind _ _ _ _ _ _) r hr2 (fun hr3 => hbody _ _ _ _ _ _ hr3) (hb v hv _ ⟨rfl, rfl⟩)) fun res s'' hq => ?_)
    match res, hq with
    | .error _, hq => exact hq.elim
    | .ok .next, hq => exact hq.elim
    | .ok .brk, hq => exact hq.elim
    | .ok .cont, hq => exact hq.elim
    | .ok (.ret z), hq =>
      obtain ⟨z', H', J', rz, rfl, rfl⟩ := J.after hq
      obtain ⟨t, rfl⟩ := rz
      exact ⟨t, rfl, J'⟩
end
end LT
set_option Elab.async false
set_option linter.all false
namespace LD
abbrev Row := Int × Option Int
def In (r : Row) (d : Int) : Prop := r.1 ≤ d ∧ ∀ j, r.2 = some j → d ≤ j
def Ins (L : List Row) (d : Int) : Prop := ∃ r, r ∈ L ∧ In r d
def Ok (r : Row) : Prop := 0 ≤ r.1 ∧ ∀ j, r.2 = some j → r.1 ≤ j
theorem Ok.self {r : Row} (h : Ok r) : In r r.1 := ⟨Int.le_refl _, h.2⟩
/-- told in one way alone, the last row ahead -/
def Can : List Row → Prop
  | [] => True
  | [r] => Ok r
  | r :: s :: t => Ok r ∧ (∃ j, s.2 = some j ∧ j + 1 < r.1) ∧ Can (s :: t)
theorem Can.tail {r : Row} : ∀ {t : List Row}, Can (r :: t) → Can t
  | [], _ => trivial
  | _ :: _, h => h.2.2
theorem Can.hd {r : Row} : ∀ {t : List Row}, Can (r :: t) → Ok r
  | [], h => h
  | _ :: _, h => h.1
/-- the rows behind the head end two days ahead of it -/
theorem Can.under : ∀ {t : List Row} {r : Row}, Can (r :: t) → ∀ s ∈ t, ∃ j, s.2 = some j ∧ j + 1 < r.1
  | [], _, _, s, hs => nomatch hs
  | u :: t, r, h, s, hs => by
    obtain ⟨j, e, hj⟩ := h.2.1
    rcases List.mem_cons.mp hs with rfl | hs
    · exact ⟨j, e, hj⟩
    · obtain ⟨i, e2, hi⟩ := Can.under h.2.2 s hs
      have := h.2.2.hd.2 j e
      exact ⟨i, e2, by omega⟩
theorem Can.ok : ∀ {L : List Row}, Can L → ∀ s ∈ L, Ok s
  | [], _, s, hs => nomatch hs
  | r :: t, h, s, hs => by
    rcases List.mem_cons.mp hs with rfl | hs
    · exact h.hd
    · exact h.tail.ok s hs
theorem ins_cons {r : Row} {t : List Row} {d : Int} : Ins (r :: t) d ↔ In r d ∨ Ins t d := by
  constructor
  · rintro ⟨s, hs, h⟩
    rcases List.mem_cons.mp hs with rfl | hs
    · exact .inl h
    · exact .inr ⟨s, hs, h⟩
  · rintro (h | ⟨s, hs, h⟩)
    · exact ⟨r, .head _, h⟩
    · exact ⟨s, .tail _ hs, h⟩
theorem not_nil {d : Int} : ¬ Ins [] d := fun ⟨_, h, _⟩ => nomatch h
/-- what is of the tail is two days ahead of the head -/
theorem Can.below {r : Row} {t : List Row} (h : Can (r :: t)) {d : Int} (hd : Ins t d) : d + 1 < r.1 := by
  obtain ⟨s, hs, hi⟩ := hd
  obtain ⟨j, e, hj⟩ := h.under s hs
  have := hi.2 j e
  omega
/-- the same days, told in one way -/
theorem uniq : ∀ {L L' : List Row}, Can L → Can L' → (∀ d, Ins L d ↔ Ins L' d) → L = L'
  | [], [], _, _, _ => rfl
  | [], r :: t, _, h', e => absurd ((e r.1).mpr (ins_cons.mpr (.inl h'.hd.self))) not_nil
  | r :: t, [], h, _, e => absurd ((e r.1).mp (ins_cons.mpr (.inl h.hd.self))) not_nil
  | (a, x) :: t, (b, y) :: t', h, h', e => by
    have ha := h.hd
    have hb := h'.hd
    have lo : ∀ {a b : Int} {x y : Option Int} {t t' : List Row}, Can ((a, x) :: t) → Can ((b, y) :: t') → (∀ d, Ins ((a, x) :: t) d ↔ Ins ((b, y) :: t') d) → y = x → b ≤ a := by
      intro a b x y t t' h h' e exy
      by_cases hlt : a < b
      · exfalso
        have hin : In (a, x) (b - 1) := ⟨by show a ≤ b - 1; omega, fun j ej => by
          have := h'.hd.2 j (by show y = some j; rw [exy]; exact ej)
          show b - 1 ≤ j
          have : b ≤ j := this
          omega⟩
        rcases ins_cons.mp ((e (b - 1)).mp (ins_cons.mpr (.inl hin))) with z | z
        · have := z.1
          have : b ≤ b - 1 := this
          omega
        · have := h'.below z
          have : b - 1 + 1 < b := this
          omega
      · omega
    have hi : ∀ {a b : Int} {x y : Option Int} {t t' : List Row}, Can ((a, x) :: t) → Can ((b, y) :: t') → (∀ d, Ins ((a, x) :: t) d ↔ Ins ((b, y) :: t') d) → ∀ j, y = some j → ∃ i, x = some i ∧ i ≤ j := by
      intro a b x y t t' h h' e j ej
      have top : ∀ d, Ins ((b, y) :: t') d → d ≤ j := fun d hd => by
        rcases ins_cons.mp hd with z | z
        · exact z.2 j ej
        · have := h'.below z
          have h2 := h'.hd.2 j ej
          have : d + 1 < b := this
          have : b ≤ j := h2
          omega
      cases x with
      | none =>
        exfalso
        by_cases hc : a ≤ j + 1
        · have := top (j + 1) ((e _).mp (ins_cons.mpr (.inl ⟨hc, nofun⟩)))
          omega
        · have := top a ((e _).mp (ins_cons.mpr (.inl h.hd.self)))
          omega
      | some i =>
        refine ⟨i, rfl, ?_⟩
        exact top i ((e _).mp (ins_cons.mpr (.inl ⟨h.hd.2 i rfl, fun k ek => by cases ek; exact Int.le_refl _⟩)))
    have exy : x = y := by
      cases y with
      | some j =>
        obtain ⟨i, rfl, hij⟩ := hi h h' e j rfl
        obtain ⟨k, ek, hk⟩ := hi h' h (fun d => (e d).symm) i rfl
        cases ek
        exact congrArg some (by omega)
      | none =>
        cases x with
        | none => rfl
        | some i =>
          obtain ⟨k, ek, _⟩ := hi h' h (fun d => (e d).symm) i rfl
          cases ek
    subst exy
    have eab : a = b := by
      have h1 := lo h h' e rfl
      have h2 := lo h' h (fun d => (e d).symm) rfl
      omega
    subst eab
    have et : t = t' := uniq h.tail h'.tail fun d => by
      constructor
      · intro hd
        have lt := h.below hd
        rcases ins_cons.mp ((e d).mp (ins_cons.mpr (.inr hd))) with z | z
        · have := z.1
          have : a ≤ d := this
          have : d + 1 < a := lt
          omega
        · exact z
      · intro hd
        have lt := h'.below hd
        rcases ins_cons.mp ((e d).mpr (ins_cons.mpr (.inr hd))) with z | z
        · have := z.1
          have : a ≤ d := this
          have : d + 1 < a := lt
          omega
        · exact z
    rw [et]
/-! ### merging -/
/-! ### the walk over the marks -/
def stepD (w : Int → Bool) (R : List Row) (d : Int) : List Row := match R with
  | [] => if w d = true then [(d, none)] else []
  | (f, none) :: t => if w d = true then (f, none) :: t else (f, some (d - 1)) :: t
  | (f, some j) :: t => if w d = true then (d, none) :: (f, some j) :: t else (f, some j) :: t
structure Till (w : Int → Bool) (R : List Row) (m : Int) : Prop where
  can : Can R
  up : ∀ d, d ≤ m → (Ins R d ↔ w d = true)
  on : ∀ d, m < d → (Ins R d ↔ w m = true)
  fs : ∀ r ∈ R, r.1 ≤ m
theorem Till.step {w : Int → Bool} {R : List Row} {m n : Int} (h : Till w R m) (hn : m < n) (n0 : 0 ≤ n) (cst : ∀ d, m ≤ d → d < n → w d = w m) : Till w (stepD w R n) n := by
  have mid : ∀ d, d < n → (Ins R d ↔ w d = true) := fun d hd => by
    by_cases hm : d ≤ m
    · exact h.up d hm
    · rw [h.on d (by omega), cst d (by omega) hd]
  have keep : Ins R n → w m = true := fun z => (h.on n hn).mp z
  have noN : w m = false → ∀ d, m ≤ d → ¬ Ins R d := fun e d hd z => by
    by_cases hm : d ≤ m
    · have : d = m := by omega
      subst this
      have := (h.up d (Int.le_refl _)).mp z
      rw [e] at this
      cases this
    · have := (h.on d (by omega)).mp z
      rw [e] at this
      cases this
  have same : ∀ b, w m = b → w n = b → Till w R n := fun b e1 e2 => ⟨h.can, fun d hd => by
    by_cases hdn : d < n
    · exact mid d hdn
    · have : d = n := by omega
      subst this
      rw [h.on d hn, e1, e2], fun d hd => by rw [h.on d (by omega), e1, e2], fun r hr => by have := h.fs r hr; omega⟩
  have open_ : w m = false → w n = true → Till w ((n, none) :: R) n := fun e1 e2 => by
    refine ⟨?_, fun d hd => ?_, fun d hd => ?_, fun r hr => ?_⟩
    · cases hR : R with
      | nil => exact ⟨n0, nofun⟩
      | cons r t =>
        rw [hR] at h noN
        refine ⟨⟨n0, nofun⟩, ?_, h.can⟩
        obtain ⟨f, x⟩ := r
        cases x with
        | none => exact absurd (ins_cons.mpr (.inl (show In (f, none) m from ⟨h.fs (f, none) (.head _), fun j ej => by cases ej⟩))) (noN e1 m (Int.le_refl _))
        | some j =>
          refine ⟨j, rfl, ?_⟩
          show j + 1 < n
          by_cases hj : j < m
          · omega
          · exact absurd (ins_cons.mpr (.inl ⟨h.can.hd.2 j rfl, fun k ek => by cases ek; exact Int.le_refl _⟩)) (noN e1 j (by omega))
    · rw [ins_cons]
      by_cases hdn : d < n
      · rw [← mid d hdn]
        exact ⟨fun z => z.elim (fun q => by have := q.1; have : n ≤ d := this; omega) id, .inr⟩
      · have : d = n := by omega
        subst this
        exact ⟨fun _ => e2, fun _ => .inl ⟨Int.le_refl _, nofun⟩⟩
    · rw [ins_cons]
      exact ⟨fun _ => e2, fun _ => .inl ⟨by show n ≤ d; omega, nofun⟩⟩
    · rcases List.mem_cons.mp hr with rfl | hr
      · exact Int.le_refl _
      · have := h.fs r hr
        omega
  unfold stepD
  split
  · have e1 : w m = false := by
      cases hw : w m with
      | false => rfl
      | true => exact absurd ((h.on n hn).mpr hw) not_nil
    split
    · rename_i e2
      exact open_ e1 e2
    · rename_i e2
      exact same false e1 (by cases hw : w n <;> first | rfl | exact absurd hw e2)
  · rename_i f t
    have e1 : w m = true := (h.on n hn).mp (ins_cons.mpr (.inl ⟨by have := h.fs (f, none) (.head _); have : f ≤ m := this; show f ≤ n; omega, nofun⟩))
    have hf : f ≤ m := h.fs (f, none) (.head _)
    split
    · rename_i e2
      exact same true e1 e2
    · rename_i e2
      have e2 : w n = false := by cases hw : w n <;> first | rfl | exact absurd hw e2
      refine ⟨?_, fun d hd => ?_, fun d hd => ?_, fun r hr => ?_⟩
      · have okn : Ok (f, some (n - 1)) := ⟨h.can.hd.1, fun j ej => by cases ej; show f ≤ n - 1; omega⟩
        cases t with
        | nil => exact okn
        | cons s t => exact ⟨okn, h.can.2.1, h.can.2.2⟩
      · rw [ins_cons]
        by_cases hdn : d < n
        · rw [← mid d hdn, ins_cons]
          constructor
          · rintro (z | z)
            · exact .inl ⟨z.1, nofun⟩
            · exact .inr z
          · rintro (z | z)
            · exact .inl ⟨z.1, fun j ej => by cases ej; omega⟩
            · exact .inr z
        · have : d = n := by omega
          subst this
          rw [e2]
          refine ⟨fun z => ?_, nofun⟩
          rcases z with z | z
          · have := z.2 (d - 1) rfl
            omega
          · have := h.can.below z
            have : d + 1 < f := this
            omega
      · rw [ins_cons, e2]
        refine ⟨fun z => ?_, nofun⟩
        rcases z with z | z
        · have := z.2 (n - 1) rfl
          omega
        · have := h.can.below z
          have : d + 1 < f := this
          omega
      · rcases List.mem_cons.mp hr with rfl | hr
        · show f ≤ n
          omega
        · have := h.fs r (.tail _ hr)
          omega
  · rename_i f j t
    have e1 : w m = false := by
      cases hw : w m with
      | false => rfl
      | true =>
        have big : ∀ d, m < d → d ≤ j := fun d hd => by
          rcases ins_cons.mp ((h.on d hd).mpr hw) with z | z
          · exact z.2 j rfl
          · have := h.can.below z
            have h2 : f ≤ m := h.fs (f, some j) (.head _)
            have : d + 1 < f := this
            omega
        have b1 := big (m + 1) (by omega)
        have b2 := big (j + 1) (by omega)
        omega
    split
    · rename_i e2
      exact open_ e1 e2
    · rename_i e2
      exact same false e1 (by cases hw : w n <;> first | rfl | exact absurd hw e2)
/-! ### the rows' own look -/
end LD
set_option Elab.async false
set_option linter.all false
set_option maxRecDepth 100000
set_option maxHeartbeats 3200000
namespace LT
open PySem PySem.Spec PyProof.Rows L2
end LT
set_option Elab.async false
set_option linter.all false
set_option maxRecDepth 100000
namespace LT
open PySem PySem.Spec PyProof.Rows L2 LamX
/-- a list or a tuple -/
def Sq2 (K : PySem.W.Frag) (H : Hp) (a : Addr) (xs : List V) : Prop := SqL K H a xs ∨ SqT K H a xs
def Still (K : PySem.W.Frag) (H1 : Hp) (a : Addr) (xs : List V) (H : Hp) : Prop := (SqL K H1 a xs → SqL K H a xs) ∧ (SqT K H1 a xs → SqT K H a xs)
theorem Still.of {K : PySem.W.Frag} {H1 H : Hp} {a : Addr} {xs : List V} (e : ExtN H1 H) : Still K H1 a xs H := ⟨extN_seqL e, extN_seqT e⟩
theorem Sq2.ext {K : PySem.W.Frag} {H1 H : Hp} {a : Addr} {xs : List V} (h : Sq2 K H1 a xs) (e : ExtN H1 H) : Sq2 K H a xs := h.imp (extN_seqL e) (extN_seqT e)
theorem extN_same {H H' : Hp} (s : Same H H') : ExtN H H' := ExtN.of s
end LT
set_option Elab.async false
set_option linter.all false
set_option maxRecDepth 100000
set_option maxHeartbeats 1600000
namespace LT
open PySem PySem.Spec PyProof.Rows L2
section
variable {prog : Program} {w : World} {A : Around} {E : Value → Shared → Prop} {s : Shared}
/-- two lists that are not of one length -/
theorem ne_lens {Q : Value → Shared → Prop} {l b : Addr} {items items2 : Array Value} {n n2 : Nat} (hu : A.units < cLine) (ho : s.heap.get? l = some { cls := .type "list", data := .seq items n }) (ho2 : s.heap.get? b = some { cls := .type "list", data := .seq items2 n2 }) (hd : items.size ≠ items2.size)
    (h : Q (.bool true) s) : wpAny (model prog w) A (richCompare .NotEq (.ref l) (.ref b)) Q E s := by
  refine wpAny_richCompare_same_room (op := .NotEq) ⟨_, ho, rfl⟩ ⟨_, ho2, rfl⟩ PySem.F.slot_list_ne (GQ.call_here PySem.F.slot_list_ne ⟨_, ho, rfl⟩ PySem.F.entry_list_ne (PySem.F.args_list_ne_2 _ _) ?_) hu
  have f3 := AutoSeq1.sub_list_list
  have hne : (items.size != items2.size) = true := by simpa using hd
  obtain ⟨hp, g, d, tk, os⟩ := s
  wp_walk using wpAny_loadPart' ho, wpAny_loadPart' ho2
  exact ⟨(fun z => nomatch z), h⟩
end
def rNeNil (K : PySem.W.Frag) : R2 := fun x y H Q => ∃ (l k : Addr) (xs : List V), x = .ref l ∧ y = .ref k ∧ H l = some (.lst xs) ∧ H k = some (.lst []) ∧ Q (.bl (!xs.isEmpty)) H
/-- xs != [] -/
theorem op_neNil {X : Cx} (hu : X.A.units + 64 < cLine) : OpR X (compareOp .NotEq) (rNeNil X.K) := by
  intro pins s σ H x y v u Q I rx ry h
  obtain ⟨l, k, xs, rfl, rfl, hl, hk, q⟩ := h
  cases xs with
  | nil => exact op_neD hu pins s σ H _ _ v u Q I rx ry ⟨.list [], .list [], .lst (SqL.of hl) .nil, .lst (SqL.of hk) .nil, by decide +kernel, by decide +kernel, by
      rw [show PyData.eqv (.list []) (.list []) = true by decide +kernel]
      exact q⟩
  | cons x xs =>
    cases rx
    cases ry
    obtain ⟨_, its, n, rv, ho⟩ := (show ObjOk X.prog X.w H s.heap l (.lst (x :: xs)) from I.hok l _ hl)
    obtain ⟨_, its2, n2, rv2, ho2⟩ := (show ObjOk X.prog X.w H s.heap k (.lst []) from I.hok k _ hk)
    cases rv2
    refine ne_lens (by omega) ho ho2 ?_ ⟨.bl true, H, I, rfl, q⟩
    have := rv.length
    rw [List.length_cons] at this
    show its.toArray.size ≠ 0
    rw [List.size_toArray]
    omega
end LT
set_option Elab.async false
set_option linter.all false
set_option maxRecDepth 100000
set_option maxHeartbeats 1600000
/-! Own layer: what the laws over books draw: names, plans, events. -/
namespace LT
open PySem PySem.Spec PyProof.Rows L2 NdefX
def spTakeW : Sp := fun vs H Q _ => ∃ (p : Addr) (r : Int), vs = [.ref p, .int r] ∧ Pot H p ∧ 0 < r ∧ r ≤ 10 ^ 61 ∧
  ∀ (d : Int) (H' : Hp), 0 ≤ d → d < r → Pot H' p → SameB p H H' → Q (.int d) H'
theorem nopy61 {x r : Int} (h0 : 0 < r) (h : r ≤ 10 ^ 61) : Builtin.divisionGoesByPylong x r = false := by
  refine PyProof.noPylong_of_log2 (Nat.lt_trans ?_ (show 1920 < 9000 by decide))
  exact lg61 (by omega)
def spFarB : Sp := fun vs H Q _ => ∃ (p : Addr), vs = [.ref p] ∧ Pot H p ∧ ∀ (d : Int) (H' : Hp), 0 ≤ d → d < 10 ^ 54 → Pot H' p → SameB p H H' → Q (.int d) H'
/-- unlike names -/
structure Names (zs : List Str) : Prop where
  nd : zs.Nodup
  nm : ∀ z ∈ zs, Nm z
theorem Names.nil : Names [] := ⟨List.nodup_nil, nofun⟩
theorem Names.snoc {zs : List Str} {z : Str} (h : Names zs) (hz : Nm z) (n : z ∉ zs) : Names (zs ++ [z]) := by
  refine ⟨?_, fun y hy => ?_⟩
  · rw [List.nodup_append]
    refine ⟨h.nd, List.nodup_cons.mpr ⟨nofun, List.nodup_nil⟩, fun a ha b hb e => ?_⟩
    rw [List.mem_singleton.mp hb] at e
    exact n (e ▸ ha)
  · rcases List.mem_append.mp hy with h1 | h1
    · exact h.nm y h1
    · rw [List.mem_singleton.mp h1]
      exact hz
def spNamesD : Sp := fun vs H Q _ => ∃ (p : Addr) (m : Int), vs = [.ref p, .int m] ∧ Pot H p ∧ 0 ≤ m ∧ m ≤ 30 ∧
  ∀ (L : Addr) (zs : List Str) (H' : Hp), H L = none → H' L = some (.lst (zs.map V.str)) → Names zs → zs.length = m.toNat → Pot H' p → SameB p H H' → Q (.ref L) H'
theorem at_small26 {d : Int} (d0 : 0 ≤ d) (d1 : d < 26) : ∃ c, atI (Str.ofString "abcdefghijklmnopqrstuvwxyz").cps.toList d = some c ∧ small c = true ∧ (c : Int) = 97 + d := by
  obtain ⟨j, rfl⟩ := Int.eq_ofNat_of_zero_le d0
  have hj : j < (Str.ofString "abcdefghijklmnopqrstuvwxyz").cps.toList.length := by
    rw [letters, List.length_range']
    omega
  have hg : (Str.ofString "abcdefghijklmnopqrstuvwxyz").cps.toList[j]? = some (97 + j) := by
    rw [letters, List.getElem?_range' (by omega)]
    congr 1
    omega
  refine ⟨97 + j, atI_nat hg, ?_, by omega⟩
  rw [← small_mem]
  exact decide_eq_true (List.mem_of_getElem? hg)
/-- a stand-in name -/
def cand (j : Nat) : Str := ⟨#[113, 97 + j / 26, 97 + j % 26]⟩
theorem cand_nm {j : Nat} (h : j < 676) : Nm (cand j) := by
  refine ⟨by show 1 ≤ 3; decide, by show 3 ≤ 8; decide, fun c hc => ?_⟩
  have hc : c ∈ [113, 97 + j / 26, 97 + j % 26] := hc
  simp only [List.mem_cons, List.not_mem_nil, or_false] at hc
  unfold small
  rw [Bool.and_eq_true, decide_eq_true_iff, decide_eq_true_iff]
  rcases hc with rfl | rfl | rfl <;> omega
theorem cand_inj {i j : Nat} (h : cand i = cand j) : i = j := by
  have h : (#[113, 97 + i / 26, 97 + i % 26] : Array Nat) = #[113, 97 + j / 26, 97 + j % 26] := congrArg Str.cps h
  have h := congrArg Array.toList h
  simp only [List.cons.injEq, and_true, true_and] at h
  omega
/-- so many stand-ins are not all among few names -/
theorem cand_few {zs : List Str} {m : Nat} (h : ∀ i, i < m → cand i ∈ zs) : m ≤ zs.length := by
  have nd : ((List.range m).map cand).Nodup := by
    rw [List.Nodup, List.pairwise_map]
    exact (List.nodup_range (n := m)).imp fun h e => h (cand_inj e)
  have := List.Nodup.length_le_of_subset nd (l₂ := zs) fun z hz => by
    obtain ⟨i, hi, rfl⟩ := List.mem_map.mp hz
    exact h i (List.mem_range.mp hi)
  rw [List.length_map, List.length_range] at this
  exact this
theorem inV_dec (z : Str) : ∀ zs : List Str, inV (.str z) (zs.map V.str) = decide (z ∈ zs)
  | [] => rfl
  | y :: ys => by
    show (eqV (.str y) (.str z) || inV (.str z) (ys.map V.str)) = _
    rw [inV_dec z ys]
    have e : eqV (.str y) (.str z) = decide (z = y) := by
      show (y == z) = _
      by_cases h : z = y
      · rw [decide_eq_true h, h]
        exact beq_self_eq_true y
      · rw [decide_eq_false h]
        exact beq_eq_false_iff_ne.mpr (Ne.symm h)
    rw [e]
    by_cases h : z = y
    · rw [decide_eq_true h, decide_eq_true (List.mem_cons.mpr (.inl h))]
      rfl
    · rw [decide_eq_false h]
      by_cases h2 : z ∈ ys
      · rw [decide_eq_true h2, decide_eq_true (List.mem_cons_of_mem _ h2)]
        rfl
      · rw [decide_eq_false h2, decide_eq_false (fun e => (List.mem_cons.mp e).elim h h2)]
        rfl
theorem strs_flat : ∀ zs : List Str, (zs.map V.str).all flatV = true
  | [] => rfl
  | _ :: zs => strs_flat zs
/-- a name one sign of which is put otherwise -/
theorem nm_turned {z : Str} {d : Nat} {c : Nat} (h : Nm z) (hd : d < z.length) (hc : small c = true) :
    Nm ⟨(z.cps.toList.take d ++ [c] ++ z.cps.toList.drop (d + 1)).toArray⟩ := by
  have e : (z.cps.toList.take d ++ [c] ++ z.cps.toList.drop (d + 1)).length = z.length := by
    have : z.cps.toList.length = z.length := Array.length_toList
    rw [List.length_append, List.length_append, List.length_take, List.length_drop, List.length_singleton, this]
    omega
  refine ⟨?_, ?_, ?_⟩
  · show 1 ≤ (z.cps.toList.take d ++ [c] ++ z.cps.toList.drop (d + 1)).toArray.size
    rw [List.size_toArray, e]
    exact h.l1
  · show (z.cps.toList.take d ++ [c] ++ z.cps.toList.drop (d + 1)).toArray.size ≤ 8
    rw [List.size_toArray, e]
    exact h.l8
  · intro x hx
    have hx : x ∈ z.cps.toList.take d ++ [c] ++ z.cps.toList.drop (d + 1) := hx
    rcases List.mem_append.mp hx with hx | hx
    · rcases List.mem_append.mp hx with hx | hx
      · exact h.al x (List.mem_of_mem_take hx)
      · rw [List.mem_singleton.mp hx]
        exact hc
    · exact h.al x (List.mem_of_mem_drop hx)
theorem cutS_take {z : Str} {i : Int} (h : 0 ≤ i) : (cutS z none (some i)).cps.toList = z.cps.toList.take i.toNat := by
  have hl : z.length = z.cps.toList.length := Array.length_toList.symm
  show (z.cps.toList.drop (HT.sIx z.length 0 none)).take (HT.sIx z.length z.length (some i) - HT.sIx z.length 0 none) = _
  rw [HT.sIx_none, sIx_pos h, List.drop_zero, Nat.sub_zero, hl, List.take_eq_take_iff]
  omega
theorem cutS_drop {z : Str} {i : Int} (h : 0 ≤ i) : (cutS z (some i) none).cps.toList = z.cps.toList.drop i.toNat := by
  have hl : z.length = z.cps.toList.length := Array.length_toList.symm
  show (z.cps.toList.drop (HT.sIx z.length 0 (some i))).take (HT.sIx z.length z.length none - HT.sIx z.length 0 (some i)) = _
  rw [HT.sIx_none, sIx_pos h, hl]
  by_cases hi : i.toNat ≤ z.cps.toList.length
  · rw [Nat.min_eq_left hi, List.take_of_length_le (by rw [List.length_drop]; exact Nat.le_refl _)]
  · rw [Nat.min_eq_right (by omega), Nat.sub_self, List.take_zero, List.drop_eq_nil_of_le (by omega)]
theorem turned_eq {z : Str} {d : Int} {c : Nat} (h : 0 ≤ d) : cutS z none (some d) ++ (⟨#[c]⟩ : Str) ++ cutS z (some (d + 1)) none = ⟨(z.cps.toList.take d.toNat ++ [c] ++ z.cps.toList.drop (d.toNat + 1)).toArray⟩ := str_eq (by
  rw [str_app_codes, str_app_codes, cutS_take h, cutS_drop (by omega)]
  rw [show (d + 1).toNat = d.toNat + 1 by omega])
theorem cand_eq {j : Nat} {c d : Nat} (hc : (c : Int) = 97 + ((j : Nat) : Int) / 26) (hd : (d : Int) = 97 + ((j : Nat) : Int) % 26) : Str.ofString "q" ++ (⟨#[c]⟩ : Str) ++ (⟨#[d]⟩ : Str) = cand j := str_eq (by
  rw [str_app_codes, str_app_codes, show (Str.ofString "q").cps.toList = [113] by decide +kernel]
  show [113, c, d] = [113, 97 + j / 26, 97 + j % 26]
  rw [show c = 97 + j / 26 by omega, show d = 97 + j % 26 by omega])
/-! ### plans -/
def kindS (mv : Bool) : Str := if mv = true then Str.ofString "move" else Str.ofString "land"
theorem kind_land (mv : Bool) : decide (V.str (kindS mv) = V.str (Str.ofString "land")) = !mv := by cases mv <;> decide +kernel
theorem kind_move (mv : Bool) : decide (V.str (kindS mv) = V.str (Str.ofString "move")) = mv := by cases mv <;> decide +kernel
theorem kind_eq (a b : Bool) : decide (V.str (kindS a) = V.str (kindS b)) = decide (a = b) := by cases a <;> cases b <;> decide +kernel
structure PlanD where
  n : Addr
  r : Addr
  l : Addr
  zs : List Str
  rk : List (Str × Int)
  ls : List Str
  far : Int
def planK (D : PlanD) (kn : Int) (la : Addr) : List (Key × V) :=
  [(.inr "names", .ref D.n), (.inr "ranks", .ref D.r), (.inr "lights", .ref D.l), (.inr "far", .int D.far), (.inr "known", .int kn), (.inr "last", .ref la)]
theorem plan_put_known (D : PlanD) (kn kn' : Int) (la : Addr) : putK (planK D kn la) (.inr "known") (.int kn') = planK D kn' la := rfl
theorem plan_put_last (D : PlanD) (kn : Int) (la la' : Addr) : putK (planK D kn la) (.inr "last") (.ref la') = planK D kn la' := rfl
section
variable {H : Hp} {P la : Addr} {D : PlanD} {kn : Int}
theorem pg_names (h : H P = some (.dK (planK D kn la))) : DGet H P (.str "names") (some (.ref D.n)) := DGet.k (k := .inr "names") h
theorem pg_ranks (h : H P = some (.dK (planK D kn la))) : DGet H P (.str "ranks") (some (.ref D.r)) := DGet.k (k := .inr "ranks") h
theorem pg_lights (h : H P = some (.dK (planK D kn la))) : DGet H P (.str "lights") (some (.ref D.l)) := DGet.k (k := .inr "lights") h
theorem pg_far (h : H P = some (.dK (planK D kn la))) : DGet H P (.str "far") (some (.int D.far)) := DGet.k (k := .inr "far") h
theorem pg_known (h : H P = some (.dK (planK D kn la))) : DGet H P (.str "known") (some (.int kn)) := DGet.k (k := .inr "known") h
theorem pg_last (h : H P = some (.dK (planK D kn la))) : DGet H P (.str "last") (some (.ref la)) := DGet.k (k := .inr "last") h
end
theorem merge_id {kvs : List (Key × V)} (nd : (kvs.map (·.1)).Nodup) : mergeK [] kvs = kvs := by
  have := merge_en (g := (id : Key → Key)) (f := (id : V → V)) (fun _ _ e => e) nd
  have e : enA (id : Key → Key) (id : V → V) kvs = kvs := List.map_id _
  rw [e] at this
  exact this
theorem plan_merge (D : PlanD) (kn : Int) (la : Addr) : mergeK [] (planK D kn la) = planK D kn la := merge_id (by
  show ([.inr "names", .inr "ranks", .inr "lights", .inr "far", .inr "known", .inr "last"] : List Key).Nodup
  decide +kernel)
theorem at_any {xs : List V} {d : Int} (h0 : 0 ≤ d) (h1 : d < xs.length) : ∃ v, v ∈ xs ∧ atI xs d = some v := by
  obtain ⟨n, rfl⟩ : ∃ n : Nat, d = (n : Nat) := ⟨d.toNat, by omega⟩
  have h : n < xs.length := by omega
  exact ⟨xs[n], List.getElem_mem h, atI_nat (List.getElem?_eq_getElem h)⟩
theorem SameL.new {S : List Addr} {H H' : Hp} {q : Addr} {o : HO} (n : H' q = none) (s : SameL S H H') : SameL S H (L2.upd H' q o) := fun b x h e => by
  rw [upd_ne (ne_of_none (s b x h e) n)]
  exact s b x h e
/-- pairs of a name and a number, as tuples -/
def PairsP (H : Hp) (ts : List Addr) (rs : List (Str × Int)) : Prop := Paired (fun t (q : Str × Int) => H t = some (.tup [.str q.1, .int q.2])) ts rs
theorem PairsP.monoB {H H' : Hp} {p : Addr} {ts : List Addr} {rs : List (Str × Int)} (h : PairsP H ts rs) (hp : Pot H p) (s : SameB p H H') : PairsP H' ts rs := paired_imp (fun _ _ h => s _ _ (ne_of_pot hp h) h) h
theorem PairsP.snoc {H : Hp} {ts : List Addr} {rs : List (Str × Int)} {t : Addr} {z : Str} {i : Int} (h : PairsP H ts rs) (e : H t = some (.tup [.str z, .int i])) : PairsP H (ts ++ [t]) (rs ++ [(z, i)]) := paired_snoc' h e
theorem PairsP.upd {H : Hp} {ts : List Addr} {rs : List (Str × Int)} {F : Addr} {xs : List V} {o : HO} (h : PairsP H ts rs) (e : H F = some (.lst xs)) : PairsP (L2.upd H F o) ts rs := paired_imp (fun t p h => by rw [upd_ne (ne_of h e (by intro z; cases z))]; exact h) h
theorem PairsP.new {H : Hp} {ts : List Addr} {rs : List (Str × Int)} {F : Addr} {o : HO} (h : PairsP H ts rs) (n : H F = none) : PairsP (L2.upd H F o) ts rs := paired_imp (fun t p h => by rw [upd_ne (ne_of_none h n)]; exact h) h
theorem PairsP.kv {K : PySem.W.Frag} {H : Hp} {ts : List Addr} {rs : List (Str × Int)} (h : PairsP H ts rs) : Paired (fun p (kv : Key × V) => SqT K H p [kV kv.1, kv.2]) ts (sd rs) := by
  induction h with
  | nil => exact .nil
  | cons r _ ih => exact .cons (SqT.of r) ih
structure PlanI (H : Hp) (D : PlanD) : Prop where
  hn : H D.n = some (.lst (D.zs.map V.str))
  hr : H D.r = some (.dK (sd D.rk))
  hl : H D.l = some (.lst (D.ls.map V.str))
theorem PlanI.mono {H H' : Hp} {D : PlanD} (h : PlanI H D) (s : Same H H') : PlanI H' D := ⟨s _ _ h.hn, s _ _ h.hr, s _ _ h.hl⟩
theorem strs_no_pot {zs : List Str} (a b : Int) : (HO.lst (zs.map V.str)) ≠ .lst [.int a, .int b] := strs_not_ints
theorem PlanI.monoB {H H' : Hp} {D : PlanD} {p : Addr} (h : PlanI H D) (hp : Pot H p) (s : SameB p H H') : PlanI H' D :=
  ⟨s _ _ (ne_of_pot hp h.hn strs_no_pot) h.hn, s _ _ (ne_of_pot hp h.hr) h.hr, s _ _ (ne_of_pot hp h.hl strs_no_pot) h.hl⟩
structure PlanG (D : PlanD) : Prop where
  zs : Names D.zs
  ls : Names D.ls
  l0 : 0 < D.ls.length
  zk : D.rk.map (·.1) = D.zs
  rk : Rk D.rk
  f0 : 0 ≤ D.far
  f1 : D.far < 10 ^ 54
  z8 : D.zs.length ≤ 30
  l8 : D.ls.length ≤ 3
/-- an event as a tuple -/
def EvT (H : Hp) (t : Addr) (e : Evt) : Prop := H t = some (.tup [.str (kindS e.mv), .int e.kn, .str e.who, .int e.day, e.w])
/-- what was told last, in short -/
def LastAt (H : Hp) (la : Addr) : Option Evt → Prop
  | none => H la = some (.lst [])
  | some e => ∃ t, H la = some (.lst [.ref t]) ∧ H t = some (.tup [.str (kindS e.mv), .str e.who, .int e.day])
theorem LastAt.mono {H H' : Hp} {la : Addr} {o : Option Evt} (h : LastAt H la o) (s : Same H H') : LastAt H' la o := by
  cases o with
  | none => exact s _ _ h
  | some e =>
    obtain ⟨t, a, b⟩ := h
    exact ⟨t, s _ _ a, s _ _ b⟩
theorem LastAt.monoB {H H' : Hp} {la p : Addr} {o : Option Evt} (h : LastAt H la o) (hp : Pot H p) (s : SameB p H H') : LastAt H' la o := by
  cases o with
  | none => exact s _ _ (ne_of_pot hp h) h
  | some e =>
    obtain ⟨t, a, b⟩ := h
    exact ⟨t, s _ _ (ne_of_pot hp a) a, s _ _ (ne_of_pot hp b) b⟩
def spWorth : Sp := fun vs H Q _ => ∃ (p : Addr) (mv : Bool) (z : Str), vs = [.ref p, .str (kindS mv), .str z] ∧ Pot H p ∧
  ∀ (w : V) (H' : Hp), (mv = false → ∃ n : Int, w = .int n ∧ 0 ≤ n ∧ n < 10 ^ 55) → (mv = true → w = .non ∨ ∃ y, w = .str y ∧ (y = z ∨ y = Str.ofString "")) → Pot H' p → SameB p H H' → Q w H'
def spTellE (CB CH : Addr) (r : V) : Sp := fun vs H Q _ => ∃ (b T : Addr) (rk : List (Str × Int)) (es : List Evt) (fp : List Addr) (e : Evt), vs = [.ref b, .ref T] ∧ Bk CB CH H b rk es fp ∧ EvT H T e ∧ EvOK rk e ∧ (∀ x ∈ es, x.kn ≤ e.kn) ∧ es.length < 60 ∧
  ∀ (fp' : List Addr) (H' : Hp), Bk CB CH H' b rk (es ++ [e]) fp' → (∀ c ∈ fp', c ∈ fp ∨ H c = none) → SameL fp H H' → Q r H'
/-- a list of events -/
def EvsAt (H Hi : Hp) (E : Addr) (es : List Evt) : Prop := ∃ ts : List Addr, H E = some (.lst (ts.map V.ref)) ∧ Paired (EvT Hi) ts es
theorem EvsAt.mono {H H' Hi Hi' : Hp} {E : Addr} {es : List Evt} (h : EvsAt H Hi E es) (s : Same H H') (s' : Same Hi Hi') : EvsAt H' Hi' E es := by
  obtain ⟨ts, a, b⟩ := h
  exact ⟨ts, s _ _ a, paired_imp (fun _ _ h => s' _ _ h) b⟩
/-- by day, what is told last, as a dict is made of it -/
def heldD (es : List Evt) (mv : Bool) (z : Str) (kn : Option Int) : List (Int × V) := es.foldl (fun t e => if (ofE mv z e && ctK kn e.kn) = true then putA t e.day e.w else t) []
theorem heldD_snoc (es : List Evt) (e : Evt) (mv : Bool) (z : Str) (kn : Option Int) : heldD (es ++ [e]) mv z kn = if (ofE mv z e && ctK kn e.kn) = true then putA (heldD es mv z kn) e.day e.w else heldD es mv z kn := by
  unfold heldD
  rw [List.foldl_append]
  rfl
theorem heldD_get (mv : Bool) (z : Str) (kn : Option Int) (d : Int) : ∀ es : List Evt, getA (heldD es mv z kn) d = heldO es mv z kn d := by
  refine snoc_ind rfl fun es e ih => ?_
  rw [heldD_snoc, heldO_snoc]
  unfold heldP
  by_cases h : (ofE mv z e && ctK kn e.kn) = true
  · rw [if_pos h, getA_put, h]
    by_cases hd : d = e.day
    · rw [if_pos hd, if_pos (by rw [decide_eq_true hd.symm]; rfl)]
    · rw [if_neg hd, if_neg (by rw [decide_eq_false (Ne.symm hd)]; nofun), ih]
  · rw [if_neg h, bool_false h, if_neg (by nofun), ih]
theorem heldD_keys (mv : Bool) (z : Str) (kn : Option Int) : ∀ es : List Evt, ((heldD es mv z kn).map (·.1)).Nodup ∧ (heldD es mv z kn).length ≤ es.length := by
  refine snoc_ind ⟨List.nodup_nil, Nat.le_refl _⟩ fun es e ih => ?_
  rw [heldD_snoc]
  have hl : (es ++ [e]).length = es.length + 1 := by rw [List.length_append]; rfl
  rw [hl]
  split
  · refine ⟨nodup_put ih.1, ?_⟩
    have := putA_len (kvs := heldD es mv z kn) (k := e.day) (v := e.w)
    have := ih.2
    omega
  · exact ⟨ih.1, by have := ih.2; omega⟩
theorem dec_str2 (a b : Str) : decide (V.str a = V.str b) = decide (a = b) := by
  by_cases h : a = b
  · rw [decide_eq_true h, decide_eq_true (by rw [h])]
  · rw [decide_eq_false h, decide_eq_false (fun e => h (V.str.inj e))]
theorem evs_at {Hi : Hp} {ts : List Addr} {es : List Evt} {i : Nat} {v : V} (h : Paired (EvT Hi) ts es) (e : (ts.map V.ref)[i]? = some v) : ∃ t e0, v = .ref t ∧ es[i]? = some e0 ∧ EvT Hi t e0 := by
  rw [List.getElem?_map, Option.map_eq_some_iff] at e
  obtain ⟨t, e, rfl⟩ := e
  obtain ⟨p, h1, h2⟩ := paired_get h e
  exact ⟨t, p, rfl, h1, h2⟩
theorem same_put {H H' : Hp} {d : Addr} {o : HO} (n : H d = none) (s : Same H H') : Same H (L2.upd H' d o) := fun b x e => by
  rw [upd_ne (ne_of_none e n)]
  exact s b x e
end LT
set_option Elab.async false
set_option linter.all false
set_option maxRecDepth 100000
set_option maxHeartbeats 1600000
/-! Own layer: o.m(e, .., k = v, ..), defaults among the rest. -/
namespace LT
open PySem PySem.Spec PyProof.Rows L2
end LT
set_option Elab.async false
set_option linter.all false
set_option maxRecDepth 100000
set_option maxHeartbeats 1600000
/-! Own layer: a plan, its book and its list of events, side by side with others. -/
namespace LT
open PySem PySem.Spec PyProof.Rows L2 NdefX
structure Cl where
  P : Addr
  E : Addr
  b : Addr
  la : Addr
  D : PlanD
  kn : Int
  es : List Evt
  fp : List Addr
def Cl.m (c : Cl) : List Addr := c.P :: c.E :: c.fp
/-- what the plan holds as told last, if anything -/
def LastOK (H : Hp) (la : Addr) (rk : List (Str × Int)) : Prop := ∃ o, LastAt H la o ∧ ∀ e, o = some e → EvOK rk e
theorem LastOK.mono {H H' : Hp} {la : Addr} {rk : List (Str × Int)} (h : LastOK H la rk) (s : Same H H') : LastOK H' la rk := by
  obtain ⟨o, a, b⟩ := h
  exact ⟨o, a.mono s, b⟩
structure ClAt (CB CH : Addr) (H Hi : Hp) (c : Cl) : Prop where
  hP : H c.P = some (.dK (planK c.D c.kn c.la))
  hI : PlanI Hi c.D
  hG : PlanG c.D
  k0 : 0 ≤ c.kn
  la : LastOK Hi c.la c.D.rk
  ev : EvsAt H Hi c.E c.es
  bk : Bk CB CH H c.b c.D.rk c.es c.fp
  kl : ∀ e ∈ c.es, e.kn ≤ c.kn
  nPE : c.P ≠ c.E
  nPf : c.P ∉ c.fp
  nEf : c.E ∉ c.fp
theorem ClAt.frame {CB CH : Addr} {H H' Hi Hi' : Hp} {c : Cl} {S : List Addr} (h : ClAt CB CH H Hi c) (s : SameL S H H') (si : Same Hi Hi') (n : ∀ a ∈ c.m, a ∉ S) : ClAt CB CH H' Hi' c := by
  obtain ⟨ts, e1, e2⟩ := h.ev
  exact ⟨s _ _ (n _ List.mem_cons_self) h.hP, h.hI.mono si, h.hG, h.k0, h.la.mono si,
    ⟨ts, s _ _ (n _ (List.mem_cons_of_mem _ List.mem_cons_self)) e1, paired_imp (fun _ _ h => si _ _ h) e2⟩,
    h.bk.monoL s fun c hc => n c (List.mem_cons_of_mem _ (List.mem_cons_of_mem _ hc)), h.kl, h.nPE, h.nPf, h.nEf⟩
theorem ClAt.ex {CB CH : Addr} {H Hi : Hp} {c : Cl} (h : ClAt CB CH H Hi c) : ∀ a ∈ c.m, ∃ o, H a = some o := by
  intro a ha
  rcases List.mem_cons.mp ha with rfl | ha
  · exact ⟨_, h.hP⟩
  rcases List.mem_cons.mp ha with rfl | ha
  · obtain ⟨ts, e1, _⟩ := h.ev
    exact ⟨_, e1⟩
  · exact h.bk.ex a ha
theorem ClAt.evok {CB CH : Addr} {H Hi : Hp} {c : Cl} (h : ClAt CB CH H Hi c) : Rk c.D.rk ∧ Rising c.es ∧ ∀ e ∈ c.es, EvOK c.D.rk e := h.bk.ev
/-- two such, and a pot -/
structure Two (CB CH : Addr) (H : Hp) (p : Addr) (c d : Cl) : Prop where
  pot : Pot H p
  c1 : ClAt CB CH H (Ho (p :: (c.m ++ d.m)) H) c
  d1 : ClAt CB CH H (Ho (p :: (c.m ++ d.m)) H) d
  pc : p ∉ c.m
  pd : p ∉ d.m
  cd : ∀ a ∈ c.m, a ∉ d.m
theorem ho_perm {M M' : List Addr} {H : Hp} (h : ∀ a, a ∈ M' → a ∈ M) : Same (Ho M H) (Ho M' H) := fun a o e => by
  obtain ⟨h1, h2⟩ := ho_iff.mp e
  exact ho_in (fun z => h1 (h a z)) h2
theorem mem_two {p a : Addr} {x y : List Addr} : a ∈ p :: (x ++ y) ↔ a = p ∨ a ∈ x ∨ a ∈ y := by rw [List.mem_cons, List.mem_append]
theorem Two.ex {CB CH : Addr} {H : Hp} {p : Addr} {c d : Cl} (h : Two CB CH H p c d) : ∀ a ∈ p :: (c.m ++ d.m), ∃ o, H a = some o := by
  intro a ha
  rcases mem_two.mp ha with rfl | ha | ha
  · obtain ⟨x, y, e, _⟩ := h.pot
    exact ⟨_, e⟩
  · exact h.c1.ex a ha
  · exact h.d1.ex a ha
/-- what only looks, and draws -/
theorem Two.look {CB CH : Addr} {H H' : Hp} {p : Addr} {c d : Cl} (h : Two CB CH H p c d) (hp : Pot H' p) (s : SameB p H H') : Two CB CH H' p c d := by
  have sl : SameL [p] H H' := SameL.ofB List.mem_cons_self s
  have si : Same (Ho (p :: (c.m ++ d.m)) H) (Ho (p :: (c.m ++ d.m)) H') := ho_step sl (fun a ha => by rw [List.mem_singleton.mp ha]; exact List.mem_cons_self) fun a ha => .inl ha
  exact ⟨hp, h.c1.frame sl si fun a ha hm => h.pc (by rw [← List.mem_singleton.mp hm]; exact ha), h.d1.frame sl si fun a ha hm => h.pd (by rw [← List.mem_singleton.mp hm]; exact ha), h.pc, h.pd, h.cd⟩
theorem Two.mono {CB CH : Addr} {H H' : Hp} {p : Addr} {c d : Cl} (h : Two CB CH H p c d) (s : Same H H') : Two CB CH H' p c d := h.look (h.pot.mono s) (SameB.of s)
/-! ### what is asked of it -/
/-- the law's search, under way -/
def WhInv (t : List (Int × V)) (d : Int) (found : V) (since : Int) : Prop :=
  (∀ p ∈ t, p.2 ≠ .non → p.1 ≤ d → p.1 ≤ since) ∧ ((since = -1 ∧ found = .str (Str.ofString "")) ∨ ((since, found) ∈ t ∧ found ≠ .non ∧ since ≤ d))
theorem WhInv.nil {d : Int} : WhInv [] d (.str (Str.ofString "")) (-1) := ⟨nofun, .inl ⟨rfl, rfl⟩⟩
theorem WhInv.skip {t : List (Int × V)} {d : Int} {found : V} {since : Int} {p : Int × V} (h : WhInv t d found since) (n : p.2 = .non ∨ ¬ (since < p.1 ∧ p.1 ≤ d)) : WhInv (t ++ [p]) d found since := by
  refine ⟨fun q hq h1 h2 => ?_, h.2.imp id fun ⟨a, b⟩ => ⟨List.mem_append_left _ a, b⟩⟩
  rcases List.mem_append.mp hq with hq | hq
  · exact h.1 q hq h1 h2
  · rw [List.mem_singleton.mp hq] at h1 h2 ⊢
    rcases n with n | n
    · exact absurd n h1
    · omega
theorem WhInv.take {t : List (Int × V)} {d : Int} {found : V} {since : Int} {p : Int × V} (h : WhInv t d found since) (n : p.2 ≠ .non) (h1 : since < p.1) (h2 : p.1 ≤ d) : WhInv (t ++ [p]) d p.2 p.1 := by
  refine ⟨fun q hq a b => ?_, .inr ⟨List.mem_append_right _ List.mem_cons_self, n, h2⟩⟩
  rcases List.mem_append.mp hq with hq | hq
  · have := h.1 q hq a b
    omega
  · rw [List.mem_singleton.mp hq]
    exact Int.le_refl _
theorem WhInv.is {es : List Evt} {mv : Bool} {z : Str} {kn : Option Int} {d : Int} {found : V} {since : Int} (h : WhInv (heldD es mv z kn) d found since) (h0 : ∀ e ∈ es, 0 ≤ e.day) : IsWhere (heldE es mv z kn) d found := by
  have nd := (heldD_keys mv z kn es).1
  have key : ∀ o w, (o, w) ∈ heldD es mv z kn → heldE es mv z kn o = w := fun o w hm => by
    have := getA_of_mem nd hm
    rw [heldD_get] at this
    unfold heldE
    rw [this]
    rfl
  have back : ∀ o, heldE es mv z kn o ≠ .non → (o, heldE es mv z kn o) ∈ heldD es mv z kn := fun o ho => by
    unfold heldE at ho ⊢
    cases e : heldO es mv z kn o with
    | none => rw [e] at ho; exact absurd rfl ho
    | some w =>
      rw [← heldD_get] at e
      exact getA_mem e
  rcases h.2 with ⟨rfl, rfl⟩ | ⟨a, b, c⟩
  · refine .inr ⟨fun o ho => Classical.byContradiction fun hn => ?_, rfl⟩
    have h1 := h.1 _ (back o hn) hn ho
    have hm := getA_of_mem nd (back o hn)
    rw [heldD_get] at hm
    obtain ⟨e, he, hp, _⟩ := heldO_mem hm
    have := h0 e he
    have := (heldP_iff.mp hp).2.2
    simp only at h1
    omega
  · exact .inl ⟨since, c, key _ _ a, b, fun o ho hn => h.1 _ (back o hn) hn ho⟩
/-- one such, and a pot -/
structure One (CB CH : Addr) (H : Hp) (p : Addr) (c : Cl) : Prop where
  pot : Pot H p
  c1 : ClAt CB CH H (Ho (p :: c.m) H) c
  pc : p ∉ c.m
theorem Two.one {CB CH : Addr} {H : Hp} {p : Addr} {c d : Cl} (h : Two CB CH H p c d) : One CB CH H p c :=
  ⟨h.pot, h.c1.frame (S := []) (.of (Same.refl _)) (ho_perm fun a ha => mem_two.mpr ((List.mem_cons.mp ha).imp id .inl)) (fun _ _ => nofun), h.pc⟩
theorem One.look {CB CH : Addr} {H H' : Hp} {p : Addr} {c : Cl} (h : One CB CH H p c) (hp : Pot H' p) (s : SameB p H H') : One CB CH H' p c := by
  have sl : SameL [p] H H' := SameL.ofB List.mem_cons_self s
  have si : Same (Ho (p :: c.m) H) (Ho (p :: c.m) H') := ho_step sl (fun a ha => by rw [List.mem_singleton.mp ha]; exact List.mem_cons_self) fun a ha => .inl ha
  exact ⟨hp, h.c1.frame sl si fun a ha hm => h.pc (by rw [← List.mem_singleton.mp hm]; exact ha), h.pc⟩
theorem One.mono {CB CH : Addr} {H H' : Hp} {p : Addr} {c : Cl} (h : One CB CH H p c) (s : Same H H') : One CB CH H' p c := h.look (h.pot.mono s) (SameB.of s)
theorem One.ex {CB CH : Addr} {H : Hp} {p : Addr} {c : Cl} (h : One CB CH H p c) : ∀ a ∈ p :: c.m, ∃ o, H a = some o := by
  intro a ha
  rcases List.mem_cons.mp ha with rfl | ha
  · obtain ⟨x, y, e, _⟩ := h.pot
    exact ⟨_, e⟩
  · exact h.c1.ex a ha
section
variable {CB CH : Addr} {H : Hp} {p : Addr} {c : Cl}
theorem Bk.ix {b : Addr} {rk : List (Str × Int)} {es : List Evt} {fp : List Addr} (h : Bk CB CH H b rk es fp) : ∃ dx R M L v, H b = some (.ins CB dx [("rank_of", .ref R), ("moves", .ref M), ("landings", .ref L), ("latest_known", v)]) := by
  obtain ⟨B, rfl, rfl, rfl, rfl, bh, _⟩ := h
  exact ⟨_, _, _, _, _, bh.ix⟩
theorem One.hn (h : One CB CH H p c) : H c.D.n = some (.lst (c.D.zs.map V.str)) := ho_le _ _ h.c1.hI.hn
theorem One.hl (h : One CB CH H p c) : H c.D.l = some (.lst (c.D.ls.map V.str)) := ho_le _ _ h.c1.hI.hl
theorem One.hr (h : One CB CH H p c) : H c.D.r = some (.dK (sd c.D.rk)) := ho_le _ _ h.c1.hI.hr
theorem One.days (h : One CB CH H p c) : ∀ e ∈ c.es, 0 ≤ e.day := fun e he => (h.c1.evok.2.2 e he).d0
end
/-- where one is is a text -/
theorem where_str {rk : List (Str × Int)} {es : List Evt} {z : Str} {kn : Option Int} {d : Int} {r : V} (h : IsWhere (heldE es true z kn) d r) (ok : ∀ e ∈ es, EvOK rk e) : ∃ y, r = .str y ∧ Pl y := by
  rcases h with ⟨on, _, a, b, _⟩ | ⟨_, rfl⟩
  · unfold heldE at a
    cases e : heldO es true z kn on with
    | none =>
      rw [e] at a
      exact absurd a.symm b
    | some w =>
      rw [e] at a
      cases a
      rcases held_move ok e with rfl | h
      · exact absurd rfl b
      · exact h
  · exact ⟨_, rfl, .inl rfl⟩
end LT
set_option Elab.async false
set_option linter.all false
set_option maxRecDepth 100000
set_option maxHeartbeats 1600000
/-! Own layer: runs of days, heads, what is left (pure). -/
namespace LT
open PySem PySem.Spec PyProof.Rows L2 NdefX
/-! ### values by day -/
def atL (s : V) (B : List (Int × V)) (d : Int) : V := B.foldl (fun r p => if p.1 ≤ d then p.2 else r) s
theorem atL_snoc (s : V) (B : List (Int × V)) (p : Int × V) (d : Int) : atL s (B ++ [p]) d = if p.1 ≤ d then p.2 else atL s B d := by
  unfold atL
  rw [List.foldl_append]
  rfl
/-- where one is on day n -/
def plN (f : Int → V) : Nat → V
  | 0 => if f 0 = .non then .str (Str.ofString "") else f 0
  | n + 1 => if f ((n : Int) + 1) = .non then plN f n else f ((n : Int) + 1)
theorem plN_is {f : Int → V} (h0 : ∀ d, d < 0 → f d = .non) : ∀ n : Nat, IsWhere f (n : Nat) (plN f n)
  | 0 => by
    unfold plN
    split
    · rename_i h
      refine .inr ⟨fun o ho => ?_, rfl⟩
      by_cases e : o = 0
      · rw [e]
        exact h
      · exact h0 o (by omega)
    · rename_i h
      refine .inl ⟨0, Int.le_refl _, rfl, h, fun o ho _ => ho⟩
  | n + 1 => by
    unfold plN
    split
    · rename_i h
      rcases plN_is h0 n with ⟨on, a, b, c, d⟩ | ⟨a, b⟩
      · refine .inl ⟨on, by omega, b, c, fun o ho hn => ?_⟩
        by_cases e : o = (n : Int) + 1
        · rw [e] at hn
          exact absurd h hn
        · exact d o (by omega) hn
      · refine .inr ⟨fun o ho => ?_, b⟩
        by_cases e : o = (n : Int) + 1
        · rw [e]
          exact h
        · exact a o (by omega)
    · rename_i h
      exact .inl ⟨(n : Int) + 1, by omega, rfl, h, fun o ho _ => by omega⟩
def plI (f : Int → V) (d : Int) : V := plN f d.toNat
theorem plI_is {f : Int → V} (h0 : ∀ d, d < 0 → f d = .non) {d : Int} (hd : 0 ≤ d) : IsWhere f d (plI f d) := by
  have := plN_is h0 d.toNat
  rw [Int.toNat_of_nonneg hd] at this
  exact this
theorem plI_of {f : Int → V} (h0 : ∀ d, d < 0 → f d = .non) {d : Int} (hd : 0 ≤ d) {r : V} (h : IsWhere f d r) : r = plI f d := h.uniq (plI_is h0 hd)
theorem held_neg {es : List Evt} {mv : Bool} {z : Str} {kn : Option Int} (h : ∀ e ∈ es, 0 ≤ e.day) : ∀ d, d < 0 → heldE es mv z kn d = .non := fun d hd => by
  unfold heldE
  cases e : heldO es mv z kn d with
  | none => rfl
  | some w =>
    obtain ⟨e', h1, h2, _⟩ := heldO_mem e
    have := h e' h1
    have := (heldP_iff.mp h2).2.2
    omega
/-- nothing holds between: the same -/
theorem plI_same {f : Int → V} (h0 : ∀ d, d < 0 → f d = .non) {a d : Int} (ha : 0 ≤ a) (hd : a ≤ d) (h : ∀ o, a < o → o ≤ d → f o = .non) : plI f d = plI f a := by
  refine (plI_of h0 (by omega) ?_).symm
  rcases plI_is h0 ha with ⟨on, q1, q2, q3, q4⟩ | ⟨q1, q2⟩
  · refine .inl ⟨on, by omega, q2, q3, fun o ho hn => ?_⟩
    by_cases hoa : o ≤ a
    · exact q4 o hoa hn
    · exact absurd (h o (by omega) ho) hn
  · refine .inr ⟨fun o ho => ?_, q2⟩
    by_cases hoa : o ≤ a
    · exact q1 o hoa
    · exact h o (by omega) ho
/-! ### covers of all days -/
section
variable {β : Type}
def Cov (fi : β → Int) (la : β → Option Int) (K : β → Int → Prop) : Int → List β → Prop
  | _, [] => False
  | f, [b] => fi b = f ∧ la b = none ∧ ∀ d, f ≤ d → K b d
  | f, b :: c :: r => fi b = f ∧ (∃ e, la b = some e ∧ f ≤ e ∧ (∀ d, f ≤ d → d ≤ e → K b d) ∧ Cov fi la K (e + 1) (c :: r))
def CovT (fi : β → Int) (la : β → Option Int) (K : β → Int → Prop) : Int → List β → Int → Prop
  | f, [], x => f = x
  | f, b :: r, x => fi b = f ∧ ∃ e, la b = some e ∧ f ≤ e ∧ (∀ d, f ≤ d → d ≤ e → K b d) ∧ CovT fi la K (e + 1) r x
variable {fi : β → Int} {la : β → Option Int} {K : β → Int → Prop}
def HasD2 (fi : β → Int) (la : β → Option Int) (b : β) (d : Int) : Prop := fi b ≤ d ∧ ∀ e, la b = some e → d ≤ e
theorem CovT.snoc {b : β} {e : Int} : ∀ {S : List β} {f x : Int}, CovT fi la K f S x → fi b = x → la b = some e → x ≤ e → (∀ d, x ≤ d → d ≤ e → K b d) → CovT fi la K f (S ++ [b]) (e + 1)
  | [], f, x, h, h1, h2, h3, h4 => by
    have h : f = x := h
    subst h
    exact ⟨h1, e, h2, h3, h4, rfl⟩
  | c :: r, f, x, ⟨a1, e', a2, a3, a4, a5⟩, h1, h2, h3, h4 => ⟨a1, e', a2, a3, a4, CovT.snoc a5 h1 h2 h3 h4⟩
theorem CovT.last {b : β} : ∀ {S : List β} {f x : Int}, CovT fi la K f S x → fi b = x → la b = none → (∀ d, x ≤ d → K b d) → Cov fi la K f (S ++ [b])
  | [], f, x, h, h1, h2, h4 => by
    have h : f = x := h
    subst h
    exact ⟨h1, h2, h4⟩
  | [c], f, x, ⟨a1, e', a2, a3, a4, a5⟩, h1, h2, h4 => ⟨a1, e', a2, a3, a4, CovT.last (S := []) a5 h1 h2 h4⟩
  | c :: c' :: r, f, x, ⟨a1, e', a2, a3, a4, a5⟩, h1, h2, h4 => ⟨a1, e', a2, a3, a4, CovT.last (S := c' :: r) a5 h1 h2 h4⟩
theorem Cov.imp {K' : β → Int → Prop} (hk : ∀ b d, K b d → K' b d) : ∀ {S : List β} {f : Int}, Cov fi la K f S → Cov fi la K' f S
  | [], _, h => h
  | [b], f, ⟨a1, a2, a3⟩ => ⟨a1, a2, fun d h => hk b d (a3 d h)⟩
  | b :: c :: r, f, ⟨a1, e, a2, a3, a4, a5⟩ => ⟨a1, e, a2, a3, fun d h1 h2 => hk b d (a4 d h1 h2), Cov.imp (S := c :: r) hk a5⟩
/-- the one that has a day -/
theorem Cov.one : ∀ {S : List β} {f : Int}, Cov fi la K f S → ∀ d, f ≤ d → ∃ (i : Nat) (b : β), S[i]? = some b ∧ HasD2 fi la b d ∧ K b d ∧ ∀ j c, S[j]? = some c → HasD2 fi la c d → j = i
  | [], _, h, _, _ => h.elim
  | [b], f, ⟨a1, a2, a3⟩, d, hd => ⟨0, b, rfl, ⟨by omega, fun e he => by rw [a2] at he; cases he⟩, a3 d hd, fun j c hj _ => by
    have := (List.getElem?_eq_some_iff.mp hj).1
    simp at this
    exact this⟩
  | b :: c :: r, f, ⟨a1, e, a2, a3, a4, a5⟩, d, hd => by
    have low : ∀ {S : List β} {f : Int}, Cov fi la K f S → ∀ x ∈ S, f ≤ fi x := by
      intro S
      induction S with
      | nil => exact fun h => h.elim
      | cons y ys ih =>
        intro f h x hx
        cases ys with
        | nil =>
          obtain ⟨h1, _⟩ := h
          rw [List.mem_singleton.mp hx]
          omega
        | cons z zs =>
          obtain ⟨h1, e, _, h3, _, h5⟩ := h
          rcases List.mem_cons.mp hx with rfl | hx
          · omega
          · have := ih h5 x hx
            omega
    by_cases hde : d ≤ e
    · refine ⟨0, b, rfl, ⟨by omega, fun e' he => by rw [a2] at he; cases he; exact hde⟩, a4 d hd hde, fun j x hj hx => ?_⟩
      cases j with
      | zero => rfl
      | succ j =>
        have := low a5 x (List.mem_of_getElem? hj)
        have := hx.1
        omega
    · obtain ⟨i, x, h1, h2, h3, h4⟩ := Cov.one (S := c :: r) a5 d (by omega)
      refine ⟨i + 1, x, h1, h2, h3, fun j y hj hy => ?_⟩
      cases j with
      | zero =>
        cases hj
        have := hy.2 e a2
        omega
      | succ j => exact congrArg Nat.succ (h4 j y hj hy)
end
/-! ### runs -/
abbrev Run := V × Int × Option Int
def rFi (r : Run) : Int := r.2.1
def rLa (r : Run) : Option Int := r.2.2
/-! ### sums by day -/
def sumLe (t : List (Int × Int)) (d : Int) : Int := ((t.filter fun p => decide (p.1 ≤ d)).map (·.2)).sum
/-- the sum over the first so many days -/
def sumN (g : Nat → Int) : Nat → Int
  | 0 => 0
  | n + 1 => sumN g n + g n
theorem sumN_congr {g h : Nat → Int} : ∀ {n : Nat}, (∀ i, i < n → g i = h i) → sumN g n = sumN h n
  | 0, _ => rfl
  | n + 1, e => by
    show sumN g n + g n = sumN h n + h n
    rw [sumN_congr fun i hi => e i (by omega), e n (by omega)]
/-- so many days on which it is the same -/
theorem sumN_const {g : Nat → Int} {m : Int} {a : Nat} : ∀ {k : Nat}, (∀ i, a ≤ i → i < a + k → g i = m) → sumN g (a + k) = sumN g a + m * k
  | 0, _ => by
    show sumN g a = _
    rw [show ((0 : Nat) : Int) = 0 from rfl, Int.mul_zero, Int.add_zero]
  | k + 1, h => by
    show sumN g (a + k) + g (a + k) = _
    rw [sumN_const fun i h1 h2 => h i h1 (by omega), h (a + k) (by omega) (by omega), Int.add_assoc]
    congr 1
    rw [show ((k + 1 : Nat) : Int) = (k : Int) + 1 by omega, Int.mul_add, Int.mul_one]
/-! ### what is left -/
/-- at the end of day d, by what comes and goes on each day -/
def leftI (net : Nat → Int) (d : Int) : Int := sumN net (d + 1).toNat
theorem left_run {net : Nat → Int} {land eat : Nat → Int} (hn : ∀ i, net i = land i - eat i) {a d m : Int} (h0 : 0 ≤ a) (hd : a ≤ d) (hm : ∀ i : Nat, a ≤ i → (i : Int) ≤ d → eat i = m) (hl : ∀ i : Nat, a < i → (i : Int) ≤ d → land i = 0) :
    leftI net d = leftI net (a - 1) + land a.toNat - m * (d - a + 1) := by
  obtain ⟨n, rfl⟩ : ∃ n : Nat, a = (n : Int) := ⟨a.toNat, by omega⟩
  obtain ⟨k, rfl⟩ : ∃ k : Nat, d = (n : Int) + k := ⟨(d - n).toNat, by omega⟩
  unfold leftI
  have e1 : ((n : Int) + k + 1).toNat = n + 1 + k := by omega
  have e2 : ((n : Int) - 1 + 1).toNat = n := by omega
  have e3 : ((n : Int)).toNat = n := by omega
  rw [e1, e2, e3]
  rw [sumN_const (m := -m) fun i h1 h2 => by
    rw [hn i, hm i (by omega) (by omega), hl i (by omega) (by omega)]
    omega]
  show sumN net n + net n + -m * k = _
  rw [hn n, hm n (by omega) (by omega)]
  have : m * ((n : Int) + k - n + 1) = m * k + m := by
    rw [show (n : Int) + k - n + 1 = k + 1 by omega, Int.mul_add, Int.mul_one]
  rw [this, Int.neg_mul]
  omega
end LT
set_option Elab.async false
set_option linter.all false
set_option maxRecDepth 100000
set_option maxHeartbeats 1600000
/-! Own layer: turns, heads, parts, supplies, what is left (pure). -/
namespace LT
open PySem PySem.Spec PyProof.Rows L2 NdefX
/-! ### covers, to a last day or for ever -/
section
variable {β : Type} {fi : β → Int} {la : β → Option Int} {K : β → Int → Prop}
def CovX (fi : β → Int) (la : β → Option Int) (K : β → Int → Prop) (f : Int) (S : List β) : Option Int → Prop
  | none => Cov fi la K f S
  | some e => CovT fi la K f S (e + 1)
def NextB (fi : β → Int) (la : β → Option Int) (S : List β) (x : Option Int) (i : Nat) (b : β) : Prop :=
  (i + 1 = S.length ∧ la b = x ∧ ∀ e, x = some e → fi b ≤ e) ∨ ∃ e c, la b = some e ∧ fi b ≤ e ∧ S[i + 1]? = some c ∧ fi c = e + 1
theorem Cov.get : ∀ {S : List β} {f : Int}, Cov fi la K f S → ∀ i b, S[i]? = some b → f ≤ fi b ∧ (i = 0 → fi b = f) ∧ (∀ d, HasD2 fi la b d → K b d) ∧ NextB fi la S none i b
  | [], _, h, _, _, _ => h.elim
  | [x], f, ⟨a1, a2, a3⟩, i, b, hb => by
    cases i with
    | zero =>
      cases hb
      exact ⟨by omega, fun _ => a1, fun d hd => a3 d (by have := hd.1; omega), .inl ⟨rfl, a2, nofun⟩⟩
    | succ i => simp at hb
  | x :: y :: r, f, ⟨a1, e, a2, a3, a4, a5⟩, i, b, hb => by
    cases i with
    | zero =>
      cases hb
      obtain ⟨c1, c2, _⟩ := Cov.get (S := y :: r) a5 0 y rfl
      exact ⟨by omega, fun _ => a1, fun d hd => a4 d (by have := hd.1; omega) (hd.2 e a2), .inr ⟨e, y, a2, by omega, rfl, c2 rfl⟩⟩
    | succ i =>
      obtain ⟨c1, _, c3, c4⟩ := Cov.get (S := y :: r) a5 i b hb
      refine ⟨by omega, nofun, c3, ?_⟩
      rcases c4 with ⟨q1, q2⟩ | ⟨e', c, q1, q2, q3, q4⟩
      · exact .inl ⟨by rw [List.length_cons, ← q1], q2⟩
      · exact .inr ⟨e', c, q1, q2, q3, q4⟩
theorem CovT.get : ∀ {S : List β} {f z : Int}, CovT fi la K f S (z + 1) → ∀ i b, S[i]? = some b → f ≤ fi b ∧ (i = 0 → fi b = f) ∧ (∀ d, HasD2 fi la b d → K b d) ∧ NextB fi la S (some z) i b
  | [], _, _, h, _, _, hb => by simp at hb
  | [x], f, z, ⟨a1, e, a2, a3, a4, a5⟩, i, b, hb => by
    cases i with
    | zero =>
      cases hb
      have a5 : e + 1 = z + 1 := a5
      have ez : e = z := by omega
      subst ez
      exact ⟨by omega, fun _ => a1, fun d hd => a4 d (by have := hd.1; omega) (hd.2 e a2), .inl ⟨rfl, a2, fun e' h => by cases h; omega⟩⟩
    | succ i => simp at hb
  | x :: y :: r, f, z, ⟨a1, e, a2, a3, a4, a5⟩, i, b, hb => by
    cases i with
    | zero =>
      cases hb
      obtain ⟨c1, c2, _⟩ := CovT.get (S := y :: r) a5 0 y rfl
      exact ⟨by omega, fun _ => a1, fun d hd => a4 d (by have := hd.1; omega) (hd.2 e a2), .inr ⟨e, y, a2, by omega, rfl, c2 rfl⟩⟩
    | succ i =>
      obtain ⟨c1, _, c3, c4⟩ := CovT.get (S := y :: r) a5 i b hb
      refine ⟨by omega, nofun, c3, ?_⟩
      rcases c4 with ⟨q1, q2⟩ | ⟨e', c, q1, q2, q3, q4⟩
      · exact .inl ⟨by rw [List.length_cons, ← q1], q2⟩
      · exact .inr ⟨e', c, q1, q2, q3, q4⟩
theorem CovX.get {S : List β} {f : Int} {x : Option Int} (h : CovX fi la K f S x) (i : Nat) (b : β) (hb : S[i]? = some b) : f ≤ fi b ∧ (i = 0 → fi b = f) ∧ (∀ d, HasD2 fi la b d → K b d) ∧ NextB fi la S x i b := by
  cases x with
  | none => exact Cov.get h i b hb
  | some z => exact CovT.get h i b hb
theorem Cov.hd {S : List β} {f : Int} (h : Cov fi la K f S) : ∃ b, S[0]? = some b ∧ fi b = f := by
  match S, h with
  | [b], h => exact ⟨b, rfl, h.1⟩
  | b :: c :: r, h => exact ⟨b, rfl, h.1⟩
theorem CovX.hd {S : List β} {f : Int} {x : Option Int} (h : CovX fi la K f S x) (hx : ∀ e, x = some e → f ≤ e) : ∃ b, S[0]? = some b ∧ fi b = f := by
  cases x with
  | none => exact Cov.hd h
  | some z =>
    match S, h with
    | [], h =>
      have h : f = z + 1 := h
      have := hx z rfl
      omega
    | b :: r, h => exact ⟨b, rfl, h.1⟩
/-- the same with a last day -/
def FrX {γ : Type} (fi : β → Int) (fi' : γ → Int) (la' : γ → Option Int) (K' : γ → Int → Prop) (S : List β) (x : Option Int) (i : Nat) (T : List γ) (left : Int → Prop) : Prop :=
  (∃ b, S[i]? = some b ∧ CovT fi' la' K' 0 T (fi b) ∧ left (fi b)) ∨ (i = S.length ∧ match x with
    | none => Cov fi' la' K' 0 T
    | some e => CovT fi' la' K' 0 T (e + 1) ∧ left (e + 1))
/-- one more -/
theorem FrX.step {γ : Type} {fi' : γ → Int} {la' : γ → Option Int} {K' : γ → Int → Prop} {S : List β} {x : Option Int} {i : Nat} {T : List γ} {left left' : Int → Prop} {b : β} {c : γ} {f : Int} (h : CovX fi la K f S x) (hb : S[i]? = some b)
    (fr : FrX fi fi' la' K' S x i T left) (e1 : fi' c = fi b) (e2 : la' c = la b) (hk : ∀ d, HasD2 fi la b d → K' c d) (hl : ∀ e, la b = some e → left' (e + 1)) : FrX fi fi' la' K' S x (i + 1) (T ++ [c]) left' := by
  rcases fr with ⟨b', h1, h2, h3⟩ | ⟨h1, _⟩
  · rw [hb] at h1
    cases h1
    obtain ⟨q1, q2, q3, q4⟩ := h.get i b hb
    rcases q4 with ⟨n1, n2, n3⟩ | ⟨e, y, n1, n2, n3, n4⟩
    · refine .inr ⟨n1, ?_⟩
      cases x with
      | none => exact CovT.last h2 e1 (by rw [e2, n2]) fun d hd => hk d ⟨hd, fun e he => by rw [n2] at he; cases he⟩
      | some e => exact ⟨CovT.snoc h2 e1 (by rw [e2, n2]) (n3 e rfl) fun d h1 h2 => hk d ⟨h1, fun e' he => by rw [n2] at he; cases he; exact h2⟩, hl e n2⟩
    · refine .inl ⟨y, n3, ?_, ?_⟩
      · rw [n4]
        exact CovT.snoc h2 e1 (by rw [e2, n1]) n2 fun d h1 h2 => hk d ⟨h1, fun e' he => by rw [n1] at he; cases he; exact h2⟩
      · rw [n4]
        exact hl e n1
  · rw [h1] at hb
    rw [List.getElem?_eq_none (Nat.le_refl _)] at hb
    cases hb
end
/-! ### parts that begin on days -/
abbrev Part := Int × Option Int
def hasB (f : Int) (x : Option Int) (d : Int) : Bool := decide (f ≤ d) && (match x with | none => true | some e => decide (d ≤ e))
theorem hasB_iff {f : Int} {x : Option Int} {d : Int} : hasB f x d = true ↔ f ≤ d ∧ ∀ e, x = some e → d ≤ e := by
  unfold hasB
  rw [Bool.and_eq_true, decide_eq_true_iff]
  cases x with
  | none => exact ⟨fun h => ⟨h.1, nofun⟩, fun h => ⟨h.1, rfl⟩⟩
  | some e => exact ⟨fun h => ⟨h.1, fun e' he => by cases he; exact of_decide_eq_true h.2⟩, fun h => ⟨h.1, decide_eq_true (h.2 e rfl)⟩⟩
theorem CovT.lt {β : Type} {fi : β → Int} {la : β → Option Int} {K : β → Int → Prop} : ∀ {S : List β} {f x : Int}, CovT fi la K f S x → f ≤ x
  | [], _, _, h => Int.le_of_eq h
  | _ :: _, _, _, ⟨_, e, _, h2, _, h4⟩ => by
    have := CovT.lt h4
    omega
/-! ### turns -/
def plE (es : List Evt) (z : Str) (kn : Option Int) (d : Int) : V := plI (heldE es true z kn) d
structure RunsOf (P : Int → Prop) (g : Int → V) (rs : List Run) : Prop where
  cov : Cov rFi rLa (fun x d => g d = x.1) 0 rs
  un : ∀ (i : Nat) a b, rs[i]? = some a → rs[i + 1]? = some b → a.1 ≠ b.1
  days : ∀ r ∈ rs, (rFi r = 0 ∨ P (rFi r)) ∧ ∀ e, rLa r = some e → P (e + 1)
theorem RunsOf.imp {P P' : Int → Prop} {g : Int → V} {rs : List Run} (h : RunsOf P g rs) (k : ∀ d, P d → P' d) : RunsOf P' g rs := ⟨h.cov, h.un, fun r hr => ⟨(h.days r hr).1.imp id (k _), fun e he => k _ ((h.days r hr).2 e he)⟩⟩
/-- an event's day -/
def EvD (es : List Evt) (mv : Bool) (z : Str) (d : Int) : Prop := ∃ e ∈ es, e.mv = mv ∧ e.who = z ∧ e.day = d
/-! ### heads -/
def manyI (es : List Evt) (zs : List Str) (z : Str) (kn : Option Int) (d : Int) : Int := ((zs.filter fun k => decide (plE es k kn d = .str z)).length : Nat)
def getI (t : List (Int × Int)) (k : Int) : Int := (getA t k).getD 0
structure Steps (P : Int → Prop) (t : List (Int × Int)) (g : Int → Int) : Prop where
  nd : (t.map (·.1)).Nodup
  ks : ∀ d ∈ t.map (·.1), d = 0 ∨ P d
  sum : ∀ d, sumLe t d = g d
theorem Steps.nil (P : Int → Prop) : Steps P [] (fun _ => 0) := ⟨List.nodup_nil, nofun, fun _ => rfl⟩
theorem Steps.len {es : List Evt} {mv : Bool} {t : List (Int × Int)} {g : Int → Int} (h : Steps (fun d => ∃ z, EvD es mv z d) t g) : t.length ≤ es.length + 1 := by
  have := List.Nodup.length_le_of_subset h.nd (l₂ := 0 :: es.map (·.day)) fun d hd => by
    rcases h.ks d hd with rfl | ⟨z, e, he, _, _, rfl⟩
    · exact List.mem_cons_self
    · exact List.mem_cons_of_mem _ (List.mem_map.mpr ⟨e, he, rfl⟩)
  rw [List.length_map, List.length_cons, List.length_map] at this
  exact this
instance (b : Run) (d : Int) : Decidable (HasD2 rFi rLa b d) := decidable_of_iff (hasB (rFi b) (rLa b) d = true) hasB_iff
/-! ### steps, day by day -/
def sumV (t : List (Int × Int)) (ks : List Int) : Int := (ks.map (getI t)).sum
structure Acc (t : List (Int × Int)) (ks : List Int) (rs : List (Int × V)) : Prop where
  ek : rs.map (·.1) = ks
  at_ : ∀ d, atL (.int 0) rs d = .int (sumV t (ks.filter fun k => decide (k ≤ d)))
  vs : ∀ p ∈ rs, ∃ m : Int, p.2 = .int m
theorem Acc.nil (t : List (Int × Int)) : Acc t [] [] := ⟨rfl, fun _ => rfl, nofun⟩
theorem Acc.snoc {t : List (Int × Int)} {ks : List Int} {rs : List (Int × V)} {k : Int} (h : Acc t ks rs) (up : (ks ++ [k]).Pairwise (· < ·)) : Acc t (ks ++ [k]) (rs ++ [(k, .int (sumV t (ks ++ [k])))]) := by
  refine ⟨by rw [List.map_append, h.ek]; rfl, fun d => ?_, fun p hp => ?_⟩
  · rw [atL_snoc]
    by_cases hk : k ≤ d
    · rw [if_pos hk]
      congr 2
      have : (ks ++ [k]).filter (fun k => decide (k ≤ d)) = ks ++ [k] := List.filter_eq_self.mpr fun x hx => by
        rcases List.mem_append.mp hx with hx | hx
        · have := (List.pairwise_append.mp up).2.2 x hx k List.mem_cons_self
          exact decide_eq_true (by omega)
        · rw [List.mem_singleton.mp hx]
          exact decide_eq_true hk
      rw [this]
    · rw [if_neg hk, h.at_, List.filter_append, List.filter_cons, decide_eq_false hk, if_neg (by nofun), List.filter_nil, List.append_nil]
  · rcases List.mem_append.mp hp with hp | hp
    · exact h.vs p hp
    · rw [List.mem_singleton.mp hp]
      exact ⟨_, rfl⟩
/-! ### what is left -/
def numI : V → Int
  | .int n => n
  | _ => 0
structure Shop where
  es : List Evt
  zs : List Str
  z : Str
  kn : Option Int
  R : Int
namespace Shop
def many (s : Shop) (d : Int) : Int := manyI s.es s.zs s.z s.kn d
def landW (s : Shop) (d : Int) : V := (heldO s.es false s.z s.kn d).getD (.int 0)
def land (s : Shop) (d : Int) : Int := numI (s.landW d)
def net (s : Shop) (i : Nat) : Int := s.land i - s.many i * s.R
def left (s : Shop) (d : Int) : Int := leftI s.net d
structure OK (s : Shop) (rk : List (Str × Int)) : Prop where
  ev : ∀ e ∈ s.es, EvOK rk e
  zl : s.zs.length ≤ 30
  r0 : 0 ≤ s.R
  r1 : s.R < 10 ^ 56
variable {s : Shop} {rk : List (Str × Int)}
theorem OK.d0 (h : s.OK rk) : ∀ e ∈ s.es, 0 ≤ e.day := fun e he => (h.ev e he).d0
/-- over a stretch of days on which as many eat and on none but the first anything is landed -/
theorem run {a d m : Int} (h0 : 0 ≤ a) (hd : a ≤ d) (hm : ∀ i, a ≤ i → i ≤ d → s.many i = m) (hl : ∀ i, a < i → i ≤ d → s.land i = 0) : s.left d = s.left (a - 1) + s.land a - m * s.R * (d - a + 1) := by
  have := left_run (net := s.net) (land := fun i => s.land i) (eat := fun i => s.many i * s.R) (fun _ => rfl) (m := m * s.R) h0 hd (fun i h1 h2 => by rw [hm i h1 h2]) (fun i h1 h2 => hl i h1 h2)
  have e : ((a.toNat : Nat) : Int) = a := Int.toNat_of_nonneg h0
  simp only [e] at this
  exact this
end Shop
structure Sup where
  fi : Int
  la : Option Int
  stock : Int
  eaten : Int
def supK (s : Shop) (b : Sup) (d : Int) : Prop := s.left d = b.stock - b.eaten * (d - b.fi + 1)
structure SupB (s : Shop) (b : Sup) : Prop where
  f0 : 0 ≤ b.fi
  f1 : b.fi < 10 ^ 55
  l1 : ∀ e, b.la = some e → b.fi ≤ e ∧ e < 10 ^ 55
  st : b.stock = s.left (b.fi - 1) + s.land b.fi
  e0 : 0 ≤ b.eaten
  e1 : b.eaten < 10 ^ 58
structure SupOf (s : Shop) (ss : List Sup) : Prop where
  cov : Cov Sup.fi Sup.la (supK s) 0 ss
  ok : ∀ b ∈ ss, SupB s b
/-- what is left on the one that has the day -/
theorem SupOf.at_ {s : Shop} {ss : List Sup} (h : SupOf s ss) {d : Int} (hd : 0 ≤ d) : ∃ (i : Nat) (b : Sup), ss[i]? = some b ∧ HasD2 Sup.fi Sup.la b d ∧ supK s b d ∧ ∀ j c, ss[j]? = some c → HasD2 Sup.fi Sup.la c d → j = i := h.cov.one d hd
/-! ### unfed -/
def Fed (s : Shop) (d : Int) : Prop := ∀ d', 0 ≤ d' → d' < d → 0 ≤ s.left d'
/-! ### wanted -/
structure Want (s : Shop) (till : Int) (lim : Int → Prop) (least : Int) (day : Option Int) : Prop where
  low : ∀ d, 0 ≤ d → d ≤ till → lim d → least ≤ s.left d
  is : (least = 0 ∧ day = none) ∨ ∃ x, day = some x ∧ least < 0 ∧ 0 ≤ x ∧ x ≤ till ∧ s.left x = least ∧ ∀ d, 0 ≤ d → d < x → least < s.left d
theorem Want.nil {s : Shop} {till : Int} {lim : Int → Prop} (h : ∀ d, 0 ≤ d → ¬ lim d) : Want s till lim 0 none := ⟨fun d h0 _ hl => absurd hl (h d h0), .inl ⟨rfl, rfl⟩⟩
/-! ### by the law: from mark to mark -/
structure Marks (s : Shop) (ms : List Int) : Prop where
  up : ms.Pairwise (· < ·)
  hd : ms[0]? = some 0
  mv : ∀ k ∈ s.zs, ∀ d, heldE s.es true k s.kn d ≠ .non → d ∈ ms
  ld : ∀ d, heldO s.es false s.z s.kn d ≠ none → d ∈ ms
  top : ∀ d ∈ ms, 0 ≤ d ∧ d < 10 ^ 55
namespace Shop
variable {s : Shop} {rk : List (Str × Int)} {ms : List Int}
theorem many_same (ok : s.OK rk) {a d : Int} (h0 : 0 ≤ a) (hd : a ≤ d) (h : ∀ k ∈ s.zs, ∀ o, a < o → o ≤ d → heldE s.es true k s.kn o = .non) : s.many d = s.many a := by
  unfold many manyI
  congr 2
  refine List.filter_congr fun k hk => ?_
  have : plE s.es k s.kn d = plE s.es k s.kn a := plI_same (held_neg ok.d0) h0 hd (h k hk)
  rw [this]
end Shop
/-- from one mark to the day before the next -/
theorem Marks.same {s : Shop} {rk : List (Str × Int)} {ms : List Int} (M : Marks s ms) (ok : s.OK rk) {i : Nat} {a d : Int} (ha : ms[i]? = some a) (hd : a ≤ d) (hn : ∀ b, ms[i + 1]? = some b → d < b) : s.many d = s.many a := by
  have a0 := (M.top a (List.mem_of_getElem? ha)).1
  refine Shop.many_same ok a0 hd fun k hk o h1 h2 => Classical.byContradiction fun hne => ?_
  obtain ⟨j, hj⟩ := List.getElem?_of_mem (M.mv k hk o hne)
  have il := List.getElem?_eq_some_iff.mp ha
  have jl := List.getElem?_eq_some_iff.mp hj
  by_cases hij : j ≤ i
  · by_cases e : j = i
    · subst e
      rw [ha] at hj
      cases hj
      omega
    · have := List.pairwise_iff_getElem.mp M.up j i jl.1 il.1 (by omega)
      rw [il.2, jl.2] at this
      omega
  · have hl : i + 1 < ms.length := by have := jl.1; omega
    have hb := hn _ (List.getElem?_eq_getElem hl)
    by_cases e : j = i + 1
    · subst e
      rw [List.getElem?_eq_getElem hl] at hj
      cases hj
      omega
    · have := List.pairwise_iff_getElem.mp M.up (i + 1) j hl jl.1 (by omega)
      rw [jl.2] at this
      omega
/-- the mark to which all is counted behind so many pieces -/
def cutM (ms : List Int) (d : Int) (i : Nat) : Int := match ms[i]? with
  | some a => if a ≤ d then a else d + 1
  | none => d + 1
def eatS (s : Shop) (x : Int) : Int := sumN (fun i => s.many i) x.toNat
theorem Marks.step {s : Shop} {rk : List (Str × Int)} {ms : List Int} (M : Marks s ms) (ok : s.OK rk) {d : Int} {i : Nat} {a : Int} (ha : ms[i]? = some a) :
    (a ≤ d → ∀ l, (match ms[i + 1]? with | some b => l = (if b - 1 < d then b - 1 else d) | none => l = d) → eatS s (cutM ms d (i + 1)) = eatS s (cutM ms d i) + s.many a * (l - a + 1)) ∧ (¬ a ≤ d → cutM ms d (i + 1) = cutM ms d i) := by
  have a0 := (M.top a (List.mem_of_getElem? ha)).1
  refine ⟨fun had l hl => ?_, fun had => ?_⟩
  · have e1 : cutM ms d i = a := by
      unfold cutM
      rw [ha]
      exact if_pos had
    have key : cutM ms d (i + 1) = l + 1 ∧ a ≤ l ∧ ∀ b, ms[i + 1]? = some b → l < b := by
      unfold cutM
      cases hb : ms[i + 1]? with
      | none =>
        rw [hb] at hl
        have hl : l = d := hl
        exact ⟨by rw [hl], by omega, nofun⟩
      | some b =>
        rw [hb] at hl
        have hl : l = if b - 1 < d then b - 1 else d := hl
        have il := List.getElem?_eq_some_iff.mp ha
        have jl := List.getElem?_eq_some_iff.mp hb
        have lt := List.pairwise_iff_getElem.mp M.up i (i + 1) il.1 jl.1 (by omega)
        rw [il.2, jl.2] at lt
        show (if b ≤ d then b else d + 1) = l + 1 ∧ a ≤ l ∧ ∀ b', some b = some b' → l < b'
        refine ⟨?_, ?_, fun b' h => ?_⟩
        · rw [hl]
          split <;> split <;> omega
        · rw [hl]
          split <;> omega
        · cases h
          rw [hl]
          split <;> omega
    obtain ⟨k1, k2, k3⟩ := key
    rw [e1, k1]
    unfold eatS
    have e2 : (l + 1).toNat = a.toNat + (l - a + 1).toNat := by omega
    rw [e2, sumN_const (m := s.many a) fun i' h1 h2 => M.same ok ha (by omega) fun b hb => by have := k3 b hb; omega]
    rw [Int.toNat_of_nonneg (by omega)]
  · unfold cutM
    rw [ha]
    cases hb : ms[i + 1]? with
    | none => exact (if_neg had).symm
    | some b =>
      have il := List.getElem?_eq_some_iff.mp ha
      have jl := List.getElem?_eq_some_iff.mp hb
      have lt := List.pairwise_iff_getElem.mp M.up i (i + 1) il.1 jl.1 (by omega)
      rw [il.2, jl.2] at lt
      show (if b ≤ d then b else d + 1) = if a ≤ d then a else d + 1
      rw [if_neg had, if_neg (by omega)]
end LT
set_option Elab.async false
set_option linter.all false
set_option maxRecDepth 100000
set_option maxHeartbeats 1600000
/-! Own layer: list(zip(a, b)) of two lists. -/
namespace LT
open PySem PySem.Spec PyProof.Rows L2
def ZSt (z TI TO i1 i2 a b S : Addr) (i : Nat) (h : Heap) : Prop := IsPair h TI (.ref i1) (.ref i2) ∧ h.IsListIter i1 a i ∧ h.IsListIter i2 b i ∧ (∃ o, h.get? TO = some o) ∧
  ((IsZip h z TI TO .none ∧ ∃ x y, IsPair h TO x y) ∨ ∃ T f oT, IsZipHeld h z TI TO T f ∧ h.get? T = some oT ∧ T ≠ z ∧ T ≠ i1 ∧ T ≠ i2 ∧ T ≠ S)
theorem ZSt.keep {z TI TO i1 i2 a b S : Addr} {i : Nat} {h h' : Heap} (st : ZSt z TI TO i1 i2 a b S i h) (hS : S ∉ [z, TI, TO, i1, i2]) (k : ∀ c o, c ≠ S → h.get? c = some o → h'.get? c = some o) : ZSt z TI TO i1 i2 a b S i h' := by
  obtain ⟨hTI, h1, h2, ⟨oo, hoo⟩, hz⟩ := st
  simp only [List.mem_cons, List.not_mem_nil, or_false, not_or] at hS
  obtain ⟨n1, n2, n3, n4, n5⟩ := hS
  refine ⟨k _ _ (Ne.symm n2) hTI, h1.at fun o e => k _ o (Ne.symm n4) e, h2.at fun o e => k _ o (Ne.symm n5) e, ⟨oo, k _ _ (Ne.symm n3) hoo⟩, ?_⟩
  rcases hz with ⟨hz, x, y, hTO⟩ | ⟨T, f, oT, hz, hT, r1, r2, r3, r4⟩
  · exact .inl ⟨k _ _ (Ne.symm n1) hz, x, y, k _ _ (Ne.symm n3) hTO⟩
  · exact .inr ⟨T, f, oT, k _ _ (Ne.symm n1) hz, k _ _ r4 hT, r1, r2, r3, r4⟩
/-! ### a walk over a dict that has just been made -/
end LT
set_option Elab.async false
set_option linter.all false
set_option maxRecDepth 100000
set_option maxHeartbeats 1600000
/-! Own layer: stretches, runs, supplies on the heap; promises. -/
namespace LT
open PySem PySem.Spec PyProof.Rows L2 NdefX
/-! ### stretches -/
def StrAt (CS : Addr) (H : Hp) (x : Addr) (f : Int) (la : Option Int) : Prop := ∃ dx, H x = some (.ins CS dx [("first_day", .int f), ("last_day", knV la)])
theorem StrAt.mono {CS : Addr} {H H' : Hp} {x : Addr} {f : Int} {la : Option Int} (h : StrAt CS H x f la) (s : Same H H') : StrAt CS H' x f la := h.imp fun _ e => s _ _ e
theorem StrAt.monoB {CS : Addr} {H H' : Hp} {x d : Addr} {f : Int} {la : Option Int} {kvs : List (Key × V)} (h : StrAt CS H x f la) (hd : H d = some (.dK kvs)) (s : SameB d H H') : StrAt CS H' x f la := by
  obtain ⟨dx, e⟩ := h
  exact ⟨dx, s _ _ (ne_of e hd (by intro z; cases z)) e⟩
theorem StrAt.upd {CS : Addr} {H : Hp} {x F : Addr} {f : Int} {la : Option Int} {xs : List V} {o : HO} (h : StrAt CS H x f la) (e : H F = some (.lst xs)) : StrAt CS (L2.upd H F o) x f la := by
  obtain ⟨dx, h⟩ := h
  exact ⟨dx, by rw [upd_ne (ne_of h e (by intro z; cases z))]; exact h⟩
/-! ### runs -/
def RunT (CS : Addr) (H : Hp) (t : Addr) (r : Run) : Prop := ∃ x, H t = some (.tup [r.1, .ref x]) ∧ StrAt CS H x r.2.1 r.2.2
theorem RunT.mono {CS : Addr} {H H' : Hp} {t : Addr} {r : Run} (h : RunT CS H t r) (s : Same H H') : RunT CS H' t r := by
  obtain ⟨x, a, b⟩ := h
  exact ⟨x, s _ _ a, b.mono s⟩
theorem RunT.upd {CS : Addr} {H : Hp} {t F : Addr} {r : Run} {xs : List V} {o : HO} (h : RunT CS H t r) (e : H F = some (.lst xs)) : RunT CS (L2.upd H F o) t r := by
  obtain ⟨x, a, b⟩ := h
  exact ⟨x, by rw [upd_ne (ne_of a e (by intro z; cases z))]; exact a, b.upd e⟩
def RunsAt (CS : Addr) (H : Hp) (l : Addr) (rs : List Run) : Prop := ∃ ts : List Addr, H l = some (.lst (ts.map V.ref)) ∧ Paired (RunT CS H) ts rs
theorem RunsAt.mono {CS : Addr} {H H' : Hp} {l : Addr} {rs : List Run} (h : RunsAt CS H l rs) (s : Same H H') : RunsAt CS H' l rs := by
  obtain ⟨ts, a, b⟩ := h
  exact ⟨ts, s _ _ a, paired_imp (fun _ _ h => h.mono s) b⟩
theorem pick_at {β : Type} {R : Addr → β → Prop} {ts : List Addr} {rs : List β} {i : Nat} {v : V} (h : Paired R ts rs) (e : (ts.map V.ref)[i]? = some v) : ∃ t r, v = .ref t ∧ rs[i]? = some r ∧ R t r := by
  rw [List.getElem?_map, Option.map_eq_some_iff] at e
  obtain ⟨t, e, rfl⟩ := e
  obtain ⟨p, h1, h2⟩ := paired_get h e
  exact ⟨t, p, rfl, h1, h2⟩
/-! ### heads -/
/-! ### supplies -/
def PartsAt (CS : Addr) (H : Hp) (l : Addr) (ps : List Part) : Prop := ∃ xs : List Addr, H l = some (.lst (xs.map V.ref)) ∧ Paired (fun x (p : Part) => StrAt CS H x p.1 p.2) xs ps
theorem PartsAt.mono {CS : Addr} {H H' : Hp} {l : Addr} {ps : List Part} (h : PartsAt CS H l ps) (s : Same H H') : PartsAt CS H' l ps := by
  obtain ⟨ts, a, b⟩ := h
  exact ⟨ts, s _ _ a, paired_imp (fun _ _ h => h.mono s) b⟩
def SupT (CS : Addr) (H : Hp) (t : Addr) (b : Sup) : Prop := ∃ x, H t = some (.tup [.ref x, .int b.stock, .int b.eaten]) ∧ StrAt CS H x b.fi b.la
theorem SupT.mono {CS : Addr} {H H' : Hp} {t : Addr} {b : Sup} (h : SupT CS H t b) (s : Same H H') : SupT CS H' t b := by
  obtain ⟨x, a, b⟩ := h
  exact ⟨x, s _ _ a, b.mono s⟩
theorem SupT.upd {CS : Addr} {H : Hp} {t F : Addr} {b : Sup} {xs : List V} {o : HO} (h : SupT CS H t b) (e : H F = some (.lst xs)) : SupT CS (L2.upd H F o) t b := by
  obtain ⟨x, a, b⟩ := h
  exact ⟨x, by rw [upd_ne (ne_of a e (by intro z; cases z))]; exact a, b.upd e⟩
def SupsAt (CS : Addr) (H : Hp) (l : Addr) (ss : List Sup) : Prop := ∃ ts : List Addr, H l = some (.lst (ts.map V.ref)) ∧ Paired (SupT CS H) ts ss
theorem SupsAt.mono {CS : Addr} {H H' : Hp} {l : Addr} {ss : List Sup} (h : SupsAt CS H l ss) (s : Same H H') : SupsAt CS H' l ss := by
  obtain ⟨ts, a, b⟩ := h
  exact ⟨ts, s _ _ a, paired_imp (fun _ _ h => h.mono s) b⟩
def shopOf (es : List Evt) (rk : List (Str × Int)) (z : Str) (kn : Option Int) (R : Int) : Shop := ⟨es, rk.map (·.1), z, kn, R⟩
end LT
set_option Elab.async false
set_option linter.all false
set_option maxRecDepth 100000
set_option maxHeartbeats 1600000
namespace LT
open PySem PySem.Spec PyProof.Rows L2
end LT
set_option Elab.async false
set_option linter.all false
set_option maxRecDepth 100000
set_option maxHeartbeats 1600000
/-! Own layer: the law's own counting of stores; one book beside a pot. -/
namespace LT
open PySem PySem.Spec PyProof.Rows L2 NdefX
/-! ### the model -/
def mdlK (A B C : Addr) (z : Str) : List (Key × V) := [(.inr "moves", .ref A), (.inr "landed", .ref B), (.inr "marks", .ref C), (.inr "light", .str z)]
def MovesAt (H : Hp) (s : Shop) (ds : List Addr) (zs : List Str) : Prop := Paired (fun d k => H d = some (.dK (toldK (heldD s.es true k s.kn)))) ds zs
theorem MovesAt.mono {H H' : Hp} {s : Shop} {ds : List Addr} {zs : List Str} (h : MovesAt H s ds zs) (sm : Same H H') : MovesAt H' s ds zs := paired_imp (fun _ _ h => sm _ _ h) h
theorem MovesAt.upd {H : Hp} {s : Shop} {ds : List Addr} {zs : List Str} {F : Addr} {xs : List V} {o : HO} (h : MovesAt H s ds zs) (e : H F = some (.lst xs)) : MovesAt (L2.upd H F o) s ds zs := paired_imp (fun t p h => by rw [upd_ne (ne_of h e (by intro z; cases z))]; exact h) h
def MdlAt (H : Hp) (M : Addr) (s : Shop) (ms : List Int) : Prop := ∃ (A B C : Addr) (ds : List Addr), H M = some (.dK (mdlK A B C s.z)) ∧ H A = some (.lst (ds.map V.ref)) ∧ MovesAt H s ds s.zs ∧ H B = some (.dK (toldK (heldD s.es false s.z s.kn))) ∧ H C = some (.lst (ms.map V.int))
theorem MdlAt.mono {H H' : Hp} {M : Addr} {s : Shop} {ms : List Int} (h : MdlAt H M s ms) (sm : Same H H') : MdlAt H' M s ms := by
  obtain ⟨A, B, C, ds, h1, h2, h3, h4, h5⟩ := h
  exact ⟨A, B, C, ds, sm _ _ h1, sm _ _ h2, h3.mono sm, sm _ _ h4, sm _ _ h5⟩
/-! ### pieces -/
def PcT (ms : List Int) (H : Hp) (t : Addr) (i : Nat) : Prop := ∃ a, ms[i]? = some a ∧ H t = some (.tup [.int a, knV (ms[i + 1]?)])
def PcsAt (H : Hp) (l : Addr) (ms : List Int) : Prop := ∃ ts : List Addr, H l = some (.lst (ts.map V.ref)) ∧ ts.length = ms.length ∧ ∀ i t, ts[i]? = some t → PcT ms H t i
theorem PcsAt.mono {H H' : Hp} {l : Addr} {ms : List Int} (h : PcsAt H l ms) (s : Same H H') : PcsAt H' l ms := by
  obtain ⟨ts, a, b, c⟩ := h
  exact ⟨ts, s _ _ a, b, fun i t ht => (c i t ht).imp fun _ h => ⟨h.1, s _ _ h.2⟩⟩
theorem Want.uniq {s : Shop} {till l1 l2 : Int} {d1 d2 : Option Int} (a : Want s till (fun _ => True) l1 d1) (b : Want s till (fun _ => True) l2 d2) : l1 = l2 ∧ d1 = d2 := by
  rcases a.is with ⟨a1, a2⟩ | ⟨x, a1, a2, a3, a4, a5, a6⟩
  · rcases b.is with ⟨b1, b2⟩ | ⟨y, b1, b2, b3, b4, b5, b6⟩
    · exact ⟨a1.trans b1.symm, a2.trans b2.symm⟩
    · have := a.low y b3 b4 trivial
      omega
  · rcases b.is with ⟨b1, b2⟩ | ⟨y, b1, b2, b3, b4, b5, b6⟩
    · have := b.low x a3 a4 trivial
      omega
    · have h1 := a.low y b3 b4 trivial
      have h2 := b.low x a3 a4 trivial
      have e : l1 = l2 := by omega
      have : x = y := by
        by_cases h : x < y
        · have := b6 x a3 h
          omega
        · by_cases h' : y < x
          · have := a6 y b3 h'
            omega
          · omega
      exact ⟨e, by rw [a1, b1, this]⟩
end LT
set_option Elab.async false
set_option linter.all false
set_option maxRecDepth 100000
namespace LT
open PySem PySem.Spec PyProof.Rows L2
/-! ### rows of days as data, and how they are shown -/
end LT
set_option Elab.async false
set_option linter.all false
set_option maxRecDepth 100000
set_option maxHeartbeats 1600000
namespace LT
open PySem PySem.Spec PyProof.Rows L2 LamX
/-! ### defs whose code object is known -/
structure FunC (K : PySem.W.Frag) (x qual : Str) (st : Stmt) (f c : Addr) (fd : FuncData) : Prop where
  ex : ∃ (oc : Value) (od : Option Addr) (kV doc pm : Value) (an : Option Addr) (ct : Value) (osl : Array (Option Value)),
    fd = PySem.W.fnOf x qual (defArgs st) (defBody st) (defScope st) .none kV doc pm an (.ref c) ct ∧ K.lookup f = some ⟨oc, od, .func fd, osl⟩ ∧ PySem.W.codeIn K (.ref c) qual = true
  kp : PySem.W.keepIn K (.ref f) = true
theorem FunC.fn {K : PySem.W.Frag} {x qual : Str} {st : Stmt} {f c : Addr} {fd : FuncData} (F : FunC K x qual st f c fd) : Fun K x qual st f fd := by
  obtain ⟨oc, od, kV, doc, pm, an, ct, osl, e, l, h⟩ := F.ex
  exact ⟨⟨oc, od, kV, doc, pm, an, .ref c, ct, osl, e, l, h⟩, F.kp⟩
section
variable {P : Program} {w : World} {K : PySem.W.Frag} {mg : Str → Option Value} {base : Heap}
theorem FunC.ok {x qual : Str} {st : Stmt} {f c : Addr} {fd : FuncData} {N ps : List Str} {k : Nat} {sp : Sp} (F : FunC K x qual st f c fd) (S : FnScope N ps (defScope st)) (len : ∀ vs H Q E, sp vs H Q E → vs.length = ps.length)
    (body : ∀ (A : Around) (outer : List Env) (s : Shared) (H : Hp) (vs : List V) (Q : VK) (E : XK), Room k (A.deeper (envOfC qual (defScope st) s.heap.objs.size f (.ref c))) → sp vs H Q E →
      ∃ t, PSs (cxOf CX0 P w K mg base N qual (defScope st) f (.ref c) A outer s H E).nox (defBody st) t ∧ t { nx := fun _ H' => Q .non H', rt := Q } (start N vs) H) : FnOk P w K mg base CX0 (k + 1) f fd ps sp := by
  obtain ⟨oc, od, kV, doc, pm, an, ct, osl, rfl, lk, hcd⟩ := F.ex
  refine fn_of lk hcd S len fun A outer s H vs Q E hr hsp => ?_
  obtain ⟨t, h, q⟩ := body A outer s H vs Q E hr hsp
  exact ⟨t, h.nox, q⟩
end
/-! ### the end of a law whose defs make lambdas and show things -/
theorem end_tab {P : Program} {w : World} {K : PySem.W.Frag} {mg mb : Str → Option Value} {CX : CXT} {k : Nat} {fa a : Addr} {cs : List (Addr × Addr)}
    {fd : FuncData} {x : Str} {sp : Sp} {s₁ : Shared} {vs : List Value} {ns : List Int}
    (KX : K.In s₁.heap) (hns : s₁.heap.Ns mainGlobals mg) (hb : s₁.heap.Ns builtinsNs mb)
    (hbb : ∀ x : Str, x ≠ "__name__" → mb x = bootBuiltins x) (hlim : s₁.heap.NoLimit) (hg : s₁.gens = #[])
    (tab : ∀ p ∈ cs, s₁.heap.get? p.2 = some { cls := .none, data := .fields #[] }) (out : ∀ p ∈ cs, K.lookup p.2 = none) (code : ∀ p ∈ cs, PySem.W.CodeHd s₁.heap p.1 p.2)
    (bmain : ∃ (bm : Addr) (ob : Obj), mg "__builtins__" = some (.ref bm) ∧ bm ≠ builtinsNs ∧ s₁.heap.get? bm = some ob ∧ ob.cls = .type "module" ∧ ob.dict = some builtinsNs ∧ ob.data = .plain)
    (ha : s₁.heap.get? a = some { cls := .type "list", data := .seq vs.toArray }) (hi : IntsAre vs ns)
    (hl : ns.length ≤ sizeLine) (hr : Room k callerA)
    (F : ∀ base : Heap, K.In base → base.Ns mainGlobals mg → (∀ p ∈ cs, TabB base mg p.1 p.2) → FnG P w K mg base CX k fa fd [x] sp)
    (hbind : ∀ (s : Shared) (u : Value), BindsTo s fd ⟨[u], []⟩ [(x, u)])
    (hsp : ∀ H : Hp, (∀ p ∈ cs, H p.2 = some (.tbl #[])) → SqL K H a (ns.map V.int) → sp [.ref a] H (fun v _ => v = .bl true) fun _ _ _ => False)
    (hCX : ∀ H e s', CX [] H s₁ (fun _ _ _ => False) e s' → False) :
    codeAny (model P w) callerA (.call (.ref fa) ⟨[.ref a], []⟩)
      (fun r s' => r = .ok (.ret (.bool true)) ∧ OldK s₁.heap s'.heap ∧ s'.os = s₁.os ∧ AllBare s'.gens) s₁ := by
  have lenV := hi.length
  let ts : List Addr := cs.map (·.2)
  have tabT : ∀ b ∈ ts, s₁.heap.get? b = some { cls := .none, data := .fields #[] } := fun b hb => by
    obtain ⟨p, hp, rfl⟩ := List.mem_map.mp hb
    exact tab p hp
  have inT : ∀ p ∈ cs, p.2 ∈ ts := fun p hp => List.mem_map.mpr ⟨p, hp, rfl⟩
  have outA : a ∉ ts := fun z => by
    have y := tabT a z
    rw [ha] at y
    cases y
  have start : ∀ H : Hp, (∀ b, b ∈ ts → H b = some (.tbl #[])) → (∀ b, b ∉ ts → b ≠ a → H b = none) → (H a = none ∨ ∃ ob xs, H a = some (.frz ob (.lst xs)) ∧ K.lookup a = none) →
      SqL K H a (ns.map V.int) → HOk P w H s₁.heap → codeAny (model P w) callerA (.call (.ref fa) ⟨[.ref a], []⟩)
        (fun r s' => r = .ok (.ret (.bool true)) ∧ OldK s₁.heap s'.heap ∧ s'.os = s₁.os ∧ AllBare s'.gens) s₁ := by
    intro H isT isN isA hS hok
    have free : ∀ {b : Addr} {o : Obj}, s₁.heap.get? b = some o → (∀ ys n, o.data ≠ .seq ys n) → o.data ≠ .fields #[] → H b = none := fun {b o} e n1 n2 => by
      refine isN b (fun z => ?_) fun z => ?_
      · rw [tabT b z] at e
        cases e
        exact n2 rfl
      · rw [z, ha] at e
        cases e
        exact n1 _ _ rfl
    have nsK : ∀ {b : Addr} {m : Str → Option Value}, s₁.heap.Ns b m → (hidT s₁.heap H).Ns b m := by
      rintro b m ⟨o, es, ep, e, d, r⟩
      exact ⟨o, es, ep, hidT_get e (free e (by rw [d]; nofun) (by rw [d]; nofun)), d, r⟩
    have inK : K.In (hidT s₁.heap H) := fun b o e => hidT_get (KX b o e) (by
      by_cases q : b = a
      · rcases isA with z | ⟨_, _, _, z⟩
        · rw [q]
          exact z
        · rw [q, z] at e
          cases e
      · refine isN b (fun z => ?_) q
        obtain ⟨p, hp, rfl⟩ := List.mem_map.mp z
        rw [out p hp] at e
        cases e)
    have hM : Mod K mg (hidT s₁.heap H) := ⟨inK, nsK hns, ⟨mb, nsK hb, hbb⟩, hlim.imp fun _ z => ⟨nsK z.1, z.2⟩⟩
    have TB : ∀ p ∈ cs, TabB (hidT s₁.heap H) mg p.1 p.2 := fun p hp => by
      have at_ := tab p hp
      refine ⟨?_, ?_, fun z => ?_⟩
      · obtain ⟨o, us, fl, tf, fg, tg, inF, tx, tt, c1, c2, c3, c4, c5⟩ := code p hp
        exact ⟨o, us, fl, tf, fg, tg, inF, tx, tt, hidT_get c1 (free c1 (by rw [c3]; nofun) (by
          rw [c3]
          intro z
          cases z
          cases c4)), c2, c3, c4, c5⟩
      · obtain ⟨bm, ob, b1, b2, b3, b4, b5, b6⟩ := bmain
        refine ⟨bm, ob, b1, b2, fun z => ?_, fun z => ?_, hidT_get b3 (free b3 (by rw [b6]; nofun) (by rw [b6]; nofun)), b4, b5, b6⟩
        · obtain ⟨o, es, ep, e, d, _⟩ := hns
          rw [z, e] at b3
          cases b3
          rw [d] at b6
          cases b6
        · rw [z, at_] at b3
          cases b3
          cases b6
      · obtain ⟨o, es, ep, e, d, _⟩ := hns
        rw [z, at_] at e
        cases e
        cases d
    have e0 : Env0 P w K mg (hidT s₁.heap H) callerA [] s₁ H :=
      ⟨rfl, hM, fun b o e => of_hidT e, Nat.le_of_eq (hidT_size _ _), trivial,
        fun b z => absurd (show b ∈ ([] : List Addr) from z) List.not_mem_nil, hok, .of_eq hg⟩
    refine codeAny_mono ((F _ inK (nsK hns) TB).go (us := [.ref a]) (vs := [.ref a]) rfl hr e0 (hbind s₁ (.ref a)) (.cons rfl .nil) (hsp H (fun p hp => isT _ (inT p hp)) hS)) fun r s' h => ?_
    match r, h with
    | .error e, h => exact (hCX H e s' h).elim
    | .ok .next, h => exact h.elim
    | .ok .brk, h => exact h.elim
    | .ok .cont, h => exact h.elim
    | .ok (.ret u), h =>
      obtain ⟨v, H', os, bare, un, hok', r', rfl⟩ := h
      obtain rfl : u = Value.bool true := r'
      have old : ∀ b o, b ∉ ts → s₁.heap.get? b = some o → s'.heap.get? b = some o := fun b o nt e => by
        have plain : H b = none → s'.heap.get? b = some o := fun z => un.keep b o e z (fun y => absurd (show b ∈ ([] : List Addr) from y) List.not_mem_nil) List.not_mem_nil
        by_cases q : b = a
        · rcases isA with z | ⟨ob, xs, z, _⟩
          · exact plain (by rw [q]; exact z)
          · rw [← q] at z
            have z1 := (hok b _ z).1
            rw [e] at z1
            cases z1
            exact (hok' b _ (un.frzs b _ _ z)).1
        · exact plain (isN b nt q)
      have grew : ∀ p ∈ cs, ∃ more : Array Value, s'.heap.get? p.2 = some { cls := .none, data := .fields more } := fun p hp => by
        obtain ⟨more, z⟩ := un.tbls p.2 #[] (isT _ (inT p hp))
        exact ⟨_, hok' p.2 _ z⟩
      refine ⟨rfl, ⟨fun b o e => ?_, fun b o e => ?_⟩, os, bare⟩
      · by_cases q : b ∈ ts
        · obtain ⟨p, hp, rfl⟩ := List.mem_map.mp q
          obtain ⟨more, hm⟩ := grew p hp
          rw [tab p hp] at e
          cases e
          exact .inr (.inl ⟨((code p hp).tab (tab p hp)).isCodeTable, rfl, #[], more, rfl, by rw [Array.empty_append]; exact hm⟩)
        · exact .inl (old b o q e)
      · by_cases q : b ∈ ts
        · obtain ⟨p, hp, rfl⟩ := List.mem_map.mp q
          obtain ⟨more, hm⟩ := grew p hp
          exact ⟨_, hm⟩
        · exact ⟨o, old b o q e⟩
  let T0 : Hp := fun b => if b ∈ ts then some (.tbl #[]) else none
  have T0t : ∀ b, b ∈ ts → T0 b = some (.tbl #[]) := fun b z => if_pos z
  have T0n : ∀ b, b ∉ ts → T0 b = none := fun b z => if_neg z
  have T0ok : HOk P w T0 s₁.heap := fun b u z => by
    by_cases q : b ∈ ts
    · rw [T0t b q] at z
      cases z
      exact tabT b q
    · rw [T0n b q] at z
      cases z
  cases hk : K.lookup a with
  | some o =>
    have e := KX a o hk
    rw [ha] at e
    cases e
    refine start T0 T0t (fun b z _ => T0n b z) (.inl (T0n a outA)) (.inr ⟨_, vs.toArray, _, hk, rfl, rfl, rfl, ?_, by simpa using vals_ints hi⟩) T0ok
    rw [List.size_toArray, lenV]
    exact hl
  | none =>
    refine start (upd T0 a (.frz { cls := .type "list", data := .seq vs.toArray } (.lst (ns.map V.int)))) (fun b z => ?_) (fun b z q => ?_) (.inr ⟨_, _, upd_same, hk⟩) (.inl (.inr ⟨_, upd_same⟩)) (fun b u z => ?_)
    · rw [upd_ne (fun q : b = a => outA (by rw [← q]; exact z))]
      exact T0t b z
    · rw [upd_ne q]
      exact T0n b z
    · by_cases q : b = a
      · subst q
        rw [upd_same] at z
        cases z
        exact ⟨ha, by rw [List.length_map]; exact hl, vs, _, vals_ints hi, ha⟩
      · rw [upd_ne q] at z
        by_cases q2 : b ∈ ts
        · rw [T0t b q2] at z
          cases z
          exact tabT b q2
        · rw [T0n b q2] at z
          cases z
/-- what is known of the law's def where the top has ended -/
def LawG (l : PySem.W.OpenLaw) (w : World) (K : PySem.W.Frag) (CX : CXT) (k n : Nat) (x : Str) (mg : Str → Option Value) (fa : Addr) (h : Heap) : Prop :=
  ∃ (fd : FuncData) (cs : List (Addr × Addr)) (sp : Sp), (∀ p ∈ cs, h.get? p.2 = some { cls := .none, data := .fields #[] }) ∧ (∀ p ∈ cs, K.lookup p.2 = none) ∧
    (∀ p ∈ cs, PySem.W.CodeHd h p.1 p.2) ∧ (∀ (s : Shared) (u : Value), BindsTo s fd ⟨[u], []⟩ [(x, u)]) ∧
    (∀ (H : Hp) (a : Addr) (ns : List Int), ns.length ≤ n → (∀ p ∈ cs, H p.2 = some (.tbl #[])) → SqL K H a (ns.map V.int) → sp [.ref a] H (fun v _ => v = .bl true) fun _ _ _ => False) ∧
    ∀ base : Heap, K.In base → base.Ns mainGlobals mg → (∀ p ∈ cs, TabB base mg p.1 p.2) → FnG l.prog w K mg base CX k fa fd [x] sp
theorem end_ofG {l : PySem.W.OpenLaw} {n k : Nat} {q : Program} {loose : List Str} {XP : (Str → Option Value) → Heap → Prop}
    {YP : World → Heap → Prop} {d : DefRec} {K : Params → PySem.W.Frag} {CX : World → CXT} {x : Str}
    (hn : l.most = some n) (hn2 : n ≤ sizeLine) (hdf : d.params.defaults = []) (hr : Room k callerA)
    (hY : ∀ (w : World) (h : Heap), YP w h → (K w.params).In h)
    (F : ∀ (w : World) (mg : Str → Option Value) (fa : Addr) (h : Heap), YP w h → (K w.params).In h → h.Ns mainGlobals mg →
      mg d.name = some (.ref fa) → LawG l w (K w.params) (CX w) k n x mg fa h)
    (hCX : ∀ (w : World) (H : Hp) (s : Shared) (e : Value) (s' : Shared), CX w [] H s (fun _ _ _ => False) e s' → False) :
    PySem.W.WalkO q loose XP YP l.row.toRowW d [] (fun f vs => PySem.call f vs) :=
  Att.attach_callB hn hdf fun w _ s₁ mg mb fa o pm cd doc a vs ns G Y ho hd hcd hmg hobj hints hlen hbits hg => by
    obtain ⟨fd, cs, sp, tab, out, code, hb, hsp, hF⟩ := F w mg fa _ Y (hY w _ Y) G.T.g hmg
    exact end_tab (hY w _ Y) G.T.g G.T.b G.T.builtins G.T.nolimit hg tab out code G.T.bmain hobj hints (Nat.le_trans hlen hn2) hr hF hb
      (fun H hH hS => hsp H a ns hlen hH hS) fun H e s' => hCX w H s₁ e s'
end LT
set_option Elab.async false
set_option linter.all false
namespace LD
/-! ### days of both, days of none, by rows that rise -/
def Gap (r s : Row) : Prop := ∃ j, r.2 = some j ∧ j + 1 < s.1
structure Asc (L : List Row) : Prop where
  ok : ∀ r ∈ L, Ok r
  pw : L.Pairwise Gap
theorem can_iff : ∀ {L : List Row}, Can L ↔ (∀ r ∈ L, Ok r) ∧ L.Pairwise (fun r s => Gap s r)
  | [] => ⟨fun _ => ⟨nofun, .nil⟩, fun _ => trivial⟩
  | r :: t => by
    constructor
    · intro h
      exact ⟨h.ok, List.pairwise_cons.mpr ⟨fun s hs => h.under s hs, (can_iff.mp h.tail).2⟩⟩
    · rintro ⟨h1, h2⟩
      obtain ⟨g1, g2⟩ := List.pairwise_cons.mp h2
      have ht : Can t := can_iff.mpr ⟨fun s hs => h1 s (.tail _ hs), g2⟩
      cases t with
      | nil => exact h1 r (.head _)
      | cons s t => exact ⟨h1 r (.head _), g1 s (.head _), ht⟩
theorem can_of {L : List Row} (h : Asc L) : Can L.reverse := can_iff.mpr ⟨fun r hr => h.ok r (List.mem_reverse.mp hr), List.pairwise_reverse.mpr h.pw⟩
theorem ins_rev {L : List Row} {d : Int} : Ins L.reverse d ↔ Ins L d := ⟨fun ⟨r, hr, z⟩ => ⟨r, List.mem_reverse.mp hr, z⟩, fun ⟨r, hr, z⟩ => ⟨r, List.mem_reverse.mpr hr, z⟩⟩
theorem asc_uniq {L L' : List Row} (h : Asc L) (h' : Asc L') (e : ∀ d, Ins L d ↔ Ins L' d) : L = L' := by
  have := uniq (can_of h) (can_of h') fun d => by rw [ins_rev, ins_rev, e]
  rw [← List.reverse_reverse L, this, List.reverse_reverse]
theorem Asc.tail {r : Row} {t : List Row} (h : Asc (r :: t)) : Asc t := ⟨fun s hs => h.ok s (.tail _ hs), (List.pairwise_cons.mp h.pw).2⟩
/-! ### a walk over marks, whatever is wanted -/
end LD
set_option Elab.async false
set_option linter.all false
set_option maxRecDepth 100000
set_option maxHeartbeats 1600000
namespace LT
open PySem PySem.Spec PyProof.Rows L2
/-! ### two lists of own things, equal one by one: != is False -/
/-! ### repr of a list of own things -/
end LT
set_option Elab.async false
set_option linter.all false
set_option maxRecDepth 100000
set_option maxHeartbeats 1600000
set_option pp.maxSteps 700
/-! Own layer: repr and == of lists and tuples, one within the other, that hold own things. -/
namespace LT
open PySem PySem.Spec PyProof.Rows L2
/-! ### repr -/
def RepI (X : Cx) (H : Hp) (n : Nat) (as : List Addr) (v : V) (t : Str) : Prop :=
  ∀ (σ : L2.St) (u : Value), RelV v u → ∀ (b : Nat), b + t.length ≤ sizeLine → ∀ (A : Around) (g : List Code) (pins : List (Addr × Obj)) (s : Shared), A.guards = some g → (∀ x ∈ as, Clear g x) → L2.Sub X n A → Inv X pins σ H s →
    wpAny (model X.prog X.w) A (pyReprUnder b u) (fun t' s2 => t' = t ∧ Inv X pins σ H s2) X.xe s
section
variable {X : Cx} {C f : Addr} {fd : FuncData} {ps : List Str} {sp : List Code → Sp} {k n : Nat} {H : Hp} {as : List Addr} {t : Str}
theorem sub_le {m : Nat} {A : Around} (sb : L2.Sub X n A) (h : m ≤ n) : L2.Sub X m A := ⟨sb.room.mono h, sb.fr⟩
theorem RepI.own {a dx : Addr} {fs : List (Str × V)} (hs : PySem.W.findIn X.K (.ref C) "__repr__" = some (some (.ref f))) (hf : PySem.W.isFn X.K (.ref f) = true) (F : FnGc X.prog X.w X.K X.mg X.base CX0 k f fd ps sp) (hb : L2.Binds X.K fd ps [])
    (ha : H a = some (.ins C dx fs)) (hsp : ∀ g, sp g [.ref a] H (fun z H' => ∃ u, z = .str u ∧ (z = .str t ∧ H' = H)) E0) (hk : k ≤ n) : RepI X H n as (.ref a) t := by
  intro σ u r b hbz A g pins s hg hc sb I
  cases r
  obtain ⟨mA, JI, _⟩ := ins_get I.hok ha
  obtain ⟨od, JI, _⟩ := JI.look
  refine under_ownC (by omega) sb.room.units0 I.kIn JI hs hf (wpAny_mono (run_strGc (Q := fun z H' => z = .str t ∧ H' = H) F hg (sub_le sb hk) hb I (hsp g)) (fun z s2 hz => ?_) fun e s2 he => he)
  cases z <;> first | exact hz.elim | skip
  obtain ⟨zv, H', I2, rz, rfl, rfl⟩ := hz
  obtain ⟨tk2, ez⟩ := rz
  cases ez
  exact ⟨t, _, rfl, rfl, I2⟩
variable {pins : List (Addr × Obj)} {σ : L2.St}
theorem show_loopI {A : Around} {g : List Code} (hG : A.guards = some g) (hcl : ∀ x ∈ as, Clear g x) (sb : L2.Sub X (n + 1) A) {R : Result → Shared → Prop}
    (hE : ∀ e s', X.xe e s' → R (.error e) s') {l P : Addr} {xs : List V} {ts : List Str} {b : Nat} (hna : l ∉ as) (hl : H l = some (.lst xs)) (hlen : ts.length = xs.length)
    (each : ∀ (i : Nat) (v : V) (t : Str), xs[i]? = some v → ts[i]? = some t → RepI X H n as v t)
    (hsz : b + (listText ts).length ≤ sizeLine) (fp : FpOk X pins H P) (fin : ∀ s' u, Inv X pins σ H s' → R (.ok (.ret (.str (listText ts) u))) s') :
    ∀ (k i : Nat) (s : Shared) (acc : Array Value) (c : Nat) (done : List (Str × Tok)), xs.length - i = k → i ≤ xs.length → Inv X pins σ H s →
      s.heap.get? P = some (seqObj "list" acc c) → acc.toList = strValues done → done.map (·.1) = ts.take i →
      codeAny (model X.prog X.w) A (.builtin "list.__repr__.loop" ⟨[.ref l, rawInt i, .ref P, rawInt ((b + piled (ts.take i) : Nat) : Int)], []⟩) R s := by
  have hX : (listText ts).length = (textFrom 0 "[" ts).length + 1 := by
    show (textFrom 0 "[" ts ++ "]").length = _
    rw [strLen_append]
    rfl
  have hL := textFrom_len ts 0 "["
  have hp3 := piled_le_listText ts
  intro k
  induction k with
  | zero =>
    intro i s acc c done hk hi I hP hacc hdone
    obtain ⟨its, rv, pl, hz⟩ := I.list (SqL.of hl)
    obtain ⟨o, m, e1, e2, _, e4⟩ := pl
    have il := rv.length
    refine codeAny_builtin PySem.F.entry_list_repr_loop ?_
    show wpAny _ _ (Builtin.«list.__repr__.loop» ⟨[.ref l, .int i 0, .ref P, .int ((b + piled (ts.take i) : Nat) : Int) 0], []⟩) _ _ s
    rw [repr_loop_tree]
    refine wpAny_bind (wpAny_listItems e1 e4 ?_)
    have hnone : its.toArray[(i : Int).toNat]? = none := by
      simp
      omega
    simp only [hnone]
    unfold reprEnd
    refine wpAny_bind (wpAny_listItems hP rfl ?_)
    rw [hacc, repr_fold]
    refine wpAny_bind (wpAny_pure ?_)
    have hall : done.map (·.1) = ts := by rw [hdone, List.take_of_length_le (by omega)]
    rw [hall]
    refine wpAny_bind (wpAny_mkStr (wpAny_pure ?_) (by show (listText ts).length ≤ _; omega))
    exact fin _ _ (I.tok _)
  | succ k ih =>
    intro i s acc c done hk hi I hP hacc hdone
    obtain ⟨its, rv, pl, hz⟩ := I.list (SqL.of hl)
    obtain ⟨o, m, e1, e2, _, e4⟩ := pl
    have il := rv.length
    have hlt : i < xs.length := by omega
    obtain ⟨v, ev⟩ : ∃ v, xs[i]? = some v := ⟨_, List.getElem?_eq_getElem hlt⟩
    obtain ⟨u, eu⟩ : ∃ u, its[i]? = some u := ⟨_, List.getElem?_eq_getElem (by omega)⟩
    obtain ⟨t, ht⟩ : ∃ t, ts[i]? = some t := ⟨_, List.getElem?_eq_getElem (by omega)⟩
    have hrep := each i v t ev ht
    have ru := vals_ix rv i ev eu
    have hp1 := piled_take_succ ht
    have hp2 := piled_take_le ts (i + 1)
    have htl := hL.2.1 t (List.mem_of_getElem? ht)
    refine codeAny_builtin PySem.F.entry_list_repr_loop ?_
    show wpAny _ _ (Builtin.«list.__repr__.loop» ⟨[.ref l, .int i 0, .ref P, .int ((b + piled (ts.take i) : Nat) : Int) 0], []⟩) _ _ s
    rw [repr_loop_tree]
    refine wpAny_bind (wpAny_listItems e1 e4 ?_)
    have hsome : its.toArray[(i : Int).toNat]? = some u := by simpa using eu
    simp only [hsome]
    rw [Int.toNat_natCast]
    have J : Inv X ((P, seqObj "list" acc c) :: pins) σ H s := I.pins_of fun p hp => by
      rcases List.mem_cons.mp hp with rfl | hp
      · exact ⟨hP, fp.1, fp.2.1, fp.2.2.1, fun v z => nomatch z⟩
      · exact I.pin p (List.mem_append_right _ hp)
    have sb2 := sub_guardC sb ⟨[.ref l, .int i 0, .ref P, .int ((b + piled (ts.take i) : Nat) : Int) 0], []⟩
    have hg2 : (A.under (.builtin "list.__repr__.loop" ⟨[.ref l, .int i 0, .ref P, .int ((b + piled (ts.take i) : Nat) : Int) 0], []⟩)).guards = some (.builtin "list.__repr__.loop" ⟨[.ref l, .int i 0, .ref P, .int ((b + piled (ts.take i) : Nat) : Int) 0], []⟩ :: g) := guards_under_guard (isGuard_list_loop _) hG
    refine wpAny_bind (wpAny_holding (wpAny_mono (hrep σ u ru (b + piled (ts.take i) + 1) (by omega) _ _ _ s hg2 (fun b' hb' => (hcl b' hb').cons (a := l) fun e => hna (e ▸ hb')) sb2 J) (fun t' s2 hz => ?_) fun e s2 he => hE e s2 he))
    have et := hz.1.symm
    have I2 := hz.2
    subst et
    have hP2 := (I2.pin (P, seqObj "list" acc c) (List.mem_append_right _ (.head _))).1
    have I3 : Inv X pins σ H s2 := I2.pins_of fun p hp => I2.pin p (List.mem_append_right _ (.tail _ hp))
    refine wpAny_bind (wpAny_mkStr ?_ (by omega))
    refine wpAny_bind ?_
    show wpAny _ _ (updateSeq P _) _ _ _
    have hasz : acc.size ≤ sizeLine := by
      have z1 : acc.toList.length = acc.size := by simp
      have z2 : (strValues done).length = done.length := by simp [strValues]
      have z3 : done.length = (ts.take i).length := by rw [← hdone, List.length_map]
      have z4 : (ts.take i).length ≤ i := by rw [List.length_take]; omega
      rw [hacc] at z1
      omega
    refine wpAny_updateSeq hP2 rfl (wpAny_pure ⟨PySem.F.quiet_list_repr_loop _, ?_⟩) hasz
    have e5 : ((i : Int) + 1) = ((i + 1 : Nat) : Int) := by omega
    have e6 : b + piled (ts.take i) + (t.length + 2) = b + piled (ts.take (i + 1)) := by omega
    rw [e5, e6]
    have sbt := Heap.SameBut.update s2.heap P (Obj.mapSeq (·.push (.str t s2.toks)))
    have I4 : Inv X pins σ H { s2 with heap := s2.heap.update P (Obj.mapSeq (·.push (.str t s2.toks))), toks := s2.toks + 1 } :=
      I3.turnedL (ch := [P]) (fun b o hb q => (sbt.2 b fun z => hb (by rw [z]; exact List.mem_singleton.mpr rfl)).trans q) (fun b hb => by rw [List.mem_singleton.mp hb]; exact fp)
    obtain ⟨c2, hc2⟩ : ∃ c2, (s2.heap.update P (Obj.mapSeq (·.push (.str t s2.toks)))).get? P = some (seqObj "list" (acc.push (.str t s2.toks)) c2) := ⟨_, get?_update_seq hP2 (·.push (.str t s2.toks))⟩
    exact ih (i + 1) _ (acc.push (.str t s2.toks)) c2 (done ++ [(t, s2.toks)]) (by omega) hlt I4 hc2 (by simp [hacc, strValues]) (by simp [List.take_add_one, ht, hdone])
/-- the list's own part, from its head on -/
theorem list_headI {A : Around} {g : List Code} (hG : A.guards = some g) {l : Addr} (hcl : ∀ x ∈ l :: as, Clear g x) (sb : L2.Sub X (n + 1) A) {R : Result → Shared → Prop} (hE : ∀ e s', X.xe e s' → R (.error e) s')
    {xs : List V} {ts : List Str} {b : Nat} {s : Shared} {o : Obj} {y : Value} {its : List Value} {m : Nat} (hna : l ∉ as) (hl : H l = some (.lst xs)) (hlen : ts.length = xs.length)
    (each : ∀ (i : Nat) (v : V) (t : Str), xs[i]? = some v → ts[i]? = some t → RepI X H n as v t) (hsz : b + (listText ts).length ≤ sizeLine) (I : Inv X pins σ H s) (e1 : s.heap.get? l = some o) (e4 : o.data = .seq (y :: its).toArray m)
    (fin : ∀ s' u, Inv X pins σ H s' → R (.ok (.ret (.str (listText ts) u))) s') :
    wpAny (model X.prog X.w) A.in1 (Builtin.listReprAt b ⟨[.ref l], []⟩) (fun fin s' => match fin with | .done f => R (.ok f) s' | .again c' => c'.quiet = true ∧ codeAny (model X.prog X.w) A c' R s') (fun e s' => R (.error e) s') s := by
  refine wpAny_list_repr_head (A := A.in1) hG (fun v rest kw hm => listSameRef_of_ne (hcl l List.mem_cons_self _ _ _ _ hm)) e1 e4 ?_
  refine wpAny_bind (m := newList []) (wpAny_newObj_type ?_)
  refine wpAny_pure ⟨PySem.F.quiet_list_repr_loop _, ?_⟩
  have I2 : Inv X pins σ H { s with heap := s.heap.push { cls := .type "list", data := .seq #[] } } := by
    have := I.kept (h' := s.heap.push { cls := .type "list", data := .seq #[] }) (t' := s.toks) fun b o e => Heap.get?_push_of_some _ e
    exact this
  have fp : FpOk X pins H s.heap.objs.size := I.fpOk (Nat.le_refl _) (I.hok.fresh (Nat.le_refl _))
  exact show_loopI hG (fun x hx => hcl x (List.mem_cons_of_mem _ hx)) sb hE hna hl hlen each hsz fp fin _ 0 _ #[] 0 [] rfl (Nat.zero_le _) I2 (Heap.get?_push_size _ rfl) rfl rfl
theorem RepI.lst {l : Addr} {xs : List V} {ts : List Str} (hl : H l = some (.lst xs)) (hlen : ts.length = xs.length) (hna : l ∉ as) (each : ∀ (i : Nat) (v : V) (t : Str), xs[i]? = some v → ts[i]? = some t → RepI X H n as v t) :
    RepI X H (n + 1) (l :: as) (.ref l) (listText ts) := by
  intro σ u r b hb A g pins s hg hc sb I
  cases r
  obtain ⟨its, rv, pl, hz⟩ := I.list (SqL.of hl)
  obtain ⟨o, m, e1, e2, e3, e4⟩ := pl
  have il := rv.length
  cases its with
  | nil =>
    have hx : xs = [] := List.eq_nil_of_length_eq_zero (by rw [il]; rfl)
    subst hx
    have ht : ts = [] := List.eq_nil_of_length_eq_zero hlen
    subst ht
    exact (ReprK.listEmpty (as := []) (d := 0) (h₀ := s.heap) e1 e2 e4) b hb A g X.xe s _ hg nofun sb.room.units0 (fun _ _ e => e) fun h' tk hk => ⟨rfl, I.kept hk⟩
  | cons y its =>
    refine wpAny_pyReprUnder_ref (by omega) (wpAny_pyReprObjUnder_twin (twin := "list.__repr__.under") ⟨o, e1, e2⟩ PySem.F.slot_list_repr.toG rfl sb.room.units0 ?_)
    refine call_twin_plain PySem.F.plain_list_repr_under PySem.F.entry_list_repr_under PySem.F.check_list_repr_under ⟨o, e1, e2⟩ PySem.F.slot_list_repr.toG (PySem.F.args_list_repr_1 _) ?_
    exact list_headI hg hc sb (fun e s' he => he) hna hl hlen each hb I e1 e4 fun s' u J => ⟨⟨_, _, rfl⟩, _, _, rfl, rfl, J⟩
theorem tupFoldI {A : Around} {g : List Code} (hG : A.guards = some g) (hcl : ∀ x ∈ as, Clear g x) (sb : L2.Sub X n A) : ∀ (vs : List V) (us : List Value) (ts : List Str) (acc : Array Str) (m : Nat) (s : Shared) (Q : (Array Str × Nat) → Shared → Prop), Vals vs us → ts.length = vs.length →
    (∀ (i : Nat) (v : V) (t : Str), vs[i]? = some v → ts[i]? = some t → RepI X H n as v t) → m + piled ts ≤ sizeLine → Inv X pins σ H s → (∀ s', Inv X pins σ H s' → Q ⟨acc ++ ts.toArray, m + piled ts⟩ s') →
    wpAny (model X.prog X.w) A (forIn us (⟨acc, m⟩ : (Array Str × Nat)) tupBody) Q X.xe s := by
  intro vs
  induction vs with
  | nil =>
    intro us ts acc m s Q r hl _ _ I h
    cases r
    have ht : ts = [] := List.eq_nil_of_length_eq_zero hl
    subst ht
    have h0 := h s I
    simp only [List.forIn_nil]
    exact wpAny_pure (by simpa [piled] using h0)
  | cons v vs ih =>
    intro us ts acc m s Q r hl each hn I h
    cases r with
    | cons ru rus =>
      cases ts with
      | nil => cases hl
      | cons t ts =>
        rw [piled_cons] at hn
        rw [List.forIn_cons]
        refine wpAny_bind (wpAny_bind (wpAny_mono (each 0 v t rfl rfl σ _ ru (m + 1) (by omega) _ _ _ s hG hcl sb I) (fun t' s2 hz => wpAny_pure ?_) fun _ _ x => x))
        obtain ⟨rfl, I2⟩ := hz
        refine ih _ ts (acc.push t') (m + (t'.length + 2)) _ Q rus (Nat.succ.inj hl) (fun i v t hv ht => each (i + 1) v t hv ht) (by omega) I2 fun s' J => ?_
        have h1 := h s' J
        have e : m + piled (t' :: ts) = m + (t'.length + 2) + piled ts := by rw [piled_cons]; omega
        rw [e] at h1
        simpa using h1
theorem sub_guardT {A : Around} (sb : L2.Sub X (n + 1) A) (id : String) (hid : id = "tuple.__repr__" ∨ id = "tuple.__repr__.under") (args : Args) : L2.Sub X n (A.under (.builtin id args)) := by
  have hw : (Code.builtin id args).weight ≤ 1 := by
    rcases hid with rfl | rfl
    · show (Code.builtin "tuple.__repr__" ⟨[], []⟩).weight ≤ 1
      decide +kernel
    · show (Code.builtin "tuple.__repr__.under" ⟨[], []⟩).weight ≤ 1
      decide +kernel
  have hc : (Code.builtin id args).cUnits ≤ 10 := by
    rcases hid with rfl | rfl
    · show (Code.builtin "tuple.__repr__" ⟨[], []⟩).cUnits ≤ 10
      decide +kernel
    · show (Code.builtin "tuple.__repr__.under" ⟨[], []⟩).cUnits ≤ 10
      decide +kernel
  have he : (Code.builtin id args).envs = [] := rfl
  obtain ⟨⟨h1, h2, h3⟩, h4⟩ := sb
  refine ⟨⟨h1, ?_, ?_⟩, ?_⟩
  · show A.depth + _ + 3 * n + 5 < _
    omega
  · show A.units + _ + 16 * n + 200 < _
    omega
  · unfold Around.under
    simp [he, pushEnvs, h4]
theorem RepI.tup {l : Addr} {xs : List V} {ts : List Str} (hl : H l = some (.tup xs)) (hlen : ts.length = xs.length) (hna : l ∉ as) (each : ∀ (i : Nat) (v : V) (t : Str), xs[i]? = some v → ts[i]? = some t → RepI X H n as v t) :
    RepI X H (n + 1) (l :: as) (.ref l) (tupleText ts) := by
  intro σ u r b hb A g pins s hg hc sb I
  cases r
  obtain ⟨its, rv, ⟨o, ho, hcl, m, hd⟩, _⟩ := I.tuple (SqT.of hl)
  have il := rv.length
  have hp := piled_le_tupleText ts
  refine wpAny_pyReprUnder_ref (by omega) (wpAny_pyReprObjUnder_twin (twin := "tuple.__repr__.under") ⟨o, ho, hcl⟩ PySem.F.slot_tuple_repr rfl sb.room.units0 ?_)
  refine call_twin_own (PySem.F.quiet_tuple_repr_under _) PySem.F.entry_tuple_repr_under PySem.F.check_tuple_repr_under ⟨o, ho, hcl⟩ PySem.F.slot_tuple_repr (PySem.F.args_tuple_repr_1 _) ?_
  rw [tuple_repr_tree, tupleReprUnderWay_eq]
  refine wpOwn_bind (wpOwn_stackTailAny hg (tupGuardF_off _) (tupGuardF_pos _) ?_)
  have hn : (g.any fun c => tupGuardF (.ref l) (c, default)) = false := by
    rw [List.any_eq_false]
    intro c hcm
    rw [tupGuardF_of_clear (hc l List.mem_cons_self) c hcm]
    exact Bool.false_ne_true
  rw [hn]
  refine wpOwn_of_wpAny ?_
  show wpAny _ _ (tupleReprRest b (.ref l)) _ _ s
  unfold tupleReprRest Builtin.Tuple.tupleItemsOf
  refine wpAny_bind (wpAny_bind (wpAny_seqItems ho hd (wpAny_pure ?_)))
  rw [← Array.forIn_toList]
  have sb2 : L2.Sub X n (A.under (.builtin "tuple.__repr__.under" ⟨[.ref l, rawInt b], []⟩)) := sub_guardT sb _ (.inr rfl) _
  have hg2 : (A.under (.builtin "tuple.__repr__.under" ⟨[.ref l, rawInt b], []⟩)).guards = some (.builtin "tuple.__repr__.under" ⟨[.ref l, rawInt b], []⟩ :: g) := guards_under_guard (isGuard_tuple_repr_under _) hg
  refine wpAny_bind (wpAny_mono (tupFoldI hg2 (fun b' hb' => (hc b' (List.mem_cons_of_mem _ hb')).cons (a := l) fun e => hna (e ▸ hb')) sb2 xs its ts #[] b s (fun r s' => r = ⟨#[] ++ ts.toArray, b + piled ts⟩ ∧ Inv X pins σ H s') rv hlen each (by omega) I fun s' J => ⟨rfl, J⟩) (fun r s' hz => ?_) fun _ _ x => x)
  obtain ⟨rfl, J⟩ := hz
  refine wpAny_bind (wpAny_mkStr (wpAny_pure ?_) ?_)
  · refine ⟨⟨_, _, rfl⟩, _, _, rfl, ?_, J.tok _⟩
    simp [tupleText, hlen, il]
  · have : (tupleText ts).length ≤ sizeLine := by omega
    simpa [tupleText, hlen, il] using this
end
/-! ### trees of such, told without the place that shows them -/
/-! ### != of two lists of such, equal one by one -/
/-! ### xs == [] -/
section
variable {prog : Program} {w : World} {A : Around} {E : Value → Shared → Prop} {s : Shared}
open AutoSeq1 (wpAny_loadPart')
theorem eq_lens {Q : Value → Shared → Prop} {l b : Addr} {items items2 : Array Value} {n n2 : Nat} (hu : A.units < cLine) (ho : s.heap.get? l = some { cls := .type "list", data := .seq items n }) (ho2 : s.heap.get? b = some { cls := .type "list", data := .seq items2 n2 }) (hd : items.size ≠ items2.size)
    (h : Q (.bool false) s) : wpAny (model prog w) A (richCompare .Eq (.ref l) (.ref b)) Q E s := by
  refine wpAny_richCompare_same_room (op := .Eq) ⟨_, ho, rfl⟩ ⟨_, ho2, rfl⟩ PySem.F.slot_list_eq (GQ.call_here PySem.F.slot_list_eq ⟨_, ho, rfl⟩ PySem.F.entry_list_eq (PySem.F.args_list_eq_2 _ _) ?_) hu
  have f3 := AutoSeq1.sub_list_list
  have hne : (items.size != items2.size) = true := by simpa using hd
  obtain ⟨hp, g, d, tk, os⟩ := s
  wp_walk using wpAny_loadPart' ho, wpAny_loadPart' ho2
  exact ⟨(fun z => nomatch z), h⟩
end
def rEqNil (K : PySem.W.Frag) : R2 := fun x y H Q => ∃ (l k : Addr) (xs : List V), x = .ref l ∧ y = .ref k ∧ H l = some (.lst xs) ∧ H k = some (.lst []) ∧ Q (.bl xs.isEmpty) H
theorem op_eqNil {X : Cx} (hu : X.A.units + 64 < cLine) : OpR X (compareOp .Eq) (rEqNil X.K) := by
  intro pins s σ H x y v u Q I rx ry h
  obtain ⟨l, k, xs, rfl, rfl, hl, hk, q⟩ := h
  cases xs with
  | nil => exact op_eqD hu pins s σ H _ _ v u Q I rx ry ⟨.list [], .list [], .lst (SqL.of hl) .nil, .lst (SqL.of hk) .nil, by decide +kernel, by decide +kernel, by
      rw [show PyData.eqv (.list []) (.list []) = true by decide +kernel]
      exact q⟩
  | cons x xs =>
    cases rx
    cases ry
    obtain ⟨_, its, n, rv, ho⟩ := (show ObjOk X.prog X.w H s.heap l (.lst (x :: xs)) from I.hok l _ hl)
    obtain ⟨_, its2, n2, rv2, ho2⟩ := (show ObjOk X.prog X.w H s.heap k (.lst []) from I.hok k _ hk)
    cases rv2
    refine eq_lens (by omega) ho ho2 ?_ ⟨.bl false, H, I, rfl, q⟩
    have := rv.length
    rw [List.length_cons] at this
    show its.toArray.size ≠ 0
    rw [List.size_toArray]
    omega
end LT
set_option Elab.async false
set_option linter.all false
set_option maxRecDepth 100000
set_option maxHeartbeats 1600000
/-! Own layer: runs of heads: one way only; how they show; == of them. -/
namespace LT
open PySem PySem.Spec PyProof.Rows L2 NdefX
/-! ### one way only -/
def Un (rs : List Run) : Prop := ∀ (i : Nat) a b, rs[i]? = some a → rs[i + 1]? = some b → a.1 ≠ b.1
theorem Un.tail {r : Run} {rs : List Run} (h : Un (r :: rs)) : Un rs := fun i a b h1 h2 => h (i + 1) a b h1 h2
theorem Cov.fst {β : Type} {fi : β → Int} {la : β → Option Int} {K : β → Int → Prop} {c : β} {r : List β} {f : Int} (h : Cov fi la K f (c :: r)) : fi c = f ∧ K c f := by
  cases r with
  | nil => exact ⟨h.1, h.2.2 f (Int.le_refl _)⟩
  | cons d r =>
    obtain ⟨h1, e, h2, h3, h4, _⟩ := h
    exact ⟨h1, h4 f (Int.le_refl _) h3⟩
/-! ### by marks -/
/-! ### how they show -/
/-- rows (value, day), as tuples -/
def RowsD (H : Hp) (us : List Addr) (B : List (Int × V)) : Prop := Paired (fun t (p : Int × V) => H t = some (.tup [p.2, .int p.1])) us B
theorem RowsD.mono {H H' : Hp} {us : List Addr} {B : List (Int × V)} (h : RowsD H us B) (s : Same H H') : RowsD H' us B := paired_imp (fun _ _ h => s _ _ h) h
theorem RowsD.upd {H : Hp} {us : List Addr} {B : List (Int × V)} {F : Addr} {xs : List V} {o : HO} (h : RowsD H us B) (e : H F = some (.lst xs)) : RowsD (L2.upd H F o) us B := paired_imp (fun t p h => by rw [upd_ne (ne_of h e (by intro z; cases z))]; exact h) h
/-! ### whole lists of runs -/
end LT
set_option Elab.async false
set_option linter.all false
set_option maxRecDepth 100000
set_option maxHeartbeats 1600000
/-! Own layer: entries: dicts locked, many at once; all that was told of one. -/
namespace LT
open PySem PySem.Spec PyProof.Rows L2 NdefX
/-! ### many locks -/
def tLocksE : Nat → TE → TE
  | 0, t => t
  | n + 1, t => tLockE (tLocksE n t)
def tLockM (t : TE) : TE := fun σ H Q => ∃ n, tLocksE n t σ H Q
theorem pe_locks {X : Cx} {e : Expr} {t : TE} (h : PE X e t) : ∀ n, PE X e (tLocksE n t)
  | 0 => h
  | n + 1 => pe_lock (pe_locks h n)
theorem pe_lockM {X : Cx} {e : Expr} {t : TE} (h : PE X e t) : PE X e (tLockM t) := ⟨fun pins s σ H Q I hw => by
  obtain ⟨n, hw⟩ := hw
  exact (pe_locks h n).run pins s σ H Q I hw⟩
def LockedAll (H Hl : Hp) (ds : List Addr) : Prop := (∀ d ∈ ds, ∃ od u, H d = some u ∧ Hl d = some (.frz od u)) ∧ ∀ a, a ∉ ds → Hl a = H a
def unlockAll (H H' : Hp) (ds : List Addr) : Hp := fun a => if a ∈ ds then H a else H' a
theorem locksE {t : TE} {σ : L2.St} : ∀ (ds : List Addr) (H : Hp) (Q : VK), ds.Nodup → (∀ d ∈ ds, ∃ u, H d = some u ∧ L2.Mut (some u)) →
    (∀ Hl, LockedAll H Hl ds → ∀ Q' : VK, (∀ v H', (∀ d ∈ ds, H' d = Hl d) → Q v (unlockAll H H' ds) → Q' v H') → t σ Hl Q') → tLocksE ds.length t σ H Q
  | [], H, Q, _, _, h => h H ⟨nofun, fun _ _ => rfl⟩ Q fun v H' _ q => by
      have e : unlockAll H H' [] = H' := funext fun a => if_neg nofun
      rw [e] at q
      exact q
  | d :: ds, H, Q, nd, hd, h => by
    have nd' := List.nodup_cons.mp nd
    obtain ⟨u, hu, mu⟩ := hd d List.mem_cons_self
    refine ⟨d, u, hu, mu, fun od => ?_⟩
    have hne : ∀ c ∈ ds, c ≠ d := fun c hc e => nd'.1 (e ▸ hc)
    refine locksE ds (L2.upd H d (.frz od u)) _ nd'.2 (fun c hc => ?_) fun Hl hl Q' hq => ?_
    · rw [upd_ne (hne c hc)]
      exact hd c (List.mem_cons_of_mem _ hc)
    · have ed : Hl d = some (.frz od u) := by rw [hl.2 d nd'.1, upd_same]
      refine h Hl ⟨fun c hc => ?_, fun a ha => ?_⟩ Q' fun v H' hk q => ?_
      · rcases List.mem_cons.mp hc with rfl | hc
        · exact ⟨od, u, hu, ed⟩
        · obtain ⟨oc, uc, h1, h2⟩ := hl.1 c hc
          rw [upd_ne (hne c hc)] at h1
          exact ⟨oc, uc, h1, h2⟩
      · rw [hl.2 a fun h => ha (List.mem_cons_of_mem _ h), upd_ne (fun e => ha (by rw [e]; exact List.mem_cons_self))]
      · refine hq v H' (fun c hc => hk c (List.mem_cons_of_mem _ hc)) ⟨?_, ?_⟩
        · show (if d ∈ ds then _ else H' d) = _
          rw [if_neg nd'.1, hk d List.mem_cons_self, ed]
        · have e : L2.upd (unlockAll (L2.upd H d (.frz od u)) H' ds) d u = unlockAll H H' (d :: ds) := funext fun a => by
            by_cases ha : a = d
            · subst ha
              rw [upd_same]
              show _ = if a ∈ a :: ds then H a else H' a
              rw [if_pos List.mem_cons_self, hu]
            · rw [upd_ne ha]
              show (if a ∈ ds then L2.upd H d (.frz od u) a else H' a) = if a ∈ d :: ds then H a else H' a
              by_cases hs : a ∈ ds
              · rw [if_pos hs, if_pos (List.mem_cons_of_mem _ hs), upd_ne ha]
              · rw [if_neg hs, if_neg fun h => (List.mem_cons.mp h).elim ha hs]
          rw [e]
          exact q
/-- what had not been there stays so; what was there is as it was -/
theorem unlock_same {H Hl H' : Hp} {ds : List Addr} (hl : LockedAll H Hl ds) (s : Same Hl H') : Same H (unlockAll H H' ds) := fun a o e => by
  show (if a ∈ ds then H a else H' a) = some o
  by_cases h : a ∈ ds
  · rw [if_pos h]
    exact e
  · rw [if_neg h]
    exact s a o (by rw [hl.2 a h]; exact e)
theorem unlock_new {H Hl H' : Hp} {ds : List Addr} {a : Addr} {o : HO} (hl : LockedAll H Hl ds) (hn : Hl a = none) (e : H' a = some o) : unlockAll H H' ds a = some o := by
  show (if a ∈ ds then H a else H' a) = some o
  rw [if_neg fun h => by
    obtain ⟨_, _, _, h2⟩ := hl.1 a h
    rw [hn] at h2
    cases h2]
  exact e
/-- a walk's own count -/
theorem walkW {J : It} {n : Nat} {G : Hp → Prop} {Y : Nat → Hp → V → Hp → Prop} (w : Walk J n G Y) {H0 : Hp} {Done : Hp → Prop} {Step : V → Hp → (Hp → Prop) → Prop} (Pv : Nat → Hp → Prop) (h0 : Pv 0 H0) (hg : ∀ i H, i ≤ n → Pv i H → G H)
    (hs : ∀ i x H H', i < n → Pv i H → Y i H x H' → Step x H' (Pv (i + 1))) (hd : ∀ H, Pv n H → Done H) :
    ∃ W : Nat → Nat → Hp → Prop, (∃ m, W 0 m H0) ∧ ∀ i m H, W i m H → (J.stop i H ∧ Done H) ∨ (J.go i H ∧ ∃ Nx : Hp → Prop, (∀ H', Nx H' → ∃ m', m' < m ∧ W (i + 1) m' H') ∧ ∀ x H', J.yld i H x H' → Step x H' Nx) := by
  refine ⟨fun i m H => m = n - i ∧ i ≤ n ∧ Pv i H, ⟨n, by simp, Nat.zero_le _, h0⟩, ?_⟩
  rintro i m H ⟨rfl, hi, p⟩
  have g := hg i H hi p
  by_cases hlt : i < n
  · exact .inr ⟨w.goes i H hlt g, Pv (i + 1), fun H' p' => ⟨n - (i + 1), by omega, rfl, hlt, p'⟩, fun x H' y => hs i x H H' hlt p (w.yields i H x H' hlt g y)⟩
  · have e : i = n := by omega
    subst e
    exact .inl ⟨w.stops H g, hd H p⟩
/-! ### all that was told, day by day -/
def flatH (h : Hist) : List (Int × Int × V) := h.flatMap fun p => p.2.map fun q => (q.1, p.1, q.2)
theorem flatH_snoc {h : Hist} {i : Nat} {e : Int × Told} (he : h[i]? = some e) : flatH (h.take (i + 1)) = flatH (h.take i) ++ e.2.map fun q => (q.1, e.1, q.2) := by
  unfold flatH
  rw [take_snoc he, List.flatMap_append, List.flatMap_cons, List.flatMap_nil, List.append_nil]
theorem flatH_take (h : Hist) (i : Nat) : (flatH (h.take i)).length ≤ (flatH h).length := by
  have e : flatH h = flatH (h.take i) ++ flatH (h.drop i) := by
    unfold flatH
    rw [← List.flatMap_append, List.take_append_drop]
  rw [e, List.length_append]
  omega
def TellT (H : Hp) (t : Addr) (e : Int × Int × V) : Prop := H t = some (.tup [.int e.1, .int e.2.1, e.2.2])
theorem TellT.unlock {H Hl H' : Hp} {ds : List Addr} {t : Addr} {e : Int × Int × V} (hl : LockedAll H Hl ds) (s : Same Hl H') (h : TellT H' t e) : TellT (unlockAll H H' ds) t e := by
  show (if t ∈ ds then H t else H' t) = _
  rw [if_neg fun hm => by
    obtain ⟨_, _, _, h2⟩ := hl.1 t hm
    have h3 := s _ _ h2
    have h4 : H' t = some (.tup [.int e.1, .int e.2.1, e.2.2]) := h
    rw [h4] at h3
    cases h3]
  exact h
theorem unlock_none {H Hl : Hp} {ds : List Addr} {a : Addr} (hl : LockedAll H Hl ds) (n : Hl a = none) : H a = none := by
  by_cases h : a ∈ ds
  · obtain ⟨_, _, _, h2⟩ := hl.1 a h
    rw [n] at h2
    cases h2
  · rw [← hl.2 a h]
    exact n
def histN (h : Hist) : Nat := (flatH h).length
def spAllTold (C : Addr) : Sp := fun vs H Q _ => ∃ (a : HA), vs = [.ref a.x] ∧ HistAt C H a ∧ histN a.h ≤ 2000 ∧ ∀ (l : Addr) (ts : List Addr) (H' : Hp), H l = none → H' l = some (.lst (ts.map V.ref)) → Paired (TellT H') ts (flatH a.h) → Same H H' → Q (.ref l) H'
end LT
set_option Elab.async false
set_option linter.all false
set_option maxRecDepth 100000
set_option maxHeartbeats 1600000
/-! Own layer: sorted by keys that are tuples, made anew by each call of the key. -/
namespace LT
open PySem PySem.Spec PyProof.Rows L2
/-- what stands in a key -/
def Flt : V → Prop
  | .int _ => True
  | .str _ => True
  | .non => True
  | _ => False
def fltD : V → PyData
  | .int i => .int i
  | .str z => .str z
  | _ => .none
def keyD (ys : List V) : PyData := .tuple (ys.map fltD)
theorem fltD_dp {K : PySem.W.Frag} {H : Hp} {v : V} (h : Flt v) : Dp K H v (fltD v) := by
  cases v with
  | int i => exact .int i
  | str z => exact .str z
  | non => exact .non
  | _ => exact h.elim
theorem fltD_all {K : PySem.W.Frag} {H : Hp} : ∀ {ys : List V}, (∀ y ∈ ys, Flt y) → DpAll K H ys (ys.map fltD)
  | [], _ => .nil
  | y :: ys, h => .cons (fltD_dp (h y (.head _))) (fltD_all fun z hz => h z (.tail _ hz))
theorem fltD_depth : ∀ ys : List V, PyData.depthAll (ys.map fltD) ≤ 1
  | [] => by simp [PyData.depthAll]
  | y :: ys => by
    have := fltD_depth ys
    rw [List.map_cons, PyData.depthAll]
    have h1 : (fltD y).depth ≤ 1 := by cases y <;> simp [fltD, PyData.depth]
    omega
theorem keyD_depth (ys : List V) : (keyD ys).depth ≤ 3 := by
  have := fltD_depth ys
  unfold keyD
  rw [PyData.depth]
  omega
section
variable {X : Cx} {pins : List (Addr × Obj)} {σ : L2.St} {H : Hp} {s : Shared}
theorem sort_keyedT {xs : List V} {us : List Value} {key : V → List V} {f : Value} {g : Heap} {E' : Value → Shared → Prop} {A : Around} {R : PySem.Fin → Shared → Prop} (I : Inv X pins σ H { s with heap := g }) (hv : Vals xs us) (hz : us.length ≤ sizeLine) (hu : A.units + 64 < cLine) (hfl : ∀ v ∈ xs, ∀ y ∈ key v, Flt y)
    (hal : PySem.W.AllAlike (xs.map fun v => keyD (key v))) (hso : PySem.W.Sortable (xs.map fun v => keyD (key v)))
    (turn : ∀ (pins' : List (Addr × Obj)) (H' : Hp) (s' : Shared) (v : V) (u : Value), (∀ p ∈ pins, p ∈ pins') → Same H H' → Inv X pins' σ H' s' → v ∈ xs → RelV v u →
      wpAny (model X.prog X.w) A (call f [u]) (fun z s'' => ∃ T H'', z = .ref T ∧ Same H' H'' ∧ H'' T = some (.tup (key v)) ∧ Inv X pins' σ H'' s'') (fun _ _ => False) s')
    (fin : ∀ s' H', Same H H' → H' g.objs.size = none → Inv X pins σ (upd H' g.objs.size (.lst (xs.mergeSort (PySem.W.dataLe false fun v => keyD (key v))))) s' → R (.done (.ret .none)) s') :
    wpAny (model X.prog X.w) A (ksk_tree g.objs.size f false) R E' { s with heap := g.push (seqObj "list" us.toArray 0) } := by
  have ho : (g.push (seqObj "list" us.toArray 0)).get? g.objs.size = some (seqObj "list" us.toArray 0) := Heap.get?_push_size _ rfl
  obtain ⟨e1, ho1⟩ : ∃ e1, ((g.push (seqObj "list" us.toArray 0)).update g.objs.size (Obj.mapSeq fun _ => (#[] : Array Value))).get? g.objs.size = some (seqObj "list" #[] e1) := ⟨_, get?_update_seq ho fun _ => #[]⟩
  have fa0 : FpOk X pins H g.objs.size := I.fpOk (Nat.le_refl _) (I.hok.fresh (Nat.le_refl _))
  generalize ea : g.objs.size = a at *
  have old : ∀ b u, g.get? b = some u → ((g.push (seqObj "list" us.toArray 0)).update a (Obj.mapSeq fun _ => (#[] : Array Value))).get? b = some u := fun b u e => by
    rw [Heap.get?_update_ne _ _ _ _ (by rw [← ea]; exact Nat.ne_of_lt (Heap.lt_size e))]
    exact Heap.get?_push_of_some _ e
  have hs1 : ((g.push (seqObj "list" us.toArray 0)).update a (Obj.mapSeq fun _ => (#[] : Array Value))).objs.size = a + 1 := by rw [Heap.size_update, size_push', ea]
  unfold ksk_tree
  refine wpAny_bind (listItems_at ho rfl ?_)
  refine wpAny_bind (listUpdate_at ho rfl ?_ (by rw [List.size_toArray]; exact hz) (Nat.zero_le _))
  refine wpAny_bind (seqEpoch_at ho1 rfl ?_)
  refine wpAny_bind (wpAny_newTuple ?_ (by show us.length ≤ _; exact hz))
  refine wpAny_bind (wpAny_newList ?_ (Nat.zero_le _))
  refine wpAny_holding ?_
  generalize eg1 : (g.push (seqObj "list" us.toArray 0)).update a (Obj.mapSeq fun _ => (#[] : Array Value)) = g1 at *
  have hs2 : (g1.push (seqObj "tuple" us.toArray 0)).objs.size = a + 2 := by rw [size_push', hs1]
  have nk : ((g1.push (seqObj "tuple" us.toArray 0)).push (seqObj "list" #[] 0)).get? (a + 2) = some (seqObj "list" #[] 0) := by
    rw [← hs2]
    exact Heap.get?_push_size _ rfl
  have na : ((g1.push (seqObj "tuple" us.toArray 0)).push (seqObj "list" #[] 0)).get? a = some (seqObj "list" #[] e1) := Heap.get?_push_of_some _ (Heap.get?_push_of_some _ ho1)
  have old2 : ∀ b u, g.get? b = some u → ((g1.push (seqObj "tuple" us.toArray 0)).push (seqObj "list" #[] 0)).get? b = some u := fun b u e => Heap.get?_push_of_some _ (Heap.get?_push_of_some _ (old b u e))
  show wpAny (model X.prog X.w) A (ksk_rest a f false us.toArray _ (.ref (g1.push (seqObj "tuple" us.toArray 0)).objs.size)) _ _ _
  rw [hs2]
  generalize (g1.push (seqObj "tuple" us.toArray 0)).push (seqObj "list" #[] 0) = g2 at *
  have I2 : Inv X pins σ H { s with heap := g2 } := by
    have := I.kept (h' := g2) (t' := s.toks) old2
    exact this
  have fk0 : FpOk X pins H (a + 2) := I.fpOk (by show g.objs.size ≤ a + 2; omega) (I.hok.fresh (by show g.objs.size ≤ a + 2; omega))
  have pinA : ∀ {s' : Shared}, Inv X pins σ H s' → s'.heap.get? a = some (seqObj "list" #[] e1) → Inv X ((a, seqObj "list" #[] e1) :: pins) σ H s' := fun {s'} J e => J.pins_of fun p hp => by
    rcases List.mem_cons.mp hp with rfl | hp
    · exact ⟨e, fa0.1, fa0.2.1, fa0.2.2.1, fun v z => nomatch z⟩
    · exact J.pin p (List.mem_append_right _ hp)
  have fk : FpOk X ((a, seqObj "list" #[] e1) :: pins) H (a + 2) := ⟨fk0.1, fk0.2.1, fk0.2.2.1, fk0.2.2.2.1, fk0.2.2.2.2.1, fun p hp => by
    rcases List.mem_append.mp hp with h | h
    · exact fk0.2.2.2.2.2 p (List.mem_append_left _ h)
    · rcases List.mem_cons.mp h with rfl | h
      · show a ≠ a + 2
        omega
      · exact fk0.2.2.2.2.2 p (List.mem_append_right _ h)⟩
  have hlen : us.length = xs.length := hv.length.symm
  unfold ksk_rest
  refine wpAny_bind (wpAny_rule ?_)
  rw [List.forIn_toArray]
  refine wpAny_bind (ksk_fold (fun i s' => ∃ (kA : Array Value) (e : Nat) (Hj : Hp), Same H Hj ∧ Hj (a + 2) = none ∧ Inv X ((a, seqObj "list" #[] e1) :: pins) σ Hj s' ∧ s'.heap.get? (a + 2) = some (seqObj "list" kA e) ∧ PySem.W.EachIs (fun u (v : V) => ∃ T, u = Value.ref T ∧ Hj T = some (.tup (key v))) kA.toList (xs.take i)) us 0 _
    ⟨#[], 0, H, Same.refl _, fk0.1, pinA I2 na, nk, by rw [List.take_zero]; exact .nil⟩ ?step ?done)
  case step =>
    rintro j u s' hj ⟨kA, e, Hj, sHj, nHj, J, nk', hk⟩
    simp only [Nat.zero_add] at hk ⊢
    have fkj : FpOk X ((a, seqObj "list" #[] e1) :: pins) Hj (a + 2) := ⟨nHj, fk.2⟩
    have hjl : j < us.length := (List.getElem?_eq_some_iff.mp hj).1
    obtain ⟨v, hvj⟩ : ∃ v, xs[j]? = some v := ⟨_, List.getElem?_eq_getElem (by omega)⟩
    have r : RelV v u := vals_at hv j hvj hj
    have hzA : kA.size ≤ us.length := by
      have h1 := hk.length
      rw [Array.length_toList, List.length_take] at h1
      omega
    have J2 : Inv X ((a + 2, seqObj "list" kA e) :: (a, seqObj "list" #[] e1) :: pins) σ Hj s' := J.pins_of fun p hp => by
      rcases List.mem_cons.mp hp with rfl | hp
      · exact ⟨nk', fkj.1, fkj.2.1, fkj.2.2.1, fun v z => nomatch z⟩
      · exact J.pin p (List.mem_append_right _ hp)
    refine wpAny_bind (wpAny_attempt (wpAny_mono (turn _ Hj s' v u (fun p hp => .tail _ (.tail _ hp)) sHj J2 (List.mem_of_getElem? hvj) r) (fun z s'' hq => ?_) fun _ _ hF => hF.elim))
    obtain ⟨T, H3, rfl, s3, eT, J3⟩ := hq
    have pk3 := J3.pin (a + 2, seqObj "list" kA e) (List.mem_append_right _ (.head _))
    have n3 : H3 (a + 2) = none := pk3.2.1
    have fk3 : FpOk X ((a, seqObj "list" #[] e1) :: pins) H3 (a + 2) := ⟨n3, fk.2⟩
    have nk3 := (J3.pin (a + 2, seqObj "list" kA e) (List.mem_append_right _ (.head _))).1
    have J4 : Inv X ((a, seqObj "list" #[] e1) :: pins) σ H3 s'' := J3.pins_of fun p hp => J3.pin p (List.mem_append_right _ (.tail _ hp))
    obtain ⟨c2, hc2⟩ : ∃ c2, (s''.heap.update (a + 2) (Obj.mapSeq (·.push (.ref T)))).get? (a + 2) = some (seqObj "list" (kA.push (.ref T)) c2) := ⟨_, get?_update_seq nk3 (·.push (.ref T))⟩
    have sb := Heap.SameBut.update s''.heap (a + 2) (Obj.mapSeq (·.push (.ref T)))
    try dsimp only
    refine wpAny_bind (listUpdate_at nk3 rfl ?_ (Nat.le_trans hzA hz) (Nat.le_trans (Nat.le_of_eq (Array.size_push ..)) (Nat.succ_le_succ (Nat.le_trans hzA hz))))
    have J5 : Inv X ((a, seqObj "list" #[] e1) :: pins) σ H3 { s'' with heap := s''.heap.update (a + 2) (Obj.mapSeq (·.push (.ref T))) } := by
      have := J4.turnedL (h' := s''.heap.update (a + 2) (Obj.mapSeq (·.push (.ref T)))) (t' := s''.toks) (ch := [a + 2]) (fun b o hb q => (sb.2 b fun z => hb (by rw [z]; exact List.mem_singleton.mpr rfl)).trans q) (fun b hb => by rw [List.mem_singleton.mp hb]; exact fk3)
      exact this
    refine wpAny_pure ⟨rfl, kA.push (.ref T), c2, H3, sHj.trans s3, n3, J5, hc2, ?_⟩
    have ek : xs.take (j + 1) = xs.take j ++ [v] := by rw [List.take_add_one, hvj]; rfl
    rw [Array.toList_push, ek]
    refine PySem.W.each_snoc (R := fun (u : Value) (v : V) => ∃ T, u = Value.ref T ∧ H3 T = some (.tup (key v))) ⟨T, rfl, eT⟩ ?_
    have up : ∀ {us : List Value} {ys : List V}, PySem.W.EachIs (fun u (v : V) => ∃ T, u = Value.ref T ∧ Hj T = some (.tup (key v))) us ys → PySem.W.EachIs (fun u (v : V) => ∃ T, u = Value.ref T ∧ H3 T = some (.tup (key v))) us ys := by
      intro us ys h
      induction h with
      | nil => exact .nil
      | cons h _ ih =>
        obtain ⟨T, e1, e2⟩ := h
        exact .cons ⟨T, e1, s3 _ _ e2⟩ ih
    exact up hk
  case done =>
    rintro s' ⟨kA, e, Hj, sHj, nHj, J, nk', hk⟩
    have hk1 : PySem.W.EachIs (fun u (v : V) => ∃ T, u = Value.ref T ∧ Hj T = some (.tup (key v))) kA.toList xs := by
      have e3 : xs.take (0 + us.length) = xs := List.take_of_length_le (by omega)
      rw [e3] at hk
      exact hk
    have hsz : kA.size = us.length := by
      have h1 := hk1.length
      rw [Array.length_toList] at h1
      omega
    have pa := J.pin (a, seqObj "list" #[] e1) (List.mem_append_right _ (.head _))
    have na' := pa.1
    have nHa : Hj a = none := pa.2.1
    have hk2 : PySem.W.EachIs (fun v d => ∃ as, Reads s'.heap v d as) kA.toList (xs.map fun v => keyD (key v)) := by
      have h2 : ∀ (us : List Value) (ys : List V), (∀ v ∈ ys, ∀ y ∈ key v, Flt y) → PySem.W.EachIs (fun u (v : V) => ∃ T, u = Value.ref T ∧ Hj T = some (.tup (key v))) us ys → PySem.W.EachIs (fun v d => ∃ as, Reads s'.heap v d as) us (ys.map fun v => keyD (key v)) := by
        intro us ys hf h
        induction ys generalizing us with
        | nil => cases h; exact .nil
        | cons y ys ih =>
          cases h with
          | cons h t =>
            obtain ⟨T, rfl, eT⟩ := h
            exact .cons (Dp.reads J _ (.ref T) _ (.tup (SqT.of eT) (fltD_all fun z hz => hf y (.head _) z hz)) rfl) (ih _ (fun v hv => hf v (.tail _ hv)) t)
      exact h2 _ _ hfl hk1
    have hdp : ∀ d, d ∈ (xs.map fun v => keyD (key v)) → A.units + d.depth < cLine := fun d hd => by
      obtain ⟨v, _, rfl⟩ := List.mem_map.mp hd
      have := keyD_depth (key v)
      omega
    have sb := Heap.SameBut.update s'.heap (a + 2) fun o => { o with data := .freed }
    have kp : PySem.W.KeepsBut a (s'.heap.update (a + 2) fun o => { o with data := .freed }) s'.heap := fun b o hb q => by
      by_cases hb2 : b = a + 2
      · rw [hb2, freed_get] at q
        cases q
      · exact ((sb.2 b hb2).symm.trans q)
    try dsimp only
    refine wpAny_bind (listItems_at nk' rfl ?_)
    refine PySem.W.keyH_end (κ := PySem.W.dataKind s'.heap (xs.map fun v => keyD (key v))) (h₁ := s'.heap.update (a + 2) fun o => { o with data := .freed }) kp freed_get nk' na' (show a + 2 ≠ a by omega) (PySem.W.SortsAt.data (s := s') hk2 hal hso hdp) hsz hz fun h3 tk3 c k3 n3 => ?_
    have ko : PySem.W.KeyedOut false (xs.map fun v => keyD (key v)) us (PySem.W.sortVals (PySem.W.dataKind s'.heap (xs.map fun v => keyD (key v))) false kA.toList us) := ⟨s'.heap, kA.toList, hal, rfl, hk2⟩
    have hR : PySem.W.EachIs (fun (u : Value) (v : V) => RelV v u) us xs := by
      have h2 : ∀ (xs : List V) (us : List Value), Vals xs us → PySem.W.EachIs (fun (u : Value) (v : V) => RelV v u) us xs := by
        intro xs us h
        induction h with
        | nil => exact .nil
        | cons a _ ih => exact .cons a ih
      exact h2 _ _ hv
    have hO := PySem.W.keyedOut_each (fun v => keyD (key v)) ko hR
    have hV : Vals (xs.mergeSort (PySem.W.dataLe false fun v => keyD (key v))) (PySem.W.sortVals (PySem.W.dataKind s'.heap (xs.map fun v => keyD (key v))) false kA.toList us) := by
      have h2 : ∀ (us : List Value) (xs : List V), PySem.W.EachIs (fun (u : Value) (v : V) => RelV v u) us xs → Vals xs us := by
        intro us xs h
        induction h with
        | nil => exact .nil
        | cons a _ ih => exact .cons a ih
      exact h2 _ _ hO
    have J1 : Inv X pins σ Hj s' := J.pins_of fun p hp => J.pin p (List.mem_append_right _ (.tail _ hp))
    have J6 := J1.turnedL (h' := h3) (t' := tk3) (ch := [a, a + 2]) (fun b o hb q => by
      have n1 : b ≠ a := fun z => hb (by rw [z]; exact .head _)
      have n2 : b ≠ a + 2 := fun z => hb (by rw [z]; exact .tail _ (.head _))
      exact k3 b o n1 ((sb.2 b n2).trans q)) (fun b hb => by
      rcases List.mem_cons.mp hb with rfl | hb
      · exact ⟨nHa, fa0.2⟩
      · rw [List.mem_singleton.mp hb]
        exact ⟨nHj, fk0.2⟩)
    refine fin _ Hj sHj nHa (inv_track J6 ⟨nHa, fa0.2⟩ hV ?_ n3)
    rw [List.length_mergeSort]
    omega
end
end LT
set_option Elab.async false
set_option linter.all false
set_option maxRecDepth 100000
set_option maxHeartbeats 1600000
/-! Own layer: sorted(e, key=lambda x: a new tuple). -/
namespace LT
open PySem PySem.Spec PyProof.Rows L2 LamX
def tSortLamT (K : PySem.W.Frag) (T : List (Addr × Str)) (ta : TA) (tb : TE) : TE := fun σ H Q => ta σ H (oneOf fun z H1 => Tabs T H1 ∧ ∃ (q : Addr) (xs : List V) (key : V → List V), z = .ref q ∧ (SqL K H1 q xs ∨ SqT K H1 q xs) ∧ (∀ v ∈ xs, ∀ y ∈ key v, Flt y) ∧ PySem.W.AllAlike (xs.map fun v => keyD (key v)) ∧ PySem.W.Sortable (xs.map fun v => keyD (key v)) ∧
    ∀ H2, ExtN H1 H2 → Tabs T H2 → (∀ v ∈ xs, ∀ H3, Same H2 H3 → ∀ Q' : VK, (∀ u, H3 u = none → Q' (.ref u) (upd H3 u (.tup (key v)))) → tb (some v :: σ) H3 Q') ∧ ∀ l H3, Same H2 H3 → H3 l = none → Q (.ref l) (upd H3 l (.lst (xs.mergeSort (PySem.W.dataLe false fun v => keyD (key v))))))
section
variable {X : Cx}
/-- sorted(e, key=lambda x: body) -/
theorem pe_sortedLamT {T : List (Addr × Str)} {c P : Addr} {x : Str} {k : Nat} {params : Arguments} {body e : Expr} {scope : Scope} {ta : TA} {tb : TE} {p lpos kpos pos : Pos} (hg : Gl X "sorted") (hm : X.mg "sorted" = none) (ha : PA X [e] ta)
    (hst : X.stack = X.env :: X.outer) (hfr : X.env.frame = some X.env.locals) (TB : TabB X.base X.mg c P) (hcode : X.env.code = .ref c) (hmT : (P, X.env.qual ++ "<lambda>") ∈ T) (hu : ∀ p ∈ T, p.1 = P → p.2 = X.env.qual ++ "<lambda>")
    (L : LamP X.env.scope scope x) (hx : x ∉ X.N) (hdef : defaultsOf params X.env = ([], [])) (hbind : ∀ (q : Str) (cl : List (Str × Addr)) (pm cv ctv u : Value), bindArgs (PySem.W.kla_fn "<lambda>" q params body scope cl pm cv ctv) ⟨[u], []⟩ = pure [(x, u)]) (hr : Room (k + 8) X.A)
    (hbody : ∀ (A : Around) (outer : List Env) (s : Shared) (H : Hp) (f c' : Addr), Room k (A.deeper (lamEnv X scope s.heap.objs.size f c')) → PE (lamCxP noX X A outer s H noE scope f c' x) body tb)
    (hv : bootBuiltins "sorted" = some (.builtin "sorted"))
    (he : backTo pos (starEach [e] X.env) = (false, eval e X.env) :: backTo pos (starEach [] X.env) := by rfl) (hpl : (backTo pos (starEach [e] X.env)).any (·.1) = false := by rfl)  :
    PE X (.Call (.Name "sorted" p) [e] [⟨some "key", .Lambda params body scope lpos, kpos⟩] pos) (tSortLamT X.K T ta tb) := by
  refine ⟨fun pins s σ H Q I h => ?_⟩
  refine wpAny_Call_Name_kw (ld_blt I hg hm hv ?_)
  refine PyProof.Rows.callWith_kw (thn (ha.run pos pins s σ H (oneOf fun z H1 => Tabs T H1 ∧ ∃ (q : Addr) (xs : List V) (key : V → List V), z = .ref q ∧ (SqL X.K H1 q xs ∨ SqT X.K H1 q xs) ∧ (∀ v ∈ xs, ∀ y ∈ key v, Flt y) ∧ PySem.W.AllAlike (xs.map fun v => keyD (key v)) ∧ PySem.W.Sortable (xs.map fun v => keyD (key v)) ∧
    ∀ H2, ExtN H1 H2 → Tabs T H2 → (∀ v ∈ xs, ∀ H3, Same H2 H3 → ∀ Q' : VK, (∀ u, H3 u = none → Q' (.ref u) (upd H3 u (.tup (key v)))) → tb (some v :: σ) H3 Q') ∧ ∀ l H3, Same H2 H3 → H3 l = none → Q (.ref l) (upd H3 l (.lst (xs.mergeSort (PySem.W.dataLe false fun v => keyD (key v)))))) I h) fun us s1 ⟨vs, H1, I1, r1, q1⟩ => ?_) he hpl (by rfl) (by rfl)
  match vs, q1 with
  | [z], q1 =>
  have q1 : Tabs T H1 ∧ ∃ (q : Addr) (xs : List V) (key : V → List V), z = .ref q ∧ (SqL X.K H1 q xs ∨ SqT X.K H1 q xs) ∧ (∀ v ∈ xs, ∀ y ∈ key v, Flt y) ∧ PySem.W.AllAlike (xs.map fun v => keyD (key v)) ∧ PySem.W.Sortable (xs.map fun v => keyD (key v)) ∧
    ∀ H2, ExtN H1 H2 → Tabs T H2 → (∀ v ∈ xs, ∀ H3, Same H2 H3 → ∀ Q' : VK, (∀ u, H3 u = none → Q' (.ref u) (upd H3 u (.tup (key v)))) → tb (some v :: σ) H3 Q') ∧ ∀ l H3, Same H2 H3 → H3 l = none → Q (.ref l) (upd H3 l (.lst (xs.mergeSort (PySem.W.dataLe false fun v => keyD (key v))))) := q1
  show wpAny _ _ (evalAll ((do let v ← eval (.Lambda params body scope lpos) X.env; standAt pos; pure v) :: (backToKw pos (keywordEach [] X.env)).map (·.2))) _ _ s1
  obtain ⟨hT, q, xs, key, rfl, hq, hfl, hal, hso, h2⟩ := q1
  refine wpAny_evalAll_cons (wpAny_bind (lam_make2 I1 TB hcode hmT hu hT hdef (L.has I1.ok) fun f c' pm ctv H2 s2 I2 eN T2 hf hfn hfs hco => wpAny_bind (wpAny_standAt (wpAny_pure ?_))))
  refine wpAny_evalAll_nil ?_
  obtain ⟨hb, hQ⟩ := h2 H2 eN T2
  obtain ⟨n1, n2⟩ := stk_free hst hfr hfs
  have I3 : Inv X ((f, PySem.W.kla_obj "<lambda>" (X.env.qual ++ "<lambda>") params body scope (cloFrom X.env.cells scope.names []) pm c' ctv) :: pins) σ H2 s2 := I2.pins_of fun p hp => by
    rcases List.mem_cons.mp hp with rfl | hp
    · exact ⟨hf, hfn, n1, n2, fun v z => nomatch z⟩
    · exact I2.pin p (List.mem_append_right _ hp)
  cases r1 with
  | cons r1 r0 =>
    cases r0
    cases r1
    show wpAny (model X.prog X.w) X.A (call (.builtin "sorted") [.ref q] [(Str.ofString "key", .ref f)]) _ _ s2
    have seq : ∃ (T : String) (o : Obj) (its : List Value) (n : Nat), (T = "list" ∨ T = "tuple") ∧ s2.heap.get? q = some o ∧ o.cls = .type T ∧ o.data = .seq its.toArray n ∧ Vals xs its ∧ its.length ≤ sizeLine := by
      rcases hq with hq | hq
      · obtain ⟨its, hv, ⟨o, n, e1, e2, _, e4⟩, hl⟩ := I2.list (extN_seqL eN hq)
        exact ⟨"list", o, its, n, .inl rfl, e1, e2, e4, hv, by rw [← hv.length]; exact hl⟩
      · obtain ⟨its, hv, ⟨o, e1, e2, n, e4⟩, hl⟩ := I2.tuple (extN_seqT eN hq)
        exact ⟨"tuple", o, its, n, .inr rfl, e1, e2, e4, hv, by rw [← hv.length]; exact hl⟩
    obtain ⟨T', o, its, n, hT', e1, e2, e3, hvs, hl⟩ := seq
    refine sorted_seq hT' e1 e2 e3 hl (ksk_s1 _ _) (fun _ => ksk_l1 _ _) fun E' g hg => ?_
    rw [ksk_t1]
    have I4 : Inv X ((f, PySem.W.kla_obj "<lambda>" (X.env.qual ++ "<lambda>") params body scope (cloFrom X.env.cells scope.names []) pm c' ctv) :: pins) σ H2 { s2 with heap := g } := by
      have := I3.kept (h' := g) (t' := s2.toks) hg
      exact this
    have hr2 : Room (k + 6) X.A.in1.in1 := hr.in1.in1
    refine sort_keyedT (key := key) I4 hvs hl hr2.units hfl hal hso (fun pins' H' s' v u hp sH J hv r => ?_) fun s' H' sH hn J => ⟨rfl, .ref g.objs.size, _, J.pins_of fun p hp => J.pin p (List.mem_append_right _ (.tail _ hp)), rfl, hQ _ _ sH hn⟩
    have hf' := (J.pin _ (List.mem_append_right _ (hp _ (.head _)))).1
    refine wpAny_call (codeAny_mono (lam_run (CX := noX) (E := noE) (Q := fun z H'' => ∃ u, z = .ref u ∧ H' u = none ∧ H'' = upd H' u (.tup (key v))) (k := k) J L hx (in1_env0 J) Un.refl hf' (sH _ _ hco) (hbind _ _ _ _ _ _) r (hr2.mono (by omega)) (fun hr3 => hbody _ _ _ _ _ _ hr3) (hb v hv H' sH _ fun u hu => ⟨u, rfl, hu, rfl⟩)) fun res s'' hq => ?_)
    match res, hq with
    | .error _, hq => exact hq.elim
    | .ok .next, hq => exact hq.elim
    | .ok .brk, hq => exact hq.elim
    | .ok .cont, hq => exact hq.elim
    | .ok (.ret z), hq =>
      obtain ⟨z', H'', J', rz, u, rfl, hu, rfl⟩ := J.after hq
      cases rz
      exact ⟨u, _, rfl, same_upd hu, upd_same, J'⟩
end
end LT
set_option Elab.async false
set_option linter.all false
set_option maxRecDepth 100000
set_option maxHeartbeats 1600000
/-! Own layer: entries of a book: sorted, one way only. -/
namespace LT
open PySem PySem.Spec PyProof.Rows L2 NdefX
def evKey (e : Evt) : List V := [.str (kindS e.mv), .int e.kn, .str e.who, .int e.day]
def evLe : Evt → Evt → Bool := PySem.W.dataLe false fun e => keyD (evKey e)
theorem evLe_tot : ∀ a b : Evt, (evLe a b || evLe b a) = true := fun a b => Bool.or_eq_true_iff.mpr ((PySem.W.sortLe_total (PyProof.Rows.listOrd PyProof.Rows.itemOrd) false fun e : Evt => PySem.W.keyToks (keyD (evKey e))).total a b)
theorem evLe_tr : ∀ a b c : Evt, evLe a b = true → evLe b c = true → evLe a c = true := fun a b c => (PySem.W.sortLe_total (PyProof.Rows.listOrd PyProof.Rows.itemOrd) false fun e : Evt => PySem.W.keyToks (keyD (evKey e))).trans a b c
theorem kindS_inj {a b : Bool} (h : kindS a = kindS b) : a = b := by
  have := kind_eq a b
  rw [h, decide_eq_true (show V.str (kindS b) = V.str (kindS b) from rfl)] at this
  exact of_decide_eq_true this.symm
def EvSame (a b : Evt) : Prop := a.mv = b.mv ∧ a.kn = b.kn ∧ a.who = b.who ∧ a.day = b.day
theorem toks_inj {a b : Evt} (h : PySem.W.keyToks (keyD (evKey a)) = PySem.W.keyToks (keyD (evKey b))) : EvSame a b := by
  simp [keyD, evKey, fltD, PySem.W.keyToks, PySem.W.keyToksAll] at h
  exact ⟨kindS_inj (str_eq (by rw [h.1])), h.2.1, str_eq (by rw [h.2.2.1]), h.2.2.2⟩
theorem evLe_anti {a b : Evt} (h1 : evLe a b = true) (h2 : evLe b a = true) : EvSame a b := by
  refine toks_inj ((PyProof.Rows.listOrd PyProof.Rows.itemOrd).total _ _ ?_ ?_)
  · unfold evLe at h2
    rw [PySem.W.dataLe_eq] at h2
    have h2 : (!PySem.W.dataLt (keyD (evKey a)) (keyD (evKey b))) = true := h2
    have h2 : PySem.W.dataLt (keyD (evKey a)) (keyD (evKey b)) = false := by simpa using h2
    exact h2
  · unfold evLe at h1
    rw [PySem.W.dataLe_eq] at h1
    have h1 : (!PySem.W.dataLt (keyD (evKey b)) (keyD (evKey a))) = true := h1
    have h1 : PySem.W.dataLt (keyD (evKey b)) (keyD (evKey a)) = false := by simpa using h1
    exact h1
/-- what was told last of a day on a known one -/
def entA (es : List Evt) (mv : Bool) (who : Str) (d kn : Int) : Option V := getA ((getA (histE es mv who) d).getD []) kn
structure IsEnts (es L : List Evt) : Prop where
  up : L.Pairwise fun a b => evLe a b = true
  nd : L.Pairwise fun a b => ¬ EvSame a b
  mem : ∀ e, e ∈ L ↔ entA es e.mv e.who e.day e.kn = some e.w
theorem evt_ext {a b : Evt} (h : EvSame a b) (hw : a.w = b.w) : a = b := by
  obtain ⟨h1, h2, h3, h4⟩ := h
  cases a
  cases b
  simp only at h1 h2 h3 h4 hw
  subst h1 h2 h3 h4 hw
  rfl
theorem IsEnts.nodup {es L : List Evt} (h : IsEnts es L) : L.Nodup := h.nd.imp fun hn e => hn (by rw [e]; exact ⟨rfl, rfl, rfl, rfl⟩)
theorem IsEnts.uniq {es L L' : List Evt} (h : IsEnts es L) (k : IsEnts es L') : L = L' := by
  have p : L.Perm L' := (List.perm_ext_iff_of_nodup h.nodup k.nodup).mpr fun e => (h.mem e).trans (k.mem e).symm
  refine List.Perm.eq_of_pairwise (le := fun a b => evLe a b = true) (fun a b ha hb h1 h2 => ?_) h.up k.up p
  have s := evLe_anti h1 h2
  have ea := (h.mem a).mp ha
  have eb := (k.mem b).mp hb
  rw [s.1, s.2.1, s.2.2.1, s.2.2.2, eb] at ea
  exact evt_ext s (Option.some.inj ea).symm
theorem ents_of {es L : List Evt} (nd : L.Pairwise fun a b => ¬ EvSame a b) (mem : ∀ e, e ∈ L ↔ entA es e.mv e.who e.day e.kn = some e.w) : IsEnts es (L.mergeSort evLe) := by
  have p := List.mergeSort_perm L evLe
  refine ⟨List.pairwise_mergeSort evLe_tr evLe_tot L, ?_, fun e => ?_⟩
  · refine p.symm.pairwise nd fun h s => h ⟨s.1.symm, s.2.1.symm, s.2.2.1.symm, s.2.2.2.symm⟩
  · rw [p.mem_iff]
    exact mem e
/-! ### on the heap -/
def evOfO : Option HO → Evt
  | some (.tup [.str k, .int kn, .str who, .int d, w]) => ⟨decide (k = kindS true), kn, who, d, w⟩
  | _ => ⟨true, 0, Str.empty, 0, .non⟩
def evOfV (H : Hp) : V → Evt
  | .ref t => evOfO (H t)
  | _ => evOfO none
theorem evOf_is {H : Hp} {t : Addr} {e : Evt} (h : EvT H t e) : evOfV H (.ref t) = e := by
  have h : H t = some (.tup [.str (kindS e.mv), .int e.kn, .str e.who, .int e.day, e.w]) := h
  show evOfO (H t) = e
  rw [h]
  obtain ⟨mv, kn, who, d, w⟩ := e
  show (⟨decide (kindS mv = kindS true), kn, who, d, w⟩ : Evt) = _
  have : decide (kindS mv = kindS true) = mv := by cases mv <;> decide +kernel
  rw [this]
theorem ents_sorted {H : Hp} {ts : List Addr} {L : List Evt} (h : Paired (EvT H) ts L) : ∃ ts' : List Addr, (ts.map V.ref).mergeSort (PySem.W.dataLe false fun v => keyD (evKey (evOfV H v))) = ts'.map V.ref ∧ Paired (EvT H) ts' (L.mergeSort evLe) := by
  have eL : (ts.map V.ref).map (evOfV H) = L := by
    induction h with
    | nil => rfl
    | cons r _ ih =>
      rw [List.map_cons, List.map_cons, ih, evOf_is r]
  have all : ∀ v ∈ ts.map V.ref, ∃ t, v = V.ref t ∧ EvT H t (evOfV H v) := fun v hv => by
    obtain ⟨i, hi⟩ := List.getElem?_of_mem hv
    rw [List.getElem?_map, Option.map_eq_some_iff] at hi
    obtain ⟨t, ht, rfl⟩ := hi
    obtain ⟨e, _, r⟩ := paired_get h ht
    exact ⟨t, rfl, by rw [evOf_is r]; exact r⟩
  have em := List.map_mergeSort (r := PySem.W.dataLe false fun v => keyD (evKey (evOfV H v))) (s := evLe) (f := evOfV H) (l := ts.map V.ref) fun a _ b _ => rfl
  rw [eL] at em
  have p := List.mergeSort_perm (ts.map V.ref) (PySem.W.dataLe false fun v => keyD (evKey (evOfV H v)))
  rw [← em]
  generalize (ts.map V.ref).mergeSort (PySem.W.dataLe false fun v => keyD (evKey (evOfV H v))) = M at *
  have all2 : ∀ v ∈ M, ∃ t, v = V.ref t ∧ EvT H t (evOfV H v) := fun v hv => all v (p.mem_iff.mp hv)
  clear em p
  induction M with
  | nil => exact ⟨[], rfl, .nil⟩
  | cons v M ih =>
    obtain ⟨t, rfl, r⟩ := all2 v List.mem_cons_self
    obtain ⟨ts', e1, e2⟩ := ih fun w hw => all2 w (List.mem_cons_of_mem _ hw)
    exact ⟨t :: ts', by rw [e1]; rfl, .cons r e2⟩
theorem alike_ev (a b : Evt) : PySem.W.alike (keyD (evKey a)) (keyD (evKey b)) = true := by
  simp [keyD, evKey, fltD, PySem.W.alike, PySem.W.alikeAll]
/-! ### what the book goes through -/
theorem flatH_mem {h : Hist} {kn d : Int} {w : V} : (kn, d, w) ∈ flatH h ↔ ∃ t, (d, t) ∈ h ∧ (kn, w) ∈ t := by
  unfold flatH
  rw [List.mem_flatMap]
  constructor
  · rintro ⟨p, hp, hm⟩
    obtain ⟨q, hq, e⟩ := List.mem_map.mp hm
    cases e
    exact ⟨p.2, hp, hq⟩
  · rintro ⟨t, ht, hq⟩
    exact ⟨(d, t), ht, List.mem_map.mpr ⟨(kn, w), hq, rfl⟩⟩
theorem entA_mem {es : List Evt} {mv : Bool} {who : Str} {d kn : Int} {w : V} : (kn, d, w) ∈ flatH (histE es mv who) ↔ entA es mv who d kn = some w := by
  rw [flatH_mem]
  have nk := (hist_keys mv who es).1
  unfold entA
  constructor
  · rintro ⟨t, ht, hq⟩
    have e := getA_of_mem nk ht
    rw [e]
    exact getA_of_mem (hist_of mv who es d t e).1 hq
  · intro h
    cases e : getA (histE es mv who) d with
    | none =>
      rw [e] at h
      cases h
    | some t =>
      rw [e] at h
      exact ⟨t, getA_mem e, getA_mem h⟩
theorem entA_ev {es : List Evt} {mv : Bool} {who : Str} {d kn : Int} {w : V} (h : entA es mv who d kn = some w) : ∃ e ∈ es, e.mv = mv ∧ e.who = who := by
  unfold entA at h
  cases e : getA (histE es mv who) d with
  | none =>
    rw [e] at h
    cases h
  | some t =>
    rw [e] at h
    obtain ⟨e', h1, h2, _⟩ := (hist_of mv who es d t e).2.2.2 _ (getA_mem h)
    exact ⟨e', h1, h2⟩
theorem flatH_nd {es : List Evt} {mv : Bool} {who : Str} : (flatH (histE es mv who)).Pairwise fun a b => ¬ (a.1 = b.1 ∧ a.2.1 = b.2.1) := by
  have nk := (hist_keys mv who es).1
  unfold flatH
  rw [List.pairwise_flatMap]
  refine ⟨fun p hp => ?_, ?_⟩
  · have nt := (hist_of mv who es p.1 p.2 (getA_of_mem nk hp)).1
    rw [List.pairwise_map]
    have : p.2.Pairwise fun a b => a.1 ≠ b.1 := List.pairwise_map.mp nt
    exact this.imp fun h e => h e.1
  · have : (histE es mv who).Pairwise fun a b => a.1 ≠ b.1 := List.pairwise_map.mp nk
    refine this.imp fun {a b} h x hx y hy e => h ?_
    obtain ⟨q, _, rfl⟩ := List.mem_map.mp hx
    obtain ⟨r, _, rfl⟩ := List.mem_map.mp hy
    exact e.2
def flatE (mv : Bool) (hs : List (Str × HA)) : List Evt := hs.flatMap fun p => (flatH p.2.h).map fun q => ⟨mv, q.1, p.1, q.2.1, q.2.2⟩
def entL (B : BA) : List Evt := flatE false B.ld ++ flatE true B.mv
theorem flatE_nd {mv : Bool} {es : List Evt} {hs : List (Str × HA)} (nk : (hs.map (·.1)).Nodup) (hh : ∀ p ∈ hs, p.2.h = histE es mv p.1) : (flatE mv hs).Pairwise fun a b => ¬ EvSame a b := by
  unfold flatE
  rw [List.pairwise_flatMap]
  refine ⟨fun p hp => ?_, ?_⟩
  · rw [List.pairwise_map, hh p hp]
    exact flatH_nd.imp fun h e => h ⟨e.2.1, e.2.2.2⟩
  · have : hs.Pairwise fun a b => a.1 ≠ b.1 := List.pairwise_map.mp nk
    refine this.imp fun {a b} h x hx y hy e => h ?_
    obtain ⟨q, _, rfl⟩ := List.mem_map.mp hx
    obtain ⟨r, _, rfl⟩ := List.mem_map.mp hy
    exact e.2.2.1
theorem flatE_mem {mv : Bool} {es : List Evt} {hs : List (Str × HA)} (hh : ∀ p ∈ hs, p.2.h = histE es mv p.1) {e : Evt} : e ∈ flatE mv hs ↔ e.mv = mv ∧ e.who ∈ hs.map (·.1) ∧ entA es e.mv e.who e.day e.kn = some e.w := by
  unfold flatE
  rw [List.mem_flatMap]
  constructor
  · rintro ⟨p, hp, hm⟩
    obtain ⟨⟨kn, d, w⟩, hq, rfl⟩ := List.mem_map.mp hm
    rw [hh p hp] at hq
    exact ⟨rfl, List.mem_map.mpr ⟨p, hp, rfl⟩, entA_mem.mp hq⟩
  · rintro ⟨rfl, hw, h⟩
    obtain ⟨p, hp, ep⟩ := List.mem_map.mp hw
    refine ⟨p, hp, List.mem_map.mpr ⟨(e.kn, e.day, e.w), ?_, ?_⟩⟩
    · rw [hh p hp, ep]
      exact entA_mem.mpr h
    · rw [ep]
theorem entL_is {B : BA} (b : BkP B) : IsEnts B.es ((entL B).mergeSort evLe) := by
  refine ents_of ?_ fun e => ?_
  · unfold entL
    rw [List.pairwise_append]
    refine ⟨flatE_nd b.lk b.hl, flatE_nd (by rw [b.km]; exact b.rk.nd) b.hm, fun x hx y hy s => ?_⟩
    have h1 := ((flatE_mem b.hl).mp hx).1
    have h2 := ((flatE_mem b.hm).mp hy).1
    have := s.1
    rw [h1, h2] at this
    cases this
  · unfold entL
    rw [List.mem_append, flatE_mem b.hl, flatE_mem b.hm]
    constructor
    · rintro (⟨_, _, h⟩ | ⟨_, _, h⟩) <;> exact h
    · intro h
      obtain ⟨e', he, h1, h2⟩ := entA_ev h
      cases hm : e.mv with
      | false => exact .inl ⟨rfl, by rw [← h2]; exact b.ln e' he (by rw [h1, hm]), by rw [hm] at h; exact h⟩
      | true => exact .inr ⟨rfl, by rw [b.km, ← h2]; exact ((b.ev e' he).mw (by rw [h1, hm])).1, by rw [hm] at h; exact h⟩
end LT
set_option Elab.async false
set_option linter.all false
set_option maxRecDepth 100000
set_option maxHeartbeats 1600000
/-! Own layer: a += b of lists; entries of a book, its promise. -/
namespace LT
open PySem PySem.Spec PyProof.Rows L2 NdefX LamX
theorem fillI_list : fillsInplaceSlot (.type "list") "add" (Operator.Add == .Add) = pure false := by
  unfold fillsInplaceSlot
  show (typeLookup (.type "list") (dunderI "add") >>= fun fi => pure (fi.isSome && !isSeqSlot fi)) = pure false
  rw [PySem.F.slot_list_iadd.lookup]
  simp only [pure_bind, show isSeqSlot (some (.builtin "list.__iadd__")) = true by decide +kernel]
  rfl
theorem seqI_list : seqSlot? (.type "list") (dunderI "add") = pure (some (.builtin "list.__iadd__")) := PySem.seqSlot_of PySem.F.slot_list_iadd.lookup (by decide +kernel)
theorem call_iadd {prog : Program} {w : World} {A : Around} {E : Value → Shared → Prop} {s : Shared} {a b : Addr} {xs ys : Array Value} {n m : Nat} {Q : Value → Shared → Prop}
    (ha : s.heap.get? a = some { cls := .type "list", data := .seq xs n }) (hb : s.heap.get? b = some { cls := .type "list", data := .seq ys m }) (hz : xs.size + ys.size ≤ sizeLine)
    (h : Q (.ref a) { s with heap := s.heap.update a (Obj.mapSeq (· ++ ys)) }) : wpAny (model prog w) A (call (.builtin "list.__iadd__") [.ref a, .ref b]) Q E s := by
  have hl : ¬(!xs.isEmpty && Builtin.List.listTooLong (xs.size + ys.size)) = true := extend_door hz
  refine wpAny_call (codeAny_call_builtin PySem.F.slot_list_iadd.plain PySem.F.entry_list_iadd (PySem.F.slot_list_iadd.check _ _ _ _ _ _ _ _ (show s.TypeIs (.ref a) "list" from ⟨_, ha, rfl⟩) (PySem.F.args_list_iadd_2 _ _) ?_))
  show wpAny _ A.in1 (Builtin.List.listExtendWith (.ref a) (.ref b) (.ref a)) _ _ _
  unfold Builtin.List.listExtendWith
  refine wpAny_bind (wpAny_typeOf ⟨_, hb, rfl⟩ ?_)
  have h1 : (Builtin.List.listSameRef (.ref a) (.ref b) || Value.type "list" == Value.type "list" || Value.type "list" == Value.type "tuple") = true := by simp
  simp only [h1, if_true]
  refine wpAny_bind ?_
  unfold Builtin.List.listItems
  refine wpAny_bind (wpAny_seqItems hb rfl (wpAny_pure ?_))
  refine wpAny_bind ?_
  refine wpAny_bind (wpAny_seqItems ha rfl (wpAny_pure ?_))
  rw [if_neg hl]
  show wpAny _ A.in1 (updateSeq a (· ++ ys) >>= fun _ => ret (.ref a)) _ _ s
  refine wpAny_bind (wpAny_updateSeq ha rfl ?_)
  exact wpAny_pure h
theorem iadd_list {prog : Program} {w : World} {A : Around} {E : Value → Shared → Prop} {s : Shared} {a b : Addr} {xs ys : Array Value} {n m : Nat} {Q : Value → Shared → Prop}
    (ha : s.heap.get? a = some { cls := .type "list", data := .seq xs n }) (hb : s.heap.get? b = some { cls := .type "list", data := .seq ys m }) (hz : xs.size + ys.size ≤ sizeLine)
    (h : Q (.ref a) { s with heap := s.heap.update a (Obj.mapSeq (· ++ ys)) }) : wpAny (model prog w) A (inplaceOp .Add (.ref a) (.ref b)) Q E s := by
  unfold inplaceOp
  refine wpAny_holding ?_
  refine wpAny_bind (wpAny_typeOf ⟨_, ha, rfl⟩ (wpAny_bind (wpAny_of_eq fillI_list ?_)))
  show wpAny _ A (if false = true then _ else _) Q E s
  rw [if_neg Bool.false_ne_true]
  refine wpAny_bind (wpAny_binaryOp1_none (nm := "add") ⟨_, ha, rfl⟩ ⟨_, hb, rfl⟩ PySem.noFill_list_add ?_)
  refine wpAny_bind (wpAny_of_eq seqI_list ?_)
  refine wpAny_bind (wpAny_rule ?_)
  exact call_iadd ha hb hz h
def ipCat : TIp := fun x y H Q => ∃ a b xs ys, x = .ref a ∧ y = .ref b ∧ H a = some (.lst xs) ∧ H b = some (.lst ys) ∧ xs.length + ys.length ≤ sizeLine ∧ Q (.ref a) (L2.upd H a (.lst (xs ++ ys)))
theorem ip_cat {X : Cx} : PIp X .Add ipCat := by
  intro pins s σ H x y v u Q I r1 r2 h
  obtain ⟨a, b, xs, ys, rfl, rfl, ha, hb, hz, q⟩ := h
  cases r1
  cases r2
  obtain ⟨z, its, n, r, hl, e⟩ := I.lstM ha
  obtain ⟨z2, its2, n2, r2, hl2, e2⟩ := I.lstM hb
  refine iadd_list e e2 (by rw [List.size_toArray, List.size_toArray]; omega) ?_
  refine ⟨.ref a, _, I.lset (its' := its ++ its2) ha e (by simp) (r.append r2) ?_, rfl, q⟩
  rw [List.length_append]
  omega
theorem flat_ev {es : List Evt} {mv : Bool} {who : Str} {q : Int × Int × V} (h : q ∈ flatH (histE es mv who)) : (⟨mv, q.1, who, q.2.1, q.2.2⟩ : Evt) ∈ es := by
  obtain ⟨kn, d, w⟩ := q
  obtain ⟨t, ht, hq⟩ := flatH_mem.mp h
  have nk := (hist_keys mv who es).1
  obtain ⟨e', h1, ⟨h2, h3⟩, h4, h5, h6⟩ := (hist_of mv who es d t (getA_of_mem nk ht)).2.2.2 _ hq
  obtain ⟨a, b, c, d', w'⟩ := e'
  simp only at h2 h3 h4 h5 h6
  subst h2 h3 h4 h5 h6
  exact h1
theorem flat_le (es : List Evt) (mv : Bool) (who : Str) : (flatH (histE es mv who)).length ≤ es.length := by
  have nd : ((flatH (histE es mv who)).map fun q => (⟨mv, q.1, who, q.2.1, q.2.2⟩ : Evt)).Nodup := by
    show List.Pairwise _ _
    rw [List.pairwise_map]
    refine flatH_nd.imp fun {a b} h e => h ?_
    have e1 := congrArg Evt.kn e
    have e2 := congrArg Evt.day e
    exact ⟨e1, e2⟩
  have := List.Nodup.length_le_of_subset nd (l₂ := es) fun e he => by
    obtain ⟨q, hq, rfl⟩ := List.mem_map.mp he
    exact flat_ev hq
  rwa [List.length_map] at this
theorem entL_le {B : BA} (b : BkP B) : (entL B).length ≤ B.es.length := by
  have I := entL_is b
  have p := List.mergeSort_perm (entL B) evLe
  have nd : (entL B).Nodup := p.nodup_iff.mp I.nodup
  refine List.Nodup.length_le_of_subset nd fun e he => ?_
  unfold entL flatE at he
  rcases List.mem_append.mp he with he | he
  · obtain ⟨x, hx, he⟩ := List.mem_flatMap.mp he
    obtain ⟨q, hq, rfl⟩ := List.mem_map.mp he
    rw [b.hl x hx] at hq
    exact flat_ev hq
  · obtain ⟨x, hx, he⟩ := List.mem_flatMap.mp he
    obtain ⟨q, hq, rfl⟩ := List.mem_map.mp he
    rw [b.hm x hx] at hq
    exact flat_ev hq
theorem flatE_snoc {mv : Bool} {hs : List (Str × HA)} {i : Nat} {e : Str × HA} (he : hs[i]? = some e) : flatE mv (hs.take (i + 1)) = flatE mv (hs.take i) ++ (flatH e.2.h).map fun q => ⟨mv, q.1, e.1, q.2.1, q.2.2⟩ := by
  unfold flatE
  rw [take_snoc he, List.flatMap_append, List.flatMap_cons, List.flatMap_nil, List.append_nil]
theorem flatE_take (mv : Bool) (hs : List (Str × HA)) (i : Nat) : (flatE mv (hs.take i)).length ≤ (flatE mv hs).length := by
  have e : flatE mv hs = flatE mv (hs.take i) ++ flatE mv (hs.drop i) := by
    unfold flatE
    rw [← List.flatMap_append, List.take_append_drop]
  rw [e, List.length_append]
  omega
theorem evT_upd {H : Hp} {p t : Addr} {e : Evt} {o : HO} {xs : List V} (h : EvT H t e) (hp : H p = some (.lst xs)) : EvT (L2.upd H p o) t e := by
  show L2.upd H p o t = _
  rw [upd_ne (ne_of h hp (by intro z; cases z))]
  exact h
theorem paired_cat {α β : Type} {R : α → β → Prop} {xs xs' : List α} {ys ys' : List β} (h : Paired R xs ys) (k : Paired R xs' ys') : Paired R (xs ++ xs') (ys ++ ys') := by
  induction h with
  | nil => exact k
  | cons r _ ih => exact .cons r ih
theorem evT_frz {H : Hp} {p t : Addr} {e : Evt} {o : HO} {od : Obj} {u : HO} (h : EvT H t e) (hp : H p = some (.frz od u)) : EvT (L2.upd H p o) t e := by
  show L2.upd H p o t = _
  rw [upd_ne (ne_of h hp (by intro z; cases z))]
  exact h
theorem evT_dK {H : Hp} {p t : Addr} {e : Evt} {o : HO} {r : List (Key × V)} (h : EvT H t e) (hp : H p = some (.dK r)) : EvT (L2.upd H p o) t e := by
  show L2.upd H p o t = _
  rw [upd_ne (ne_of h hp (by intro z; cases z))]
  exact h
/-- new, but for what tables have grown by -/
def NewN (H : Hp) (a : Addr) : Prop := ∀ o, H a = some o → ∃ ps, o = .tbl ps
theorem newN_of {H H1 : Hp} {a : Addr} (e : ExtN H H1) (n : H1 a = none) : NewN H a := fun o h => by
  cases o with
  | tbl ps => exact ⟨ps, rfl⟩
  | _ =>
    have := e a _ h nofun
    rw [n] at this
    cases this
/-- what entries gives -/
def spEntries (CB CH : Addr) (T : List (Addr × Str)) : Sp := fun vs H Q _ => ∃ (b : Addr) (rk : List (Str × Int)) (es : List Evt) (fp : List Addr), vs = [.ref b] ∧ Bk CB CH H b rk es fp ∧ es.length ≤ 60 ∧ Tabs T H ∧
  ∀ (l : Addr) (ts : List Addr) (L : List Evt) (H' : Hp), NewN H l → ExtN H H' → Tabs T H' → H' l = some (.lst (ts.map V.ref)) → Paired (EvT H') ts L → IsEnts es L → Q (.ref l) H'
end LT
set_option Elab.async false
set_option linter.all false
set_option maxRecDepth 100000
set_option maxHeartbeats 1600000
/-! Own layer: what the top has left of defs and methods that make lambdas. -/
namespace LT
open PySem PySem.Spec PyProof.Rows L2 NdefX LamX
/-- of a def -/
structure LeftLd (K : PySem.W.Frag) (x : Str) (st : Stmt) (f c P : Addr) (oc : Value) (od an : Option Addr) (kV dc pm ct : Value) (sl : Array (Option Value)) (oC : Value) (dC : Option Addr) (vC : Array Value) (sC : Array (Option Value)) : Prop where
  ns : PySem.W.nsIn K mainGlobals x = some (some (.ref f))
  lk : K.lookup f = some ⟨oc, od, .func (PySem.W.fnOf x x (defArgs st) (defBody st) (defScope st) .none kV dc pm an (.ref c) ct), sl⟩
  cd : PySem.W.codeIn K (.ref c) x = true
  kp : PySem.W.keepIn K (.ref f) = true
  lC : K.lookup c = some ⟨oC, dC, .fields vC, sC⟩
  vP : vC[11]? = some (.ref P)
  hd : PySem.W.codeHdIn K c P = true
  nP : K.lookup P = none
theorem LeftLd.fn {K : PySem.W.Frag} {x : Str} {st : Stmt} {f c P : Addr} {oc : Value} {od an : Option Addr} {kV dc pm ct : Value} {sl : Array (Option Value)} {oC : Value} {dC : Option Addr} {vC : Array Value} {sC : Array (Option Value)} (h : LeftLd K x st f c P oc od an kV dc pm ct sl oC dC vC sC) :
    FunC K x x st f c (PySem.W.fnOf x x (defArgs st) (defBody st) (defScope st) .none kV dc pm an (.ref c) ct) := ⟨⟨oc, od, kV, dc, pm, an, ct, sl, rfl, h.lk, h.cd⟩, h.kp⟩
/-- of a method -/
structure LeftLm (K : PySem.W.Frag) (C : Addr) (x q : Str) (st : Stmt) (f c P : Addr) (oc : Value) (od an : Option Addr) (kV dc pm ct : Value) (sl : Array (Option Value)) (oC : Value) (dC : Option Addr) (vC : Array Value) (sC : Array (Option Value)) : Prop where
  at_ : PySem.W.findIn K (.ref C) x = some (some (.ref f))
  lk : K.lookup f = some ⟨oc, od, .func (PySem.W.fnOf x q (defArgs st) (defBody st) (defScope st) .none kV dc pm an (.ref c) ct), sl⟩
  cd : PySem.W.codeIn K (.ref c) q = true
  kp : PySem.W.keepIn K (.ref f) = true
  isf : PySem.W.isFn K (.ref f) = true
  lC : K.lookup c = some ⟨oC, dC, .fields vC, sC⟩
  vP : vC[11]? = some (.ref P)
  hd : PySem.W.codeHdIn K c P = true
  nP : K.lookup P = none
theorem LeftLm.fn {K : PySem.W.Frag} {C : Addr} {x q : Str} {st : Stmt} {f c P : Addr} {oc : Value} {od an : Option Addr} {kV dc pm ct : Value} {sl : Array (Option Value)} {oC : Value} {dC : Option Addr} {vC : Array Value} {sC : Array (Option Value)} (h : LeftLm K C x q st f c P oc od an kV dc pm ct sl oC dC vC sC) :
    FunC K x q st f c (PySem.W.fnOf x q (defArgs st) (defBody st) (defScope st) .none kV dc pm an (.ref c) ct) := ⟨⟨oc, od, kV, dc, pm, an, ct, sl, rfl, h.lk, h.cd⟩, h.kp⟩
theorem LeftLm.me {K : PySem.W.Frag} {C : Addr} {x q : Str} {st : Stmt} {f c P : Addr} {oc : Value} {od an : Option Addr} {kV dc pm ct : Value} {sl : Array (Option Value)} {oC : Value} {dC : Option Addr} {vC : Array Value} {sC : Array (Option Value)} (h : LeftLm K C x q st f c P oc od an kV dc pm ct sl oC dC vC sC) :
    Meth K C x f := ⟨h.at_, h.isf, h.kp⟩
end LT
set_option Elab.async false
set_option linter.all false
set_option maxRecDepth 100000
set_option maxHeartbeats 1600000
/-! Own layer: books where lambdas are made; book_of. -/
namespace LT
open PySem PySem.Spec PyProof.Rows L2 NdefX LamX
/-- neither a table nor a code object -/
def Plain (o : HO) : Prop := (∀ ps, o ≠ .tbl ps) ∧ ∀ c q, o ≠ CodeO c q
theorem plain_ins {C dx : Addr} {fs : List (Str × V)} : Plain (.ins C dx fs) := ⟨nofun, fun c q z => by unfold CodeO at z; cases z⟩
theorem plain_dK {r : List (Key × V)} : Plain (.dK r) := ⟨nofun, fun c q z => by unfold CodeO at z; cases z⟩
theorem plain_lst {xs : List V} : Plain (.lst xs) := ⟨nofun, fun c q z => by unfold CodeO at z; cases z⟩
theorem HistAt.pl {C : Addr} {H : Hp} {a : HA} (h : HistAt C H a) : ∀ c ∈ a.fp, ∀ o, H c = some o → Plain o := by
  intro c hc o e
  rcases List.mem_cons.mp hc with rfl | hc
  · rw [h.ix] at e
    cases e
    exact plain_ins
  rcases List.mem_cons.mp hc with rfl | hc
  · rw [h.bd] at e
    cases e
    exact plain_dK
  obtain ⟨p, hp, rfl⟩ := List.mem_map.mp hc
  obtain ⟨i, hi⟩ := List.getElem?_of_mem hp
  obtain ⟨e', _, _, h2⟩ := paired_get h.ta hi
  rw [h2] at e
  cases e
  exact plain_dK
theorem BkH.pl {CB CH : Addr} {H : Hp} {B : BA} {v : V} (h : BkH CB CH H B v) : ∀ c ∈ B.fp, ∀ o, H c = some o → Plain o := by
  intro c hc o e
  rcases List.mem_cons.mp hc with rfl | hc
  · rw [h.ix] at e
    cases e
    exact plain_ins
  rcases List.mem_cons.mp hc with rfl | hc
  · rw [h.rd] at e
    cases e
    exact plain_dK
  rcases List.mem_cons.mp hc with rfl | hc
  · rw [h.md] at e
    cases e
    exact plain_dK
  rcases List.mem_cons.mp hc with rfl | hc
  · rw [h.ldd] at e
    cases e
    exact plain_dK
  rcases List.mem_append.mp hc with hc | hc
  · obtain ⟨x, hx, hc⟩ := hsfp_mem.mp hc
    exact (h.hm x hx).pl c hc o e
  · obtain ⟨x, hx, hc⟩ := hsfp_mem.mp hc
    exact (h.hl x hx).pl c hc o e
theorem Bk.pl {CB CH : Addr} {H : Hp} {b : Addr} {rk : List (Str × Int)} {es : List Evt} {fp : List Addr} (h : Bk CB CH H b rk es fp) : ∀ c ∈ fp, ∀ o, H c = some o → Plain o := by
  obtain ⟨B, rfl, rfl, rfl, rfl, h1, _⟩ := h
  exact h1.pl
theorem Bk.extN {CB CH : Addr} {H H' : Hp} {b : Addr} {rk : List (Str × Int)} {es : List Evt} {fp : List Addr} (h : Bk CB CH H b rk es fp) (e : ExtN H H') : Bk CB CH H' b rk es fp := h.by fun c hc o x => e c o x (h.pl c hc o x).1
theorem tabs_L {T : List (Addr × Str)} {fp : List Addr} {H H' : Hp} (t : Tabs T H) (hp : ∀ c ∈ fp, ∀ o, H c = some o → Plain o) (s : SameL fp H H') : Tabs T H' := fun x hx => by
  obtain ⟨ps, h1, h2, h3⟩ := t x hx
  refine ⟨ps, s _ _ (fun m => (hp _ m _ h1).1 ps rfl) h1, h2, fun pos cv hc => ?_⟩
  obtain ⟨c, e1, e2⟩ := h3 pos cv hc
  exact ⟨c, e1, s _ _ (fun m => (hp _ m _ e2).2 c x.2 rfl) e2⟩
theorem extN_L {fp : List Addr} {H H1 H2 : Hp} (e : ExtN H H1) (n : ∀ c ∈ fp, NewN H c) (s : SameL fp H1 H2) : ExtN H H2 := fun c o h t => s c o (fun m => by
  obtain ⟨ps, z⟩ := n c m o h
  exact t ps z) (e c o h t)
theorem NewN.back {H H1 : Hp} {c : Addr} (e : ExtN H H1) (n : NewN H1 c) : NewN H c := fun o h => by
  by_cases t : ∃ ps, o = HO.tbl ps
  · exact t
  · exact n o (e c o h fun ps z => t ⟨ps, z⟩)
theorem newN_none {H : Hp} {c : Addr} (h : H c = none) : NewN H c := fun o e => by
  rw [h] at e
  cases e
/-! ### sorted by the known day -/
def knLe (a b : Evt) : Bool := decide (a.kn ≤ b.kn)
theorem kn_sorted {H : Hp} {ts : List Addr} {L : List Evt} (h : Paired (EvT H) ts L) : ∃ ts' : List Addr, (ts.map V.ref).mergeSort (fun a b => decide ((evOfV H a).kn ≤ (evOfV H b).kn)) = ts'.map V.ref ∧ Paired (EvT H) ts' (L.mergeSort knLe) := by
  have eL : (ts.map V.ref).map (evOfV H) = L := by
    induction h with
    | nil => rfl
    | cons r _ ih =>
      rw [List.map_cons, List.map_cons, ih, evOf_is r]
  have all : ∀ v ∈ ts.map V.ref, ∃ t, v = V.ref t ∧ EvT H t (evOfV H v) := fun v hv => by
    obtain ⟨i, hi⟩ := List.getElem?_of_mem hv
    rw [List.getElem?_map, Option.map_eq_some_iff] at hi
    obtain ⟨t, ht, rfl⟩ := hi
    obtain ⟨e, _, r⟩ := paired_get h ht
    exact ⟨t, rfl, by rw [evOf_is r]; exact r⟩
  have em := List.map_mergeSort (r := fun a b => decide ((evOfV H a).kn ≤ (evOfV H b).kn)) (s := knLe) (f := evOfV H) (l := ts.map V.ref) fun a _ b _ => rfl
  rw [eL] at em
  have p := List.mergeSort_perm (ts.map V.ref) (fun a b => decide ((evOfV H a).kn ≤ (evOfV H b).kn))
  rw [← em]
  generalize (ts.map V.ref).mergeSort (fun a b => decide ((evOfV H a).kn ≤ (evOfV H b).kn)) = M at *
  have all2 : ∀ v ∈ M, ∃ t, v = V.ref t ∧ EvT H t (evOfV H v) := fun v hv => all v (p.mem_iff.mp hv)
  clear em p
  induction M with
  | nil => exact ⟨[], rfl, .nil⟩
  | cons v M ih =>
    obtain ⟨t, rfl, r⟩ := all2 v List.mem_cons_self
    obtain ⟨ts', e1, e2⟩ := ih fun w hw => all2 w (List.mem_cons_of_mem _ hw)
    exact ⟨t :: ts', by rw [e1]; rfl, .cons r e2⟩
theorem kn_rising (L : List Evt) : (L.mergeSort knLe).Pairwise fun a b => a.kn ≤ b.kn := by
  have := List.pairwise_mergeSort (le := knLe) (fun a b c h1 h2 => by unfold knLe at *; simp at *; omega) (fun a b => by unfold knLe; simp; omega) L
  exact this.imp fun h => of_decide_eq_true h
/-! ### entries of entries -/
theorem entA_has {mv : Bool} {who : Str} {d kn : Int} : ∀ es : List Evt, (∃ e ∈ es, e.mv = mv ∧ e.who = who ∧ e.day = d ∧ e.kn = kn) → ∃ w, entA es mv who d kn = some w := by
  refine snoc_ind (fun ⟨_, h, _⟩ => nomatch h) fun es e ih h => ?_
  unfold entA
  rw [histE_snoc]
  unfold stepH
  by_cases ho : ofE mv who e = true
  · rw [if_pos ho, getA_note]
    by_cases hd : d = e.day
    · rw [if_pos hd]
      show ∃ w, getA (putA ((getA (histE es mv who) e.day).getD []) e.kn e.w) kn = some w
      rw [getA_put]
      by_cases hk : kn = e.kn
      · rw [if_pos hk]
        exact ⟨_, rfl⟩
      · rw [if_neg hk]
        obtain ⟨x, hx, h1, h2, h3, h4⟩ := h
        rcases List.mem_append.mp hx with hx | hx
        · have := ih ⟨x, hx, h1, h2, h3, h4⟩
          rw [← hd]
          exact this
        · rw [List.mem_singleton.mp hx] at h4
          exact absurd h4.symm hk
    · rw [if_neg hd]
      obtain ⟨x, hx, h1, h2, h3, h4⟩ := h
      rcases List.mem_append.mp hx with hx | hx
      · exact ih ⟨x, hx, h1, h2, h3, h4⟩
      · rw [List.mem_singleton.mp hx] at h3
        exact absurd h3.symm hd
  · rw [if_neg ho]
    obtain ⟨x, hx, h1, h2, h3, h4⟩ := h
    rcases List.mem_append.mp hx with hx | hx
    · exact ih ⟨x, hx, h1, h2, h3, h4⟩
    · rw [List.mem_singleton.mp hx] at h1 h2
      exact absurd (ofE_iff.mpr ⟨h1, h2⟩) ho
theorem entA_in {es : List Evt} {mv : Bool} {who : Str} {d kn : Int} {w : V} (h : entA es mv who d kn = some w) : (⟨mv, kn, who, d, w⟩ : Evt) ∈ es := flat_ev (entA_mem.mpr h)
theorem entA_uniq {es : List Evt} (nd : es.Pairwise fun a b => ¬ EvSame a b) (e : Evt) : e ∈ es ↔ entA es e.mv e.who e.day e.kn = some e.w := by
  constructor
  · intro h
    obtain ⟨w, hw⟩ := entA_has es ⟨e, h, rfl, rfl, rfl, rfl⟩
    have h2 := entA_in hw
    rw [hw]
    by_cases he : e = ⟨e.mv, e.kn, e.who, e.day, w⟩
    · rw [show e.w = w from congrArg Evt.w he]
    · have key : ∀ (l : List Evt), (l.Pairwise fun a b => ¬ EvSame a b) → e ∈ l → (⟨e.mv, e.kn, e.who, e.day, w⟩ : Evt) ∈ l → False := by
        intro l nl h1 h2
        obtain ⟨i, hi⟩ := List.getElem?_of_mem h1
        obtain ⟨j, hj⟩ := List.getElem?_of_mem h2
        have a1 := List.getElem?_eq_some_iff.mp hi
        have a2 := List.getElem?_eq_some_iff.mp hj
        rcases Nat.lt_trichotomy i j with q | q | q
        · have := List.pairwise_iff_getElem.mp nl i j a1.1 a2.1 q
          rw [a1.2, a2.2] at this
          exact this ⟨rfl, rfl, rfl, rfl⟩
        · subst q
          rw [hi] at hj
          exact he (Option.some.inj hj)
        · have := List.pairwise_iff_getElem.mp nl j i a2.1 a1.1 q
          rw [a1.2, a2.2] at this
          exact this ⟨rfl, rfl, rfl, rfl⟩
      exact (key es nd h h2).elim
  · intro h
    have := entA_in h
    exact this
theorem IsEnts.sub {es L : List Evt} (h : IsEnts es L) : ∀ e ∈ L, e ∈ es := fun e he => entA_in ((h.mem e).mp he)
theorem IsEnts.len {es L : List Evt} (h : IsEnts es L) : L.length ≤ es.length := List.Nodup.length_le_of_subset h.nodup fun e he => h.sub e he
/-- told anew by the known days, the entries are the same -/
theorem IsEnts.again {es L : List Evt} (h : IsEnts es L) : IsEnts (L.mergeSort knLe) L := by
  have p := List.mergeSort_perm L knLe
  have nd : (L.mergeSort knLe).Pairwise fun a b => ¬ EvSame a b := p.symm.pairwise h.nd fun h s => h ⟨s.1.symm, s.2.1.symm, s.2.2.1.symm, s.2.2.2.symm⟩
  exact ⟨h.up, h.nd, fun e => p.mem_iff.symm.trans (entA_uniq nd e)⟩
/-- the book of ranks and entries -/
def spBookOf (CB CH : Addr) (T : List (Addr × Str)) : Sp := fun vs H Q _ => ∃ (r l : Addr) (rk : List (Str × Int)) (ts : List Addr) (L : List Evt), vs = [.ref r, .ref l] ∧ H r = some (.dK (sd rk)) ∧ Rk rk ∧ H l = some (.lst (ts.map V.ref)) ∧ Paired (EvT H) ts L ∧ (∀ e ∈ L, EvOK rk e) ∧ L.length ≤ 60 ∧ Tabs T H ∧
  ∀ (b : Addr) (fp : List Addr) (H' : Hp), Bk CB CH H' b rk (L.mergeSort knLe) fp → (∀ c ∈ fp, NewN H c) → ExtN H H' → Tabs T H' → Q (.ref b) H'
def spLen (CB CH : Addr) (T : List (Addr × Str)) : Sp := fun vs H Q _ => ∃ (b : Addr) (rk : List (Str × Int)) (es : List Evt) (fp : List Addr), vs = [.ref b] ∧ Bk CB CH H b rk es fp ∧ es.length ≤ 60 ∧ Tabs T H ∧
  ∀ (L : List Evt) (H' : Hp), IsEnts es L → ExtN H H' → Tabs T H' → Q (.int (L.length : Nat)) H'
def spTwin (CB CH : Addr) (T : List (Addr × Str)) : Sp := fun vs H Q _ => ∃ (b : Addr) (rk : List (Str × Int)) (es : List Evt) (fp : List Addr), vs = [.ref b] ∧ Bk CB CH H b rk es fp ∧ es.length ≤ 60 ∧ Tabs T H ∧
  ∀ (L : List Evt) (b2 : Addr) (fp2 : List Addr) (H' : Hp), IsEnts es L → Bk CB CH H' b2 rk (L.mergeSort knLe) fp2 → (∀ c ∈ fp2, NewN H c) → ExtN H H' → Tabs T H' → Q (.ref b2) H'
def spLastKn (CB CH : Addr) : Sp := fun vs H Q _ => ∃ (b : Addr) (rk : List (Str × Int)) (es : List Evt) (fp : List Addr), vs = [.ref b] ∧ Bk CB CH H b rk es fp ∧ Q (lateV es) H
end LT
set_option Elab.async false
set_option linter.all false
set_option maxRecDepth 100000
/-! Own layer: runs of what was told, a day more than once with the same. -/
namespace LT
open PySem PySem.Spec PyProof.Rows L2 NdefX
def dd : List (Int × V) → List (Int × V)
  | [] => []
  | [a] => [a]
  | a :: b :: r => if a = b then dd (b :: r) else a :: dd (b :: r)
end LT
set_option Elab.async false
set_option linter.all false
set_option maxRecDepth 100000
/-! Own layer: runs by marks, any function of days. -/
namespace LT
open PySem PySem.Spec PyProof.Rows L2 NdefX
def elseV (g1 g2 : Int → V) (d : Int) : V := .bl (!decide (g1 d = g2 d))
end LT
set_option Elab.async false
set_option linter.all false
set_option maxRecDepth 100000
/-! Own layer: the runs that are true, as days told one way only. -/
namespace LT
open PySem PySem.Spec PyProof.Rows L2 NdefX
theorem ins_nil {d : Int} : ¬ LD.Ins [] d := fun ⟨_, h, _⟩ => nomatch h
end LT
set_option Elab.async false
set_option linter.all false
set_option maxRecDepth 100000
/-! Own layer: days told mark by mark, the last row grown where it ends the day before. -/
namespace LT
open PySem PySem.Spec PyProof.Rows L2 NdefX
def lastJ (F : List LD.Row) : Option Int := F.getLast?.bind (·.2)
def stepU (g : Int → V) (F : List LD.Row) (m : Int) (x : Option Int) : List LD.Row :=
  if g m = .bl true then (if lastJ F = some (m - 1) then F.dropLast ++ [((F.getLast?.map (·.1)).getD 0, x.map (· - 1))] else F ++ [(m, x.map (· - 1))]) else F
structure UI (g : Int → V) (F : List LD.Row) (m : Int) : Prop where
  asc : LD.Asc F
  top : ∀ r ∈ F, ∃ j, r.2 = some j ∧ j < m
  ins : ∀ d, LD.Ins F d ↔ 0 ≤ d ∧ d < m ∧ g d = .bl true
theorem ins_app {F G : List LD.Row} {d : Int} : LD.Ins (F ++ G) d ↔ LD.Ins F d ∨ LD.Ins G d := by
  constructor
  · rintro ⟨r, hr, h⟩
    exact (List.mem_append.mp hr).imp (fun q => ⟨r, q, h⟩) fun q => ⟨r, q, h⟩
  · rintro (⟨r, hr, h⟩ | ⟨r, hr, h⟩)
    · exact ⟨r, List.mem_append_left _ hr, h⟩
    · exact ⟨r, List.mem_append_right _ hr, h⟩
theorem ins_one {r : LD.Row} {d : Int} : LD.Ins [r] d ↔ r.1 ≤ d ∧ ∀ j, r.2 = some j → d ≤ j := by
  constructor
  · rintro ⟨s, hs, h⟩
    rw [List.mem_singleton.mp hs] at h
    exact h
  · exact fun h => ⟨r, List.mem_cons_self, h⟩
theorem map_pred {x : Option Int} {j : Int} (h : x.map (· - 1) = some j) : ∃ b, x = some b ∧ j = b - 1 := by
  cases x with
  | none => cases h
  | some b => exact ⟨b, rfl, (Option.some.inj h).symm⟩
theorem stepU_ok {g : Int → V} {F : List LD.Row} {m : Int} {x : Option Int} (h : UI g F m) (m0 : 0 ≤ m) (hx : ∀ b, x = some b → m < b) (same : ∀ d, m ≤ d → (∀ b, x = some b → d < b) → g d = g m) :
    LD.Asc (stepU g F m x) ∧ (∀ b, x = some b → ∀ r ∈ stepU g F m x, ∃ j, r.2 = some j ∧ j < b) ∧ ∀ d, LD.Ins (stepU g F m x) d ↔ 0 ≤ d ∧ (∀ b, x = some b → d < b) ∧ g d = .bl true := by
  have low : ∀ d, d < m → ∀ b, x = some b → d < b := fun d hd b hb => by
    have := hx b hb
    omega
  unfold stepU
  by_cases hg : g m = .bl true
  · rw [if_pos hg]
    have new : ∀ (d : Int), (m ≤ d ∧ ∀ j, x.map (· - 1) = some j → d ≤ j) ↔ (m ≤ d ∧ ∀ b, x = some b → d < b) := fun d => by
      refine and_congr_right fun _ => ⟨fun k b hb => ?_, fun k j hj => ?_⟩
      · have := k (b - 1) (by rw [hb]; rfl)
        omega
      · obtain ⟨b, hb, rfl⟩ := map_pred hj
        have := k b hb
        omega
    by_cases hl : lastJ F = some (m - 1)
    · rw [if_pos hl]
      have hne : F ≠ [] := fun e => by
        rw [e] at hl
        cases hl
      obtain ⟨B, p, rfl⟩ : ∃ B p, F = B ++ [p] := ⟨F.dropLast, F.getLast hne, (List.dropLast_concat_getLast hne).symm⟩
      obtain ⟨a, y⟩ := p
      have hy : y = some (m - 1) := by
        unfold lastJ at hl
        rw [List.getLast?_concat] at hl
        exact hl
      subst hy
      rw [List.dropLast_concat, List.getLast?_concat]
      show LD.Asc (B ++ [(a, x.map (· - 1))]) ∧ (∀ b, x = some b → ∀ r ∈ B ++ [(a, x.map (· - 1))], ∃ j, r.2 = some j ∧ j < b) ∧ ∀ d, LD.Ins (B ++ [(a, x.map (· - 1))]) d ↔ _
      have pw := List.pairwise_append.mp h.asc.pw
      have oka := h.asc.ok (a, some (m - 1)) (List.mem_append_right _ List.mem_cons_self)
      have am : a ≤ m - 1 := oka.2 _ rfl
      have a0 : 0 ≤ a := oka.1
      refine ⟨⟨fun r hr => ?_, List.pairwise_append.mpr ⟨pw.1, List.pairwise_singleton _ _, fun r hr s hs => ?_⟩⟩, fun b hb r hr => ?_, fun d => ?_⟩
      · rcases List.mem_append.mp hr with hr | hr
        · exact h.asc.ok r (List.mem_append_left _ hr)
        · rw [List.mem_singleton.mp hr]
          refine ⟨a0, fun j hj => ?_⟩
          obtain ⟨b, hb, rfl⟩ := map_pred hj
          have := hx b hb
          show a ≤ b - 1
          omega
      · rw [List.mem_singleton.mp hs]
        exact pw.2.2 r hr (a, some (m - 1)) List.mem_cons_self
      · rcases List.mem_append.mp hr with hr | hr
        · obtain ⟨j, h1, h2⟩ := h.top r (List.mem_append_left _ hr)
          exact ⟨j, h1, low j h2 b hb⟩
        · rw [List.mem_singleton.mp hr]
          exact ⟨b - 1, by rw [hb]; rfl, by omega⟩
      · have hi := h.ins d
        rw [ins_app, ins_one] at hi ⊢
        by_cases hd : d < m
        · rw [show (0 ≤ d ∧ (∀ b, x = some b → d < b) ∧ g d = .bl true) ↔ (0 ≤ d ∧ d < m ∧ g d = .bl true) from ⟨fun k => ⟨k.1, hd, k.2.2⟩, fun k => ⟨k.1, low d hd, k.2.2⟩⟩, ← hi]
          refine or_congr_right (and_congr_right fun _ => ⟨fun _ j hj => ?_, fun _ j hj => ?_⟩)
          · have : m - 1 = j := Option.some.inj hj
            omega
          · obtain ⟨b, hb, rfl⟩ := map_pred hj
            have := hx b hb
            omega
        · have nB : ¬ LD.Ins B d := fun ⟨r, hr, q⟩ => by
            obtain ⟨j, h1, h2⟩ := h.top r (List.mem_append_left _ hr)
            have := q.2 j h1
            omega
          have nw := new d
          constructor
          · rintro (q | q)
            · exact absurd q nB
            · have k := nw.mp ⟨by omega, q.2⟩
              exact ⟨by omega, k.2, (same d (by omega) k.2).trans hg⟩
          · rintro ⟨k0, k1, _⟩
            exact .inr ⟨by show a ≤ d; omega, (nw.mpr ⟨by omega, k1⟩).2⟩
    · rw [if_neg hl]
      have far : ∀ r ∈ F, ∃ j, r.2 = some j ∧ j + 1 < m := fun r hr => by
        have hne : F ≠ [] := fun e => by
          rw [e] at hr
          cases hr
        obtain ⟨B, p, rfl⟩ : ∃ B p, F = B ++ [p] := ⟨F.dropLast, F.getLast hne, (List.dropLast_concat_getLast hne).symm⟩
        obtain ⟨jp, e1, e2⟩ := h.top p (List.mem_append_right _ List.mem_cons_self)
        have nl : jp ≠ m - 1 := fun e => hl (by
          unfold lastJ
          rw [List.getLast?_concat, ← e]
          exact e1)
        rcases List.mem_append.mp hr with hr | hr
        · obtain ⟨j, k1, k2⟩ := (List.pairwise_append.mp h.asc.pw).2.2 r hr p List.mem_cons_self
          have := (h.asc.ok p (List.mem_append_right _ List.mem_cons_self)).2 jp e1
          exact ⟨j, k1, by omega⟩
        · rw [List.mem_singleton.mp hr]
          exact ⟨jp, e1, by omega⟩
      refine ⟨⟨fun r hr => ?_, List.pairwise_append.mpr ⟨h.asc.pw, List.pairwise_singleton _ _, fun r hr s hs => ?_⟩⟩, fun b hb r hr => ?_, fun d => ?_⟩
      · rcases List.mem_append.mp hr with hr | hr
        · exact h.asc.ok r hr
        · rw [List.mem_singleton.mp hr]
          refine ⟨m0, fun j hj => ?_⟩
          obtain ⟨b, hb, rfl⟩ := map_pred hj
          have := hx b hb
          show m ≤ b - 1
          omega
      · rw [List.mem_singleton.mp hs]
        exact far r hr
      · rcases List.mem_append.mp hr with hr | hr
        · obtain ⟨j, h1, h2⟩ := h.top r hr
          exact ⟨j, h1, low j h2 b hb⟩
        · rw [List.mem_singleton.mp hr]
          exact ⟨b - 1, by rw [hb]; rfl, by omega⟩
      · rw [ins_app, ins_one, h.ins d]
        have nw := new d
        constructor
        · rintro (q | q)
          · exact ⟨q.1, low d q.2.1, q.2.2⟩
          · have k := nw.mp q
            exact ⟨by omega, k.2, (same d k.1 k.2).trans hg⟩
        · rintro ⟨k0, k1, k2⟩
          by_cases hd : d < m
          · exact .inl ⟨k0, hd, k2⟩
          · exact .inr (nw.mpr ⟨by omega, k1⟩)
  · rw [if_neg hg]
    refine ⟨h.asc, fun b hb r hr => ?_, fun d => ?_⟩
    · obtain ⟨j, h1, h2⟩ := h.top r hr
      exact ⟨j, h1, low j h2 b hb⟩
    · rw [h.ins d]
      constructor
      · exact fun q => ⟨q.1, low d q.2.1, q.2.2⟩
      · rintro ⟨k0, k1, k2⟩
        by_cases hd : d < m
        · exact ⟨k0, hd, k2⟩
        · exact absurd ((same d (by omega) k1).symm.trans k2) hg
end LT
set_option Elab.async false
set_option linter.all false
set_option maxRecDepth 100000
/-! Own layer: texts sorted, one way only. -/
namespace LT
open PySem PySem.Spec PyProof.Rows
end LT
set_option Elab.async false
set_option linter.all false
set_option maxRecDepth 100000
set_option maxHeartbeats 1600000
/-! Own layer: what is changed between two known days. -/
namespace LT
open PySem PySem.Spec PyProof.Rows L2 NdefX
theorem elseV_true {g1 g2 : Int → V} {d : Int} : elseV g1 g2 d = .bl true ↔ g1 d ≠ g2 d := by
  unfold elseV
  by_cases h : g1 d = g2 d
  · rw [decide_eq_true h]
    exact ⟨(fun k => by cases k), fun k => absurd h k⟩
  · rw [decide_eq_false h]
    exact ⟨fun _ => h, fun _ => rfl⟩
/-- the days on which two are unlike, told one way only -/
structure IsElse (g1 g2 : Int → V) (rows : List LD.Row) : Prop where
  asc : LD.Asc rows
  ins : ∀ d, LD.Ins rows d ↔ 0 ≤ d ∧ g1 d ≠ g2 d
theorem IsElse.uniq {g1 g2 : Int → V} {r s : List LD.Row} (a : IsElse g1 g2 r) (b : IsElse g1 g2 s) : r = s := LD.asc_uniq a.asc b.asc fun d => (a.ins d).trans (b.ins d).symm
open Classical in
noncomputable def elseR (g1 g2 : Int → V) : List LD.Row := if h : ∃ r, IsElse g1 g2 r then Classical.choose h else []
theorem IsElse.eq {g1 g2 : Int → V} {r : List LD.Row} (h : IsElse g1 g2 r) : r = elseR g1 g2 := by
  have e : ∃ r, IsElse g1 g2 r := ⟨r, h⟩
  unfold elseR
  rw [dif_pos e]
  exact h.uniq (Classical.choose_spec e)
/-! ### the law's own way: mark by mark -/
structure UInv (g : Int → V) (ms : List Int) (i : Nat) (F : List LD.Row) : Prop where
  asc : LD.Asc F
  top : ∀ b, ms[i]? = some b → ∀ r ∈ F, ∃ j, r.2 = some j ∧ j < b
  ins : ∀ d, LD.Ins F d ↔ 0 ≤ d ∧ (∀ b, ms[i]? = some b → d < b) ∧ g d = .bl true
theorem UInv.nil {g : Int → V} {ms : List Int} (h : ms[0]? = some 0) : UInv g ms 0 [] := ⟨⟨(fun r hr => by cases hr), List.Pairwise.nil⟩, (fun b hb r hr => by cases hr), fun d => ⟨fun k => absurd k ins_nil, fun ⟨d0, k, _⟩ => by
  have := k 0 h
  omega⟩⟩
theorem mark_gap {ms : List Int} (up : ms.Pairwise (· < ·)) {i : Nat} {m : Int} (hm : ms[i]? = some m) {d : Int} (nx : ∀ b, ms[i + 1]? = some b → d < b) {o : Int} (mo : m < o) (od : o ≤ d) : o ∉ ms := fun ho => by
  obtain ⟨j, hj⟩ := List.getElem?_of_mem ho
  obtain ⟨il, ei⟩ := List.getElem?_eq_some_iff.mp hm
  obtain ⟨jl, ej⟩ := List.getElem?_eq_some_iff.mp hj
  rcases Nat.lt_trichotomy j i with h | h | h
  · have := List.pairwise_iff_getElem.mp up j i jl il h
    omega
  · subst h
    omega
  · by_cases e : j = i + 1
    · subst e
      have := nx o hj
      omega
    · have l1 : i + 1 < ms.length := by omega
      have := List.pairwise_iff_getElem.mp up (i + 1) j l1 jl (by omega)
      have := nx _ (List.getElem?_eq_getElem l1)
      omega
theorem UInv.step {g : Int → V} {ms : List Int} {i : Nat} {F : List LD.Row} {m : Int} (h : UInv g ms i F) (up : ms.Pairwise (· < ·)) (nn : ∀ d ∈ ms, 0 ≤ d) (hm : ms[i]? = some m) (same : ∀ d, m ≤ d → (∀ o, m < o → o ≤ d → o ∉ ms) → g d = g m) :
    UInv g ms (i + 1) (stepU g F m (ms[i + 1]?)) := by
  have U : UI g F m := ⟨h.asc, h.top m hm, fun d => (h.ins d).trans ⟨fun k => ⟨k.1, k.2.1 m hm, k.2.2⟩, fun k => ⟨k.1, fun b hb => by rw [hm] at hb; cases hb; exact k.2.1, k.2.2⟩⟩⟩
  obtain ⟨a, b, c⟩ := stepU_ok (x := ms[i + 1]?) U (nn m (List.mem_of_getElem? hm)) (fun b hb => by
    obtain ⟨il, ei⟩ := List.getElem?_eq_some_iff.mp hm
    obtain ⟨jl, ej⟩ := List.getElem?_eq_some_iff.mp hb
    have := List.pairwise_iff_getElem.mp up i (i + 1) il jl (by omega)
    omega) fun d hd nx => same d hd fun o mo od => mark_gap up hm nx mo od
  exact ⟨a, b, c⟩
theorem UInv.done {g1 g2 : Int → V} {ms : List Int} {F : List LD.Row} (h : UInv (elseV g1 g2) ms ms.length F) : IsElse g1 g2 F :=
  ⟨h.asc, fun d => (h.ins d).trans ⟨fun k => ⟨k.1, elseV_true.mp k.2.2⟩, fun k => ⟨k.1, (fun b hb => by rw [List.getElem?_eq_none (Nat.le_refl _)] at hb; cases hb), elseV_true.mpr k.2⟩⟩⟩
/-! ### rows and changes on the heap -/
def RowsR (H : Hp) (us : List Addr) (F : List LD.Row) : Prop := Paired (fun t (r : LD.Row) => H t = some (.tup [.int r.1, knV r.2])) us F
theorem RowsR.mono {H H' : Hp} {us : List Addr} {F : List LD.Row} (h : RowsR H us F) (s : Same H H') : RowsR H' us F := paired_imp (fun _ _ h => s _ _ h) h
theorem RowsR.upd {H : Hp} {us : List Addr} {B : List LD.Row} {F : Addr} {xs : List V} {o : HO} (h : RowsR H us B) (e : H F = some (.lst xs)) : RowsR (L2.upd H F o) us B := paired_imp (fun t p h => by rw [upd_ne (ne_of h e (by intro z; cases z))]; exact h) h
abbrev Chg := Str × List LD.Row
def ChT (CS : Addr) (H : Hp) (c : Addr × Addr) (e : Chg) : Prop := H c.1 = some (.tup [.str e.1, .ref c.2]) ∧ PartsAt CS H c.2 e.2
theorem ChT.mono {CS : Addr} {H H' : Hp} {c : Addr × Addr} {e : Chg} (h : ChT CS H c e) (s : Same H H') : ChT CS H' c e := ⟨s _ _ h.1, h.2.mono s⟩
theorem PartsAt.upd {CS : Addr} {H : Hp} {l F : Addr} {ps : List Part} {xs : List V} {o : HO} (h : PartsAt CS H l ps) (e : H F = some (.lst xs)) (n : l ≠ F) : PartsAt CS (L2.upd H F o) l ps := by
  obtain ⟨ts, a, b⟩ := h
  exact ⟨ts, by rw [upd_ne n]; exact a, paired_imp (fun _ _ h => h.upd e) b⟩
theorem ChT.upd {CS : Addr} {H : Hp} {F : Addr} {c : Addr × Addr} {e : Chg} {xs : List V} {o : HO} (h : ChT CS H c e) (eF : H F = some (.lst xs)) (n : c.2 ≠ F) : ChT CS (L2.upd H F o) c e :=
  ⟨by rw [upd_ne (ne_of h.1 eF (by intro z; cases z))]; exact h.1, h.2.upd eF n⟩
structure ChsAt (CS : Addr) (H : Hp) (T : Addr) (cs : List (Addr × Addr)) (chs : List Chg) : Prop where
  hT : H T = some (.lst ((cs.map (·.1)).map V.ref))
  hc : Paired (ChT CS H) cs chs
theorem ChsAt.mono {CS : Addr} {H H' : Hp} {T : Addr} {cs : List (Addr × Addr)} {chs : List Chg} (h : ChsAt CS H T cs chs) (s : Same H H') : ChsAt CS H' T cs chs := ⟨s _ _ h.hT, paired_imp (fun _ _ h => h.mono s) h.hc⟩
/-! ### rows by marks -/
/-! ### how changes show and compare -/
def Parts3 (CS : Addr) (H : Hp) (l : Addr) (ps : List Part) : Prop := ∃ xs : List Addr, H l = some (.lst (xs.map V.ref ++ [V.int 3])) ∧ Paired (fun x (p : Part) => StrAt CS H x p.1 p.2) xs ps
theorem Parts3.mono {CS : Addr} {H H' : Hp} {l : Addr} {ps : List Part} (h : Parts3 CS H l ps) (s : Same H H') : Parts3 CS H' l ps := by
  obtain ⟨ts, a, b⟩ := h
  exact ⟨ts, s _ _ a, paired_imp (fun _ _ h => h.mono s) b⟩
theorem nm_repr {z : Str} (h : Nm z) : (reprText z).length ≤ 82 := by
  have h1 := StrLaws.reprText_len z fun c hc => by
    have := h.al c hc
    unfold small at this
    simp at this
    omega
  have := h.l8
  omega
end LT
set_option Elab.async false
set_option linter.all false
set_option maxRecDepth 100000
set_option maxHeartbeats 1600000
/-! Own layer: turns as a law finds them; two books where lambdas are made. -/
namespace LT
open PySem PySem.Spec PyProof.Rows L2 NdefX LamX
def RowW (H : Hp) (t : Addr) (r : Run) : Prop := H t = some (.tup [r.1, .int r.2.1, knV r.2.2])
def RowsW (H : Hp) (l : Addr) (rs : List Run) : Prop := ∃ ts : List Addr, H l = some (.lst (ts.map V.ref)) ∧ Paired (RowW H) ts rs
theorem RowsW.mono {H H' : Hp} {l : Addr} {rs : List Run} (h : RowsW H l rs) (s : Same H H') : RowsW H' l rs := by
  obtain ⟨ts, a, b⟩ := h
  exact ⟨ts, s _ _ a, paired_imp (fun _ _ k => s _ _ k) b⟩
/-! ### how turns show -/
theorem pl_repr {y : Str} (h : Pl y) : (reprText y).length ≤ 82 := by
  rcases h with rfl | h
  · decide +kernel
  · exact nm_repr h
end LT
set_option Elab.async false
set_option linter.all false
set_option maxRecDepth 100000
set_option maxHeartbeats 1600000
/-! Own layer: two books (or one) looked at where lambdas are made; lists of entries held against one another. -/
namespace LT
open PySem PySem.Spec PyProof.Rows L2 NdefX LamX
theorem ho_extN {M : List Addr} {H H' : Hp} (e : ExtN H H') : ExtN (Ho M H) (Ho M H') := fun a o h t => ho_in (ho_iff.mp h).1 (e a o (ho_iff.mp h).2 t)
theorem LastOK.extN {H H' : Hp} {la : Addr} {rk : List (Str × Int)} (h : LastOK H la rk) (e : ExtN H H') : LastOK H' la rk := by
  obtain ⟨o, a, b⟩ := h
  refine ⟨o, ?_, b⟩
  cases o with
  | none => exact e _ _ a nofun
  | some x =>
    obtain ⟨t, a1, a2⟩ := a
    exact ⟨t, e _ _ a1 nofun, e _ _ a2 nofun⟩
theorem evT_extN {H H' : Hp} {t : Addr} {x : Evt} (e : ExtN H H') (h : EvT H t x) : EvT H' t x := e t (.tup [.str (kindS x.mv), .int x.kn, .str x.who, .int x.day, x.w]) h nofun
theorem ClAt.extN {CB CH : Addr} {H H' Hi Hi' : Hp} {c : Cl} (h : ClAt CB CH H Hi c) (e : ExtN H H') (ei : ExtN Hi Hi') : ClAt CB CH H' Hi' c := by
  obtain ⟨ts, e1, e2⟩ := h.ev
  exact ⟨e _ _ h.hP nofun, ⟨ei _ _ h.hI.hn nofun, ei _ _ h.hI.hr nofun, ei _ _ h.hI.hl nofun⟩, h.hG, h.k0, h.la.extN ei, ⟨ts, e _ _ e1 nofun, paired_imp (fun _ _ k => evT_extN ei k) e2⟩, h.bk.extN e, h.kl, h.nPE, h.nPf, h.nEf⟩
theorem pot_extN {H H' : Hp} {p : Addr} (h : Pot H p) (e : ExtN H H') : Pot H' p := by
  obtain ⟨x, y, e1, e2⟩ := h
  exact ⟨x, y, e _ _ e1 nofun, e2⟩
theorem Two.extN {CB CH : Addr} {H H' : Hp} {p : Addr} {c d : Cl} (h : Two CB CH H p c d) (e : ExtN H H') : Two CB CH H' p c d :=
  ⟨pot_extN h.pot e, h.c1.extN e (ho_extN e), h.d1.extN e (ho_extN e), h.pc, h.pd, h.cd⟩
theorem One.extN {CB CH : Addr} {H H' : Hp} {p : Addr} {c : Cl} (h : One CB CH H p c) (e : ExtN H H') : One CB CH H' p c := by
  cases h with
  | mk a b c1 => exact ⟨pot_extN a e, b.extN e (ho_extN e), c1⟩
theorem ClAt.pl {CB CH : Addr} {H Hi : Hp} {c : Cl} (h : ClAt CB CH H Hi c) : ∀ a ∈ c.m, ∀ o, H a = some o → Plain o := by
  intro a ha o e
  rcases List.mem_cons.mp ha with rfl | ha
  · rw [h.hP] at e
    cases e
    exact plain_dK
  rcases List.mem_cons.mp ha with rfl | ha
  · obtain ⟨ts, e1, _⟩ := h.ev
    rw [e1] at e
    cases e
    exact plain_lst
  · exact h.bk.pl a ha o e
theorem pot_pl {H : Hp} {p : Addr} (h : Pot H p) : ∀ o, H p = some o → Plain o := fun o e => by
  obtain ⟨x, y, e1, _⟩ := h
  rw [e1] at e
  cases e
  exact plain_lst
theorem tabs_pot {T : List (Addr × Str)} {p : Addr} {H H' : Hp} (t : Tabs T H) (hp : Pot H p) (s : SameB p H H') : Tabs T H' :=
  tabs_L (fp := [p]) t (fun c hc o e => by rw [List.mem_singleton.mp hc] at e; exact pot_pl hp o e) (SameL.ofB List.mem_cons_self s)
/-! ### lists of entries -/
def EntA (H : Hp) (l : Addr) (L : List Evt) : Prop := ∃ ts : List Addr, H l = some (.lst (ts.map V.ref)) ∧ Paired (EvT H) ts L
theorem EntA.extN {H H' : Hp} {l : Addr} {L : List Evt} (h : EntA H l L) (e : ExtN H H') : EntA H' l L := by
  obtain ⟨ts, a, b⟩ := h
  exact ⟨ts, e _ _ a nofun, paired_imp (fun _ _ k => evT_extN e k) b⟩
theorem EntA.updL {H : Hp} {l G : Addr} {L : List Evt} {zs : List V} {o : HO} (h : EntA H l L) (eG : H G = some (.lst zs)) (n : l ≠ G) : EntA (L2.upd H G o) l L := by
  obtain ⟨ts, a, b⟩ := h
  exact ⟨ts, by rw [upd_ne n]; exact a, paired_imp (fun t x k => by
    show L2.upd H G o t = _
    rw [upd_ne (ne_of (show H t = some (.tup _) from k) eG (by intro z; cases z))]
    exact k) b⟩
structure EntL (H0 H : Hp) (G : Addr) (Ls : List (List Evt)) : Prop where
  n : H0 G = none
  e : ExtN H0 H
  g : ∃ ls : List Addr, H G = some (.lst (ls.map V.ref)) ∧ Paired (EntA H) ls Ls ∧ ∀ l ∈ ls, l ≠ G
theorem EntL.nil {H0 : Hp} {G : Addr} (n : H0 G = none) : EntL H0 (L2.upd H0 G (.lst [])) G [] := ⟨n, ExtN.of (same_upd n), [], upd_same, .nil, nofun⟩
theorem EntL.push {H0 H H' : Hp} {G l : Addr} {Ls : List (List Evt)} {L : List Evt} (h : EntL H0 H G Ls) (e : ExtN H H') (new : NewN H l) (hl : EntA H' l L) : ∃ zs : List V, H' G = some (.lst zs) ∧ zs.length = Ls.length ∧ EntL H0 (L2.upd H' G (.lst (zs ++ [V.ref l]))) G (Ls ++ [L]) := by
  obtain ⟨ls, eG, hls, hn⟩ := h.g
  have eG' := e _ _ eG nofun
  have nlG : l ≠ G := fun z => by
    obtain ⟨ps, k⟩ := new _ (by rw [z]; exact eG)
    cases k
  refine ⟨ls.map V.ref, eG', by rw [List.length_map, Paired.length hls], h.n, fun b o hb t => ?_, ls ++ [l], by rw [upd_same, List.map_append]; rfl, ?_, fun x hx => ?_⟩
  · rw [upd_ne (ne_of_none hb h.n)]
    exact e b o (h.e b o hb t) t
  · refine paired_snoc' ?_ (hl.updL eG' nlG)
    have key : ∀ {ls : List Addr} {Ls : List (List Evt)}, Paired (EntA H) ls Ls → (∀ l ∈ ls, l ≠ G) → Paired (EntA (L2.upd H' G (.lst (ls.map V.ref ++ [V.ref l])))) ls Ls := by
      intro ls' Ls' h1 h2
      generalize HO.lst (ls'.map V.ref ++ [V.ref l]) = o
      induction h1 with
      | nil => exact .nil
      | cons a _ ih => exact .cons ((a.extN e).updL eG' (h2 _ List.mem_cons_self)) (ih fun x hx => h2 x (List.mem_cons_of_mem _ hx))
    exact key hls hn
  · rcases List.mem_append.mp hx with hx | hx
    · exact hn x hx
    · rw [List.mem_singleton.mp hx]
      exact nlG
theorem EntL.ext {H0 H H' : Hp} {G : Addr} {Ls : List (List Evt)} (h : EntL H0 H G Ls) (e : ExtN H H') : EntL H0 H' G Ls := by
  obtain ⟨ls, eG, hls, hn⟩ := h.g
  exact ⟨h.n, h.e.trans e, ls, e _ _ eG nofun, paired_imp (fun _ _ k => k.extN e) hls, hn⟩
/-! ### as plain data -/
def wD : V → PyData
  | .int i => .int i
  | .str z => .str z
  | _ => .none
def evD (e : Evt) : PyData := .tuple [.str (kindS e.mv), .int e.kn, .str e.who, .int e.day, wD e.w]
def WOK (w : V) : Prop := w = .non ∨ (∃ i, w = .int i) ∨ ∃ z, w = .str z ∧ PyData.strOk z = true
structure EvSt (e : Evt) : Prop where
  who : PyData.strOk e.who = true
  w : WOK e.w
theorem wD_dp {K : PySem.W.Frag} {H : Hp} {w : V} (h : WOK w) : Dp K H w (wD w) := by
  rcases h with rfl | ⟨i, rfl⟩ | ⟨z, rfl, _⟩
  · exact .non
  · exact .int i
  · exact .str z
theorem wD_lay {w : V} (h : WOK w) : PyData.canLay0 (wD w) = true ∧ PyData.depth (wD w) ≤ 1 := by
  rcases h with rfl | ⟨i, rfl⟩ | ⟨z, rfl, hz⟩
  · exact ⟨by simp [wD, PyData.canLay0], by simp [wD, PyData.depth]⟩
  · exact ⟨by simp [wD, PyData.canLay0], by simp [wD, PyData.depth]⟩
  · exact ⟨by simp [wD, PyData.canLay0, hz], by simp [wD, PyData.depth]⟩
theorem kindS_ok (b : Bool) : PyData.strOk (kindS b) = true := by cases b <;> decide +kernel
theorem evD_lay : ∀ {L : List Evt}, (∀ e ∈ L, EvSt e) → PyData.canLayAll0 (L.map evD) = true ∧ PyData.depthAll (L.map evD) ≤ 2
  | [], _ => ⟨by simp [PyData.canLayAll0], by simp [PyData.depthAll]⟩
  | e :: L, h => by
    obtain ⟨i1, i2⟩ := evD_lay (L := L) fun x hx => h x (List.mem_cons_of_mem _ hx)
    have he := h e List.mem_cons_self
    obtain ⟨w1, w2⟩ := wD_lay he.w
    refine ⟨by simp [PyData.canLayAll0, evD, PyData.canLay0, i1, w1, he.who, kindS_ok], ?_⟩
    have h2 : (evD e).depth ≤ 2 := by
      simp only [evD, PyData.depth, PyData.depthAll]
      omega
    simp only [List.map_cons, PyData.depthAll]
    omega
theorem ev_dp {K : PySem.W.Frag} {H : Hp} : ∀ {us : List Addr} {L : List Evt}, Paired (EvT H) us L → (∀ e ∈ L, EvSt e) → DpAll K H (us.map V.ref) (L.map evD)
  | _, _, .nil, _ => .nil
  | _, _, .cons (a := t) (b := r) h k, hs => .cons (.tup (SqT.of h) (.cons (.str _) (.cons (.int _) (.cons (.str _) (.cons (.int _) (.cons (wD_dp (hs r List.mem_cons_self).w) .nil)))))) (ev_dp k fun x hx => hs x (List.mem_cons_of_mem _ hx))
def entD (L : List Evt) : PyData := .list (L.map evD)
theorem entD_lay {L : List Evt} (h : ∀ e ∈ L, EvSt e) : PyData.canLay0 (entD L) = true ∧ (entD L).depth ≤ 3 := by
  obtain ⟨a, b⟩ := evD_lay h
  refine ⟨by simp only [entD, PyData.canLay0]; exact a, ?_⟩
  simp only [entD, PyData.depth]
  omega
theorem tabs_updG {T : List (Addr × Str)} {H : Hp} {a : Addr} {zs : List V} {o : HO} (t : Tabs T H) (hl : H a = some (.lst zs)) : Tabs T (L2.upd H a o) :=
  tabs_L (fp := [a]) t (fun c hc o' e => by rw [List.mem_singleton.mp hc, hl] at e; cases e; exact plain_lst) (SameL.upd List.mem_cons_self (.of (Same.refl _)))
theorem refs_not_pot {ts : List Addr} (a b : Int) : (HO.lst (ts.map V.ref)) ≠ .lst [.int a, .int b] := by
  intro h
  have h := HO.lst.inj h
  match ts, h with
  | [], h => cases h
  | t :: r, h => cases (List.cons.inj h).1
theorem EntA.pot {H H' : Hp} {p l : Addr} {L : List Evt} (h : EntA H l L) (hp : Pot H p) (s : SameB p H H') : EntA H' l L := by
  obtain ⟨ts, a, b⟩ := h
  refine ⟨ts, s _ _ (ne_of_pot hp a refs_not_pot) a, paired_imp (fun t x k => ?_) b⟩
  have k : H t = some (.tup _) := k
  exact s _ _ (ne_of_pot hp k) k
/-- what a list of lists of entries holds -/
def EntsL (H : Hp) (G : Addr) (Ls : List (List Evt)) : Prop := ∃ ls : List Addr, H G = some (.lst (ls.map V.ref)) ∧ Paired (EntA H) ls Ls
theorem EntsL.extN {H H' : Hp} {G : Addr} {Ls : List (List Evt)} (h : EntsL H G Ls) (e : ExtN H H') : EntsL H' G Ls := by
  obtain ⟨ls, a, b⟩ := h
  exact ⟨ls, e _ _ a nofun, paired_imp (fun _ _ k => k.extN e) b⟩
theorem EntsL.pot {H H' : Hp} {p G : Addr} {Ls : List (List Evt)} (h : EntsL H G Ls) (hp : Pot H p) (s : SameB p H H') : EntsL H' G Ls := by
  obtain ⟨ls, a, b⟩ := h
  exact ⟨ls, s _ _ (ne_of_pot hp a refs_not_pot) a, paired_imp (fun _ _ k => k.pot hp s) b⟩
theorem nm_strOk {z : Str} (h : Nm z) : PyData.strOk z = true := by
  show (z.cps.all fun c => decide (c < 0x110000)) = true
  rw [← Array.all_toList, List.all_eq_true]
  intro c hc
  have := h.al c hc
  unfold small at this
  rw [Bool.and_eq_true, decide_eq_true_eq, decide_eq_true_eq] at this
  exact decide_eq_true (by omega)
theorem evSt_of {rk : List (Str × Int)} {e : Evt} (hk : ∀ z ∈ rk.map (·.1), Nm z) (h : EvOK rk e) : EvSt e := by
  cases hm : e.mv with
  | true =>
    obtain ⟨a, b⟩ := h.mw hm
    refine ⟨nm_strOk (hk _ a), ?_⟩
    rcases b with b | ⟨z, b, hz⟩
    · exact .inl b
    · refine .inr (.inr ⟨z, b, ?_⟩)
      rcases hz with rfl | hz
      · decide +kernel
      · exact nm_strOk hz
  | false =>
    obtain ⟨a, n, b, _⟩ := h.lw hm
    exact ⟨nm_strOk a, .inr (.inl ⟨n, b⟩)⟩
end LT
set_option Elab.async false
set_option linter.all false
set_option maxRecDepth 100000
set_option maxHeartbeats 1600000
/-! Own layer: the first unfed day, one only; promises of the law that looks at it. -/
namespace LT
open PySem PySem.Spec PyProof.Rows L2 NdefX
def UnfO (s : Shop) : Option (Int × Int) → Prop
  | none => ∀ d, 0 ≤ d → 0 ≤ s.left d
  | some (d, n) => 0 ≤ d ∧ d < 10 ^ 120 ∧ s.left d = -n ∧ 0 < n ∧ Fed s d
def UnfAt (H : Hp) (v : V) : Option (Int × Int) → Prop
  | none => v = .non
  | some (d, n) => ∃ t, v = .ref t ∧ H t = some (.tup [.int d, .int n])
theorem UnfAt.mono {H H' : Hp} {v : V} {o : Option (Int × Int)} (h : UnfAt H v o) (s : Same H H') : UnfAt H' v o := by
  cases o with
  | none => exact h
  | some p =>
    obtain ⟨t, e, h⟩ := h
    exact ⟨t, e, s _ _ h⟩
theorem UnfO.uniq {s : Shop} {o1 o2 : Option (Int × Int)} (a : UnfO s o1) (b : UnfO s o2) : o1 = o2 := by
  cases o1 with
  | none =>
    cases o2 with
    | none => rfl
    | some q =>
      obtain ⟨b1, b2, b3, b4, b5⟩ := b
      have := a q.1 b1
      omega
  | some p =>
    obtain ⟨a1, a2, a3, a4, a5⟩ := a
    cases o2 with
    | none =>
      have := b p.1 a1
      omega
    | some q =>
      obtain ⟨b1, b2, b3, b4, b5⟩ := b
      obtain ⟨d, n⟩ := p
      obtain ⟨e, m⟩ := q
      simp only at a1 a2 a3 a4 a5 b1 b2 b3 b4 b5
      have e1 : d = e := by
        by_cases h : d < e
        · have := b5 d a1 h
          omega
        · by_cases h' : e < d
          · have := a5 e b1 h'
            omega
          · omega
      subst e1
      have : n = m := by omega
      rw [this]
def unfD : Option (Int × Int) → PyData
  | none => .none
  | some (d, n) => .tuple [.int d, .int n]
theorem UnfAt.dp {K : PySem.W.Frag} {H : Hp} {v : V} {o : Option (Int × Int)} (h : UnfAt H v o) : Dp K H v (unfD o) := by
  cases o with
  | none =>
    rw [show v = .non from h]
    exact .non
  | some p =>
    obtain ⟨t, rfl, h⟩ := h
    exact .tup (SqT.of h) (.cons (.int _) (.cons (.int _) .nil))
end LT
set_option Elab.async false
set_option linter.all false
set_option maxRecDepth 100000
set_option maxHeartbeats 1600000
/-! Own layer: what more stores, and one head more, do to what is left. -/
namespace LT
open PySem PySem.Spec PyProof.Rows L2 NdefX LamX
/-! ### told anew, the same holds -/
def SameHd (es es' : List Evt) : Prop := ∀ mv z kn d, heldE es' mv z kn d = heldE es mv z kn d
theorem lastW_of {t t' : Told} {kn : Option Int} {w : V} (nd : (t.map (·.1)).Nodup) (nd' : (t'.map (·.1)).Nodup) (e : ∀ k, getA t k = getA t' k) (h : LastW t kn w) : LastW t' kn w := by
  have back : ∀ p ∈ t', p ∈ t := fun p hp => getA_mem (by rw [e]; exact getA_of_mem nd' hp)
  rcases h with ⟨a, b⟩ | ⟨k, a, b, c⟩
  · exact .inl ⟨fun p hp => a p (back p hp), b⟩
  · exact .inr ⟨k, by rw [← e]; exact a, b, fun p hp => c p (back p hp)⟩
theorem told_nd (es : List Evt) (mv : Bool) (z : Str) (d : Int) : (((getA (histE es mv z) d).getD []).map (·.1)).Nodup := by
  cases e : getA (histE es mv z) d with
  | none => exact List.nodup_nil
  | some t => exact (hist_of mv z es d t e).1
theorem same_ents {es es' L : List Evt} (h : IsEnts es L) (h' : IsEnts es' L) : ∀ mv z d k, entA es mv z d k = entA es' mv z d k := fun mv z d k => by
  have key : ∀ {a b : List Evt}, IsEnts a L → IsEnts b L → ∀ w, entA a mv z d k = some w → entA b mv z d k = some w := fun ha hb w e =>
    (hb.mem ⟨mv, k, z, d, w⟩).mp ((ha.mem ⟨mv, k, z, d, w⟩).mpr e)
  cases e : entA es mv z d k with
  | some w => exact (key h h' w e).symm
  | none =>
    cases e' : entA es' mv z d k with
    | none => rfl
    | some w =>
      have := key h' h w e'
      rw [e] at this
      cases this
theorem held_again {es es' L : List Evt} (h : IsEnts es L) (h' : IsEnts es' L) (r : Rising es) (r' : Rising es') : SameHd es es' := fun mv z kn d => by
  have a := last_held mv z kn d es r
  have b := last_held mv z kn d es' r'
  have e := same_ents h h' mv z d
  exact b.uniq (lastW_of (told_nd es mv z d) (told_nd es' mv z d) e a)
theorem held_known {es L : List Evt} (h : IsEnts es L) (r : Rising es) : SameHd es (L.mergeSort knLe) := held_again h h.again r (kn_rising L)
/-! ### shops alike -/
theorem SameHd.pl {es es' : List Evt} (h : SameHd es es') (z : Str) (kn : Option Int) (d : Int) : plE es' z kn d = plE es z kn d := by
  unfold plE
  rw [show heldE es' true z kn = heldE es true z kn from funext fun x => h true z kn x]
theorem land_held (s : Shop) (d : Int) : s.land d = numI (heldE s.es false s.z s.kn d) := by
  unfold Shop.land Shop.landW heldE
  cases heldO s.es false s.z s.kn d with
  | none => rfl
  | some w => rfl
theorem shop_left {s s' : Shop} (hl : ∀ d, 0 ≤ d → s'.land d = s.land d) (hm : ∀ d, 0 ≤ d → s'.many d = s.many d) (hR : s'.R = s.R) (d : Int) : s'.left d = s.left d := by
  unfold Shop.left leftI
  refine sumN_congr fun i _ => ?_
  unfold Shop.net
  rw [hl _ (Int.natCast_nonneg _), hm _ (Int.natCast_nonneg _), hR]
theorem SameHd.left {es es' : List Evt} (h : SameHd es es') (rk : List (Str × Int)) (z : Str) (kn : Option Int) (R : Int) (d : Int) : (shopOf es' rk z kn R).left d = (shopOf es rk z kn R).left d := by
  refine shop_left (s := shopOf es rk z kn R) (s' := shopOf es' rk z kn R) (fun d _ => ?_) (fun d _ => ?_) rfl d
  · rw [land_held, land_held]
    show numI (heldE es' false z kn d) = numI (heldE es false z kn d)
    rw [h]
  · show manyI es' _ z kn d = manyI es _ z kn d
    unfold manyI
    congr 2
    exact List.filter_congr fun k _ => by rw [h.pl]
/-! ### one head more -/
/-! ### unfed, wanted -/
end LT
set_option Elab.async false
set_option linter.all false
set_option maxRecDepth 100000
set_option maxHeartbeats 1600000
/-! Own layer: a plan and its book beside a pot, with no list of what was told. -/
namespace LT
open PySem PySem.Spec PyProof.Rows L2 NdefX LamX
structure PbD where
  P : Addr
  b : Addr
  la : Addr
  D : PlanD
  kn : Int
  es : List Evt
  fp : List Addr
def PbD.m (c : PbD) : List Addr := c.P :: c.fp
structure Pb (CB CH : Addr) (H : Hp) (p : Addr) (c : PbD) : Prop where
  pot : Pot H p
  hP : H c.P = some (.dK (planK c.D c.kn c.la))
  hI : PlanI (Ho (p :: c.m) H) c.D
  hG : PlanG c.D
  k0 : 0 ≤ c.kn
  la : LastOK (Ho (p :: c.m) H) c.la c.D.rk
  bk : Bk CB CH H c.b c.D.rk c.es c.fp
  kl : ∀ e ∈ c.es, e.kn ≤ c.kn
  wl : ∀ e ∈ c.es, ∀ n, e.w = .int n → n < 10 ^ 55
  pP : p ≠ c.P
  pf : p ∉ c.fp
  Pf : c.P ∉ c.fp
theorem Pb.ex {CB CH : Addr} {H : Hp} {p : Addr} {c : PbD} (h : Pb CB CH H p c) : ∀ a ∈ p :: c.m, ∃ o, H a = some o := by
  intro a ha
  rcases List.mem_cons.mp ha with rfl | ha
  · obtain ⟨x, y, e, _⟩ := h.pot
    exact ⟨_, e⟩
  rcases List.mem_cons.mp ha with rfl | ha
  · exact ⟨_, h.hP⟩
  · exact h.bk.ex a ha
theorem Pb.look {CB CH : Addr} {H H' : Hp} {p : Addr} {c : PbD} (h : Pb CB CH H p c) (hp : Pot H' p) (s : SameB p H H') : Pb CB CH H' p c := by
  have sl : SameL [p] H H' := SameL.ofB List.mem_cons_self s
  have si : Same (Ho (p :: c.m) H) (Ho (p :: c.m) H') := ho_step sl (fun a ha => by rw [List.mem_singleton.mp ha]; exact List.mem_cons_self) fun a ha => .inl ha
  exact ⟨hp, s _ _ (Ne.symm h.pP) h.hP, h.hI.mono si, h.hG, h.k0, h.la.mono si, h.bk.by fun x hx o e => s _ _ (fun z => h.pf (by rw [← z]; exact hx)) e, h.kl, h.wl, h.pP, h.pf, h.Pf⟩
theorem Pb.mono {CB CH : Addr} {H H' : Hp} {p : Addr} {c : PbD} (h : Pb CB CH H p c) (s : Same H H') : Pb CB CH H' p c := h.look (h.pot.mono s) (SameB.of s)
theorem Pb.extN {CB CH : Addr} {H H' : Hp} {p : Addr} {c : PbD} (h : Pb CB CH H p c) (e : ExtN H H') : Pb CB CH H' p c :=
  ⟨pot_extN h.pot e, e _ _ h.hP nofun, ⟨ho_extN e _ _ h.hI.hn nofun, ho_extN e _ _ h.hI.hr nofun, ho_extN e _ _ h.hI.hl nofun⟩, h.hG, h.k0, h.la.extN (ho_extN e), h.bk.extN e, h.kl, h.wl, h.pP, h.pf, h.Pf⟩
theorem Pb.pl {CB CH : Addr} {H : Hp} {p : Addr} {c : PbD} (h : Pb CB CH H p c) : ∀ a ∈ p :: c.m, ∀ o, H a = some o → Plain o := by
  intro a ha o e
  rcases List.mem_cons.mp ha with rfl | ha
  · exact pot_pl h.pot o e
  rcases List.mem_cons.mp ha with rfl | ha
  · rw [h.hP] at e
    cases e
    exact plain_dK
  · exact h.bk.pl a ha o e
theorem Pb.hn {CB CH : Addr} {H : Hp} {p : Addr} {c : PbD} (h : Pb CB CH H p c) : H c.D.n = some (.lst (c.D.zs.map V.str)) := ho_le _ _ h.hI.hn
theorem Pb.hl {CB CH : Addr} {H : Hp} {p : Addr} {c : PbD} (h : Pb CB CH H p c) : H c.D.l = some (.lst (c.D.ls.map V.str)) := ho_le _ _ h.hI.hl
theorem Pb.hr {CB CH : Addr} {H : Hp} {p : Addr} {c : PbD} (h : Pb CB CH H p c) : H c.D.r = some (.dK (sd c.D.rk)) := ho_le _ _ h.hI.hr
theorem Pb.land {CB CH : Addr} {H : Hp} {p : Addr} {c : PbD} (h : Pb CB CH H p c) (z : Str) (R d : Int) : (shopOf c.es c.D.rk z none R).land d < 10 ^ 55 := by
  rw [land_held]
  show numI (heldE c.es false z none d) < _
  unfold heldE
  cases e : heldO c.es false z none d with
  | none => show (0 : Int) < 10 ^ 55; decide
  | some w =>
    obtain ⟨x, hx, _, hw⟩ := heldO_mem e
    show numI w < _
    rw [← hw]
    cases hv : x.w with
    | int n => exact h.wl x hx n hv
    | _ => show (0 : Int) < 10 ^ 55; decide
/-! ### what a book is made of -/
def OwnO (o : HO) : Prop := (∃ C d fs, o = .ins C d fs) ∨ ∃ r, o = .dK r
theorem HistAt.own {C : Addr} {H : Hp} {a : HA} (h : HistAt C H a) : ∀ c ∈ a.fp, ∀ o, H c = some o → OwnO o := by
  intro c hc o e
  rcases List.mem_cons.mp hc with rfl | hc
  · rw [h.ix] at e
    cases e
    exact .inl ⟨_, _, _, rfl⟩
  rcases List.mem_cons.mp hc with rfl | hc
  · rw [h.bd] at e
    cases e
    exact .inr ⟨_, rfl⟩
  obtain ⟨p, hp, rfl⟩ := List.mem_map.mp hc
  obtain ⟨i, hi⟩ := List.getElem?_of_mem hp
  obtain ⟨e', _, _, h2⟩ := paired_get h.ta hi
  rw [h2] at e
  cases e
  exact .inr ⟨_, rfl⟩
theorem Bk.own {CB CH : Addr} {H : Hp} {b : Addr} {rk : List (Str × Int)} {es : List Evt} {fp : List Addr} (k : Bk CB CH H b rk es fp) : ∀ c ∈ fp, ∀ o, H c = some o → OwnO o := by
  obtain ⟨B, rfl, rfl, rfl, rfl, h, _⟩ := k
  intro c hc o e
  rcases List.mem_cons.mp hc with rfl | hc
  · rw [h.ix] at e
    cases e
    exact .inl ⟨_, _, _, rfl⟩
  rcases List.mem_cons.mp hc with rfl | hc
  · rw [h.rd] at e
    cases e
    exact .inr ⟨_, rfl⟩
  rcases List.mem_cons.mp hc with rfl | hc
  · rw [h.md] at e
    cases e
    exact .inr ⟨_, rfl⟩
  rcases List.mem_cons.mp hc with rfl | hc
  · rw [h.ldd] at e
    cases e
    exact .inr ⟨_, rfl⟩
  rcases List.mem_append.mp hc with hc | hc
  · obtain ⟨x, hx, hc⟩ := hsfp_mem.mp hc
    exact (h.hm x hx).own c hc o e
  · obtain ⟨x, hx, hc⟩ := hsfp_mem.mp hc
    exact (h.hl x hx).own c hc o e
theorem Bk.nt {CB CH : Addr} {H : Hp} {b : Addr} {rk : List (Str × Int)} {es : List Evt} {fp : List Addr} (k : Bk CB CH H b rk es fp) {t : Addr} {xs : List V} (e : H t = some (.tup xs)) : t ∉ fp := fun h => by
  rcases k.own t h _ e with ⟨_, _, _, z⟩ | ⟨_, z⟩ <;> cases z
theorem Bk.nl {CB CH : Addr} {H : Hp} {b : Addr} {rk : List (Str × Int)} {es : List Evt} {fp : List Addr} (k : Bk CB CH H b rk es fp) {t : Addr} {xs : List V} (e : H t = some (.lst xs)) : t ∉ fp := fun h => by
  rcases k.own t h _ e with ⟨_, _, _, z⟩ | ⟨_, z⟩ <;> cases z
/-! ### all but tables and the pot -/
def ExtP (p : Addr) (H H' : Hp) : Prop := ∀ a o, a ≠ p → H a = some o → (∀ ps, o ≠ .tbl ps) → H' a = some o
theorem ExtP.trans {p : Addr} {H H1 H2 : Hp} (a : ExtP p H H1) (b : ExtP p H1 H2) : ExtP p H H2 := fun x o n h t => b x o n (a x o n h t) t
theorem ExtP.L {p : Addr} {fp : List Addr} {H H1 H2 : Hp} (e : ExtP p H H1) (n : ∀ c ∈ fp, NewN H c) (s : SameL fp H1 H2) : ExtP p H H2 := fun c o np h t => s c o (fun m => by
  obtain ⟨ps, z⟩ := n c m o h
  exact t ps z) (e c o np h t)
end LT
set_option Elab.async false
set_option linter.all false
set_option maxRecDepth 100000
namespace K63
open PySem PySem.Spec PyProof.Rows L2 LT NdefX
def topS (i : Nat) : Stmt := PySem.Challenge.pw_lightturns_k63_entries_equal_twins.main.body.getD i (.Pass ⟨0, 0, 0, 0⟩)
abbrev s_is_name : Stmt := topS 14
abbrev s_is_place : Stmt := topS 17
abbrev s_is_whole : Stmt := topS 19
abbrev s_is_from : Stmt := topS 20
abbrev s_is_within : Stmt := topS 21
abbrev s_is_day : Stmt := topS 22
abbrev s_check_day : Stmt := topS 24
abbrev s_check_known : Stmt := topS 25
abbrev s_check_days : Stmt := topS 26
abbrev s_check_light : Stmt := topS 27
abbrev s_check_place : Stmt := topS 28
abbrev s_check_number : Stmt := topS 29
abbrev s_History___init__ : Stmt := inClass (topS 31) 0
abbrev s_History_note : Stmt := inClass (topS 31) 1
abbrev s_History_all_told : Stmt := inClass (topS 31) 2
abbrev s_History_told_last : Stmt := inClass (topS 31) 3
abbrev s_History_holding : Stmt := inClass (topS 31) 4
abbrev s_Book___init__ : Stmt := inClass (topS 36) 0
abbrev s_Book_ranks : Stmt := inClass (topS 36) 1
abbrev s_Book_tell : Stmt := inClass (topS 36) 2
abbrev s_Book_land : Stmt := inClass (topS 36) 3
abbrev s_Book_last_known : Stmt := inClass (topS 36) 4
abbrev s_Book_where : Stmt := inClass (topS 36) 5
abbrev s_Book_landed : Stmt := inClass (topS 36) 6
abbrev s_Book_moves_known : Stmt := inClass (topS 36) 7
abbrev s_Book_landings_known : Stmt := inClass (topS 36) 8
abbrev s_Book_entries : Stmt := inClass (topS 36) 9
abbrev s_Book_twin : Stmt := inClass (topS 36) 10
abbrev s_Book___eq__ : Stmt := inClass (topS 36) 11
abbrev s_Book___len__ : Stmt := inClass (topS 36) 12
abbrev s_book_of : Stmt := topS 37
abbrev s_check_keeper : Stmt := topS 38
abbrev s_check_not_early : Stmt := topS 39
abbrev s_are_ranks : Stmt := topS 40
abbrev s__law_pot : Stmt := topS 42
abbrev s__law_take : Stmt := topS 43
abbrev s__law_far : Stmt := topS 44
abbrev s__law_names : Stmt := topS 45
abbrev s__law_plan : Stmt := topS 46
abbrev s__law_worth : Stmt := topS 47
abbrev s__law_event : Stmt := topS 48
abbrev s__law_tell : Stmt := topS 49
abbrev s__law_entries : Stmt := topS 50
abbrev s__law_where : Stmt := topS 51
abbrev s__law_stands : Stmt := topS 52
abbrev s__law_same : Stmt := topS 53
abbrev s__law_by_another_road : Stmt := topS 54
abbrev s__law_unlike : Stmt := topS 55
abbrev s_law : Stmt := topS 56
/-- all that the top has left -/
structure All (K : PySem.W.Frag) (P : Program) (mg : Str → Option Value) : Type where
  T : Tx mg
  t_SMALL_LETTERS : Tok
  g_SMALL_LETTERS : mg "SMALL_LETTERS" = some (.str (Str.ofString "abcdefghijklmnopqrstuvwxyz") t_SMALL_LETTERS)
  t_LONGEST_NAME : Tok
  g_LONGEST_NAME : mg "LONGEST_NAME" = some (.int (8) t_LONGEST_NAME)
  t_ASHORE : Tok
  g_ASHORE : mg "ASHORE" = some (.str (Str.ofString "") t_ASHORE)
  t_MOST_KEEPERS : Tok
  g_MOST_KEEPERS : mg "MOST_KEEPERS" = some (.int (30) t_MOST_KEEPERS)
  t_HIGHEST_RANK : Tok
  g_HIGHEST_RANK : mg "HIGHEST_RANK" = some (.int (1) t_HIGHEST_RANK)
  t_LOWEST_RANK : Tok
  g_LOWEST_RANK : mg "LOWEST_RANK" = some (.int (9) t_LOWEST_RANK)
  C_History : Addr
  Z_History : ClF K mg "History" C_History
  n_History_by_day : PySem.W.findIn K (.ref C_History) "by_day" = some none
  C_Book : Addr
  Z_Book : ClF K mg "Book" C_Book
  n_Book_rank_of : PySem.W.findIn K (.ref C_Book) "rank_of" = some none
  n_Book_moves : PySem.W.findIn K (.ref C_Book) "moves" = some none
  n_Book_landings : PySem.W.findIn K (.ref C_Book) "landings" = some none
  n_Book_latest_known : PySem.W.findIn K (.ref C_Book) "latest_known" = some none
  I_Book : IsC K C_Book
  f_History___init__ : Addr
  d_History___init__ : FuncData
  h_History___init__ : Mth K C_History "__init__" "History.__init__" ["self"] s_History___init__ f_History___init__ d_History___init__
  M_History : Mk K C_History f_History___init__
  f_History_note : Addr
  d_History_note : FuncData
  h_History_note : Mth K C_History "note" "History.note" ["self", "known", "day", "worth"] s_History_note f_History_note d_History_note
  f_History_all_told : Addr
  d_History_all_told : FuncData
  h_History_all_told : Mth K C_History "all_told" "History.all_told" ["self"] s_History_all_told f_History_all_told d_History_all_told
  f_History_told_last : Addr
  d_History_told_last : FuncData
  h_History_told_last : Mth K C_History "told_last" "History.told_last" ["self", "day", "known"] s_History_told_last f_History_told_last d_History_told_last
  f_History_holding : Addr
  d_History_holding : FuncData
  h_History_holding : Mth K C_History "holding" "History.holding" ["self", "known"] s_History_holding f_History_holding d_History_holding
  f_Book___init__ : Addr
  d_Book___init__ : FuncData
  h_Book___init__ : Mth K C_Book "__init__" "Book.__init__" ["self", "ranks"] s_Book___init__ f_Book___init__ d_Book___init__
  M_Book : Mk K C_Book f_Book___init__
  f_Book_ranks : Addr
  d_Book_ranks : FuncData
  h_Book_ranks : Mth K C_Book "ranks" "Book.ranks" ["self"] s_Book_ranks f_Book_ranks d_Book_ranks
  f_Book_tell : Addr
  d_Book_tell : FuncData
  h_Book_tell : Mth K C_Book "tell" "Book.tell" ["self", "known", "keeper", "day", "place"] s_Book_tell f_Book_tell d_Book_tell
  f_Book_land : Addr
  d_Book_land : FuncData
  h_Book_land : Mth K C_Book "land" "Book.land" ["self", "known", "light", "day", "weight"] s_Book_land f_Book_land d_Book_land
  f_Book_last_known : Addr
  d_Book_last_known : FuncData
  h_Book_last_known : Mth K C_Book "last_known" "Book.last_known" ["self"] s_Book_last_known f_Book_last_known d_Book_last_known
  f_Book_moves_known : Addr
  d_Book_moves_known : FuncData
  h_Book_moves_known : Mth K C_Book "moves_known" "Book.moves_known" ["self", "keeper", "known"] s_Book_moves_known f_Book_moves_known d_Book_moves_known
  f_Book_landings_known : Addr
  d_Book_landings_known : FuncData
  h_Book_landings_known : Mth K C_Book "landings_known" "Book.landings_known" ["self", "light", "known"] s_Book_landings_known f_Book_landings_known d_Book_landings_known
  f_Book_twin : Addr
  d_Book_twin : FuncData
  h_Book_twin : Mth K C_Book "twin" "Book.twin" ["self"] s_Book_twin f_Book_twin d_Book_twin
  f_Book___eq__ : Addr
  d_Book___eq__ : FuncData
  h_Book___eq__ : Mth K C_Book "__eq__" "Book.__eq__" ["self", "other"] s_Book___eq__ f_Book___eq__ d_Book___eq__
  Q_Book : EqC K C_Book f_Book___eq__
  f_Book___len__ : Addr
  d_Book___len__ : FuncData
  h_Book___len__ : Mth K C_Book "__len__" "Book.__len__" ["self"] s_Book___len__ f_Book___len__ d_Book___len__
  f_Book_where : Addr
  d_Book_where : FuncData
  q_Book_where : FunD K "where" "Book.where" (defArgs s_Book_where) (defBody s_Book_where) (defScope s_Book_where) [.non] [] f_Book_where d_Book_where
  me_Book_where : Meth K C_Book "where" f_Book_where
  f_Book_landed : Addr
  d_Book_landed : FuncData
  q_Book_landed : FunD K "landed" "Book.landed" (defArgs s_Book_landed) (defBody s_Book_landed) (defScope s_Book_landed) [.non] [] f_Book_landed d_Book_landed
  me_Book_landed : Meth K C_Book "landed" f_Book_landed
  f_is_name : Addr
  d_is_name : FuncData
  h_is_name : Has K mg "is_name" ["thing"] s_is_name f_is_name d_is_name
  f_is_place : Addr
  d_is_place : FuncData
  h_is_place : Has K mg "is_place" ["thing"] s_is_place f_is_place d_is_place
  f_is_whole : Addr
  d_is_whole : FuncData
  h_is_whole : Has K mg "is_whole" ["thing"] s_is_whole f_is_whole d_is_whole
  f_is_from : Addr
  d_is_from : FuncData
  h_is_from : Has K mg "is_from" ["thing", "least"] s_is_from f_is_from d_is_from
  f_is_within : Addr
  d_is_within : FuncData
  h_is_within : Has K mg "is_within" ["thing", "least", "most"] s_is_within f_is_within d_is_within
  f_is_day : Addr
  d_is_day : FuncData
  h_is_day : Has K mg "is_day" ["thing"] s_is_day f_is_day d_is_day
  f_check_day : Addr
  d_check_day : FuncData
  h_check_day : Has K mg "check_day" ["thing"] s_check_day f_check_day d_check_day
  f_check_known : Addr
  d_check_known : FuncData
  h_check_known : Has K mg "check_known" ["thing"] s_check_known f_check_known d_check_known
  f_check_days : Addr
  d_check_days : FuncData
  h_check_days : Has K mg "check_days" ["day", "known"] s_check_days f_check_days d_check_days
  f_check_light : Addr
  d_check_light : FuncData
  h_check_light : Has K mg "check_light" ["thing"] s_check_light f_check_light d_check_light
  f_check_place : Addr
  d_check_place : FuncData
  h_check_place : Has K mg "check_place" ["thing"] s_check_place f_check_place d_check_place
  f_check_number : Addr
  d_check_number : FuncData
  h_check_number : Has K mg "check_number" ["thing", "least"] s_check_number f_check_number d_check_number
  f_check_keeper : Addr
  d_check_keeper : FuncData
  h_check_keeper : Has K mg "check_keeper" ["book", "thing"] s_check_keeper f_check_keeper d_check_keeper
  f_check_not_early : Addr
  d_check_not_early : FuncData
  h_check_not_early : Has K mg "check_not_early" ["book", "known"] s_check_not_early f_check_not_early d_check_not_early
  f_are_ranks : Addr
  d_are_ranks : FuncData
  h_are_ranks : Has K mg "are_ranks" ["thing"] s_are_ranks f_are_ranks d_are_ranks
  f__law_pot : Addr
  d__law_pot : FuncData
  h__law_pot : Has K mg "_law_pot" ["_law_script", "_law_k"] s__law_pot f__law_pot d__law_pot
  f__law_take : Addr
  d__law_take : FuncData
  h__law_take : Has K mg "_law_take" ["_law_pot_here", "_law_many"] s__law_take f__law_take d__law_take
  f__law_far : Addr
  d__law_far : FuncData
  h__law_far : Has K mg "_law_far" ["_law_pot_here"] s__law_far f__law_far d__law_far
  f__law_names : Addr
  d__law_names : FuncData
  h__law_names : Has K mg "_law_names" ["_law_pot_here", "_law_many"] s__law_names f__law_names d__law_names
  f__law_plan : Addr
  d__law_plan : FuncData
  h__law_plan : Has K mg "_law_plan" ["_law_pot_here", "_law_most"] s__law_plan f__law_plan d__law_plan
  f__law_worth : Addr
  d__law_worth : FuncData
  h__law_worth : Has K mg "_law_worth" ["_law_pot_here", "_law_kind", "_law_light"] s__law_worth f__law_worth d__law_worth
  f__law_event : Addr
  d__law_event : FuncData
  h__law_event : Has K mg "_law_event" ["_law_pot_here", "_law_plan_here"] s__law_event f__law_event d__law_event
  f__law_tell : Addr
  d__law_tell : FuncData
  h__law_tell : Has K mg "_law_tell" ["_law_book", "_law_event_here"] s__law_tell f__law_tell d__law_tell
  f__law_entries : Addr
  d__law_entries : FuncData
  h__law_entries : Has K mg "_law_entries" ["_law_events"] s__law_entries f__law_entries d__law_entries
  f__law_where : Addr
  d__law_where : FuncData
  h__law_where : Has K mg "_law_where" ["_law_events", "_law_name", "_law_day"] s__law_where f__law_where d__law_where
  f__law_stands : Addr
  d__law_stands : FuncData
  h__law_stands : Has K mg "_law_stands" ["_law_book", "_law_ranks", "_law_events"] s__law_stands f__law_stands d__law_stands
  f__law_same : Addr
  d__law_same : FuncData
  h__law_same : Has K mg "_law_same" ["_law_one", "_law_other", "_law_due"] s__law_same f__law_same d__law_same
  f__law_unlike : Addr
  d__law_unlike : FuncData
  h__law_unlike : Has K mg "_law_unlike" ["_law_book", "_law_plan_here", "_law_events"] s__law_unlike f__law_unlike d__law_unlike
  f_Book_entries : Addr
  d_Book_entries : FuncData
  c_Book_entries : Addr
  p_Book_entries : Addr
  L_Book_entries : FunC K "entries" "Book.entries" s_Book_entries f_Book_entries c_Book_entries d_Book_entries
  lb_Book_entries : L2.Binds K d_Book_entries ["self"] []
  me_Book_entries : Meth K C_Book "entries" f_Book_entries
  f_book_of : Addr
  d_book_of : FuncData
  c_book_of : Addr
  p_book_of : Addr
  L_book_of : FunC K "book_of" "book_of" s_book_of f_book_of c_book_of d_book_of
  lb_book_of : L2.Binds K d_book_of ["ranks", "entries"] []
  gl_book_of : mg "book_of" = some (.ref f_book_of)
  f__law_by_another_road : Addr
  d__law_by_another_road : FuncData
  c__law_by_another_road : Addr
  p__law_by_another_road : Addr
  L__law_by_another_road : FunC K "_law_by_another_road" "_law_by_another_road" s__law_by_another_road f__law_by_another_road c__law_by_another_road d__law_by_another_road
  lb__law_by_another_road : L2.Binds K d__law_by_another_road ["_law_ranks", "_law_events"] []
  gl__law_by_another_road : mg "_law_by_another_road" = some (.ref f__law_by_another_road)
  ne_Book_entries_book_of : p_Book_entries ≠ p_book_of
  ne_Book_entries__law_by_another_road : p_Book_entries ≠ p__law_by_another_road
  ne_book_of__law_by_another_road : p_book_of ≠ p__law_by_another_road
def q_lam_Book_entries : Str := (envOfC "Book.entries" (defScope s_Book_entries) 0 0 .none).qual ++ "<lambda>"
def q_lam_book_of : Str := (envOfC "book_of" (defScope s_book_of) 0 0 .none).qual ++ "<lambda>"
def q_lam__law_by_another_road : Str := (envOfC "_law_by_another_road" (defScope s__law_by_another_road) 0 0 .none).qual ++ "<lambda>"
/-- the tables of code that lambdas grow -/
def TLs {K : PySem.W.Frag} {P : Program} {mg : Str → Option Value} (D : All K P mg) : List (Addr × Str) := [(D.p_Book_entries, q_lam_Book_entries), (D.p_book_of, q_lam_book_of), (D.p__law_by_another_road, q_lam__law_by_another_road)]
structure TBs {K : PySem.W.Frag} {P : Program} {mg : Str → Option Value} (D : All K P mg) (base : Heap) : Prop where
  t_Book_entries : LamX.TabB base mg D.c_Book_entries D.p_Book_entries
  t_book_of : LamX.TabB base mg D.c_book_of D.p_book_of
  t__law_by_another_road : LamX.TabB base mg D.c__law_by_another_road D.p__law_by_another_road
theorem All.mem_Book_entries {K : PySem.W.Frag} {P : Program} {mg : Str → Option Value} (D : All K P mg) : (D.p_Book_entries, q_lam_Book_entries) ∈ TLs D := .head _
theorem All.uq_Book_entries {K : PySem.W.Frag} {P : Program} {mg : Str → Option Value} (D : All K P mg) : ∀ p ∈ TLs D, p.1 = D.p_Book_entries → p.2 = q_lam_Book_entries := fun p hp e => by
  rcases List.mem_cons.mp hp with rfl | hp
  · rfl
  rcases List.mem_cons.mp hp with rfl | hp
  · exact absurd e.symm D.ne_Book_entries_book_of
  rcases List.mem_cons.mp hp with rfl | hp
  · exact absurd e.symm D.ne_Book_entries__law_by_another_road
  cases hp
theorem All.mem_book_of {K : PySem.W.Frag} {P : Program} {mg : Str → Option Value} (D : All K P mg) : (D.p_book_of, q_lam_book_of) ∈ TLs D := .tail _ (.head _)
theorem All.uq_book_of {K : PySem.W.Frag} {P : Program} {mg : Str → Option Value} (D : All K P mg) : ∀ p ∈ TLs D, p.1 = D.p_book_of → p.2 = q_lam_book_of := fun p hp e => by
  rcases List.mem_cons.mp hp with rfl | hp
  · exact absurd e D.ne_Book_entries_book_of
  rcases List.mem_cons.mp hp with rfl | hp
  · rfl
  rcases List.mem_cons.mp hp with rfl | hp
  · exact absurd e.symm D.ne_book_of__law_by_another_road
  cases hp
theorem All.mem__law_by_another_road {K : PySem.W.Frag} {P : Program} {mg : Str → Option Value} (D : All K P mg) : (D.p__law_by_another_road, q_lam__law_by_another_road) ∈ TLs D := .tail _ (.tail _ (.head _))
theorem All.uq__law_by_another_road {K : PySem.W.Frag} {P : Program} {mg : Str → Option Value} (D : All K P mg) : ∀ p ∈ TLs D, p.1 = D.p__law_by_another_road → p.2 = q_lam__law_by_another_road := fun p hp e => by
  rcases List.mem_cons.mp hp with rfl | hp
  · exact absurd e D.ne_Book_entries__law_by_another_road
  rcases List.mem_cons.mp hp with rfl | hp
  · exact absurd e D.ne_book_of__law_by_another_road
  rcases List.mem_cons.mp hp with rfl | hp
  · rfl
  cases hp
end K63
set_option Elab.async false
set_option linter.all false
set_option maxRecDepth 100000
set_option maxHeartbeats 1600000
set_option pp.maxSteps 300
namespace K63
open PySem PySem.Spec PyProof.Rows L2 LT NdefX LamX
section
variable {P : Program} {w : World} {K : PySem.W.Frag} {mg : Str → Option Value} {base : Heap}
theorem sc_is_whole : FnScope ["thing"] ["thing"] (defScope s_is_whole) := ⟨rfl, rfl, rfl, by decide +kernel, rfl, by decide +kernel, by decide +kernel⟩
theorem ok_is_whole (D : All K P mg) : FnOk P w K mg base CX0 1 D.f_is_whole D.d_is_whole ["thing"] spWhole := by
  refine D.h_is_whole.fn.ok sc_is_whole (fun vs H Q E h => ?_) (fun cdv A outer s H vs Q E hr h => ?_)
  · first | (obtain ⟨_, rfl, _⟩ := h; rfl) | (obtain ⟨_, _, rfl, _⟩ := h; rfl) | (obtain ⟨_, _, _, rfl, _⟩ := h; rfl) | (obtain ⟨_, _, _, _, rfl, _⟩ := h; rfl) | (obtain ⟨_, _, _, _, _, rfl, _⟩ := h; rfl) | (obtain ⟨_, _, _, _, _, _, rfl, _⟩ := h; rfl) | (obtain ⟨_, _, _, _, _, _, _, rfl, _⟩ := h; rfl) | (obtain ⟨_, _, _, _, _, _, _, _, rfl, _⟩ := h; rfl) | (obtain ⟨_, _, _, _, _, _, _, _, _, rfl, _⟩ := h; rfl) | (obtain ⟨_, _, _, _, _, _, _, _, _, _, rfl, _⟩ := h; rfl) | (obtain ⟨_, _, _, _, _, _, _, _, _, _, _, rfl, _⟩ := h; rfl) | (obtain ⟨_, _, _, _, _, _, _, _, _, _, _, _, rfl, _⟩ := h; rfl) | (obtain ⟨_, _, _, _, _, _, _, _, _, _, _, _, _, rfl, _⟩ := h; rfl) | (obtain ⟨_, _, _, _, _, _, _, _, _, _, _, _, _, _, rfl, _⟩ := h; rfl) | (obtain ⟨_, _, _, _, _, _, _, _, _, _, _, _, _, _, _, rfl, _⟩ := h; rfl)
  · have T := D.T
    have nd := sc_is_whole.nd
    have hu := hr.units
    have hu1 := hu_of hr
    have hu0 := hr.units0
    obtain ⟨v, rfl, hv, q⟩ := h
    refine ⟨_, pss_one (ps_ret (pe_and (pe_callB call_isi (by rfl) T.isi (by decide +kernel) (pa_cons (pv 0) (pa_cons (pe_bltn (v := .ty "int") (by rfl) T.int (by decide +kernel) rfl) pa_nil))) (pe_one (pe_not (pe_callB call_isi (by rfl) T.isi (by decide +kernel) (pa_cons (pv 0) (pa_cons (pe_bltn (v := .ty "bool") (by rfl) T.bool (by decide +kernel) rfl) pa_nil))))))), ?_⟩
    obtain ⟨t, ty, k1, k2⟩ := hv.ty (K := K)
    refine ⟨_, rfl, v, .ty "int", t, _, isInt v, rfl, .ty _, ty, k1, _, rfl, ?_⟩
    rw [← whole_eq v] at q
    cases hb : isInt v with
    | false =>
      rw [hb] at q
      exact q
    | true =>
      rw [hb] at q
      exact ⟨_, rfl, v, .ty "bool", t, _, isBl v, rfl, .ty _, ty, k2, _, rfl, q⟩
theorem sc_is_from : FnScope ["thing", "least"] ["thing", "least"] (defScope s_is_from) := ⟨rfl, rfl, rfl, by decide +kernel, rfl, by decide +kernel, by decide +kernel⟩
theorem ok_is_from (D : All K P mg) : FnOk P w K mg base CX0 2 D.f_is_from D.d_is_from ["thing", "least"] spFromB := by
  refine D.h_is_from.fn.ok sc_is_from (fun vs H Q E h => ?_) (fun cdv A outer s H vs Q E hr h => ?_)
  · first | (obtain ⟨_, rfl, _⟩ := h; rfl) | (obtain ⟨_, _, rfl, _⟩ := h; rfl) | (obtain ⟨_, _, _, rfl, _⟩ := h; rfl) | (obtain ⟨_, _, _, _, rfl, _⟩ := h; rfl) | (obtain ⟨_, _, _, _, _, rfl, _⟩ := h; rfl) | (obtain ⟨_, _, _, _, _, _, rfl, _⟩ := h; rfl) | (obtain ⟨_, _, _, _, _, _, _, rfl, _⟩ := h; rfl) | (obtain ⟨_, _, _, _, _, _, _, _, rfl, _⟩ := h; rfl) | (obtain ⟨_, _, _, _, _, _, _, _, _, rfl, _⟩ := h; rfl) | (obtain ⟨_, _, _, _, _, _, _, _, _, _, rfl, _⟩ := h; rfl) | (obtain ⟨_, _, _, _, _, _, _, _, _, _, _, rfl, _⟩ := h; rfl) | (obtain ⟨_, _, _, _, _, _, _, _, _, _, _, _, rfl, _⟩ := h; rfl) | (obtain ⟨_, _, _, _, _, _, _, _, _, _, _, _, _, rfl, _⟩ := h; rfl) | (obtain ⟨_, _, _, _, _, _, _, _, _, _, _, _, _, _, rfl, _⟩ := h; rfl) | (obtain ⟨_, _, _, _, _, _, _, _, _, _, _, _, _, _, _, rfl, _⟩ := h; rfl)
  · have T := D.T
    have nd := sc_is_from.nd
    have hu := hr.units
    have hu1 := hu_of hr
    have hu0 := hr.units0
    obtain ⟨v, l, rfl, hv, q⟩ := h
    refine ⟨_, pss_one (ps_ret (pe_and (pe_call (ok_is_whole D) (hr.mono (by decide)) (by rfl) D.h_is_whole.gl D.h_is_whole.fn.kp D.h_is_whole.bd .nil pass0 (pa_cons (pv 0) pa_nil)) (pe_one (pe_cmpR op_ge (pv 0) (pv 1) (nomark _))))), ?_⟩
    refine ⟨_, rfl, v, rfl, hv, _, rfl, ?_⟩
    cases hv with
    | int i => exact ⟨_, rfl, _, rfl, _, _, rfl, rfl, q⟩
    | _ => exact q
theorem sc_is_within : FnScope ["thing", "least", "most"] ["thing", "least", "most"] (defScope s_is_within) := ⟨rfl, rfl, rfl, by decide +kernel, rfl, by decide +kernel, by decide +kernel⟩
theorem ok_is_within (D : All K P mg) : FnOk P w K mg base CX0 2 D.f_is_within D.d_is_within ["thing", "least", "most"] spWithin := by
  refine D.h_is_within.fn.ok sc_is_within (fun vs H Q E h => ?_) (fun cdv A outer s H vs Q E hr h => ?_)
  · first | (obtain ⟨_, rfl, _⟩ := h; rfl) | (obtain ⟨_, _, rfl, _⟩ := h; rfl) | (obtain ⟨_, _, _, rfl, _⟩ := h; rfl) | (obtain ⟨_, _, _, _, rfl, _⟩ := h; rfl) | (obtain ⟨_, _, _, _, _, rfl, _⟩ := h; rfl) | (obtain ⟨_, _, _, _, _, _, rfl, _⟩ := h; rfl) | (obtain ⟨_, _, _, _, _, _, _, rfl, _⟩ := h; rfl) | (obtain ⟨_, _, _, _, _, _, _, _, rfl, _⟩ := h; rfl) | (obtain ⟨_, _, _, _, _, _, _, _, _, rfl, _⟩ := h; rfl) | (obtain ⟨_, _, _, _, _, _, _, _, _, _, rfl, _⟩ := h; rfl) | (obtain ⟨_, _, _, _, _, _, _, _, _, _, _, rfl, _⟩ := h; rfl) | (obtain ⟨_, _, _, _, _, _, _, _, _, _, _, _, rfl, _⟩ := h; rfl) | (obtain ⟨_, _, _, _, _, _, _, _, _, _, _, _, _, rfl, _⟩ := h; rfl) | (obtain ⟨_, _, _, _, _, _, _, _, _, _, _, _, _, _, rfl, _⟩ := h; rfl) | (obtain ⟨_, _, _, _, _, _, _, _, _, _, _, _, _, _, _, rfl, _⟩ := h; rfl)
  · have T := D.T
    have nd := sc_is_within.nd
    have hu := hr.units
    have hu1 := hu_of hr
    have hu0 := hr.units0
    obtain ⟨v, l, m, rfl, hv, q⟩ := h
    refine ⟨_, pss_one (ps_ret (pe_and (pe_call (ok_is_whole D) (hr.mono (by decide)) (by rfl) D.h_is_whole.gl D.h_is_whole.fn.kp D.h_is_whole.bd .nil pass0 (pa_cons (pv 0) pa_nil)) (pe_one (pe_chain op_le op_le (pv 1) (pv 0) (pv 2))))), ?_⟩
    refine ⟨_, rfl, v, rfl, hv, _, rfl, ?_⟩
    cases hv with
    | int i =>
      refine ⟨_, rfl, _, rfl, l, i, rfl, rfl, _, rfl, ?_⟩
      have q' : Q (.bl (decide (l ≤ i) && decide (i ≤ m))) H := q
      cases h : decide (l ≤ i) with
      | true =>
        rw [h] at q'
        exact ⟨_, rfl, i, m, rfl, rfl, q'⟩
      | false =>
        rw [h] at q'
        exact q'
    | _ => exact q
theorem sc_is_day : FnScope ["thing"] ["thing"] (defScope s_is_day) := ⟨rfl, rfl, rfl, by decide +kernel, rfl, by decide +kernel, by decide +kernel⟩
theorem ok_is_day (D : All K P mg) : FnOk P w K mg base CX0 3 D.f_is_day D.d_is_day ["thing"] spDayB := by
  refine D.h_is_day.fn.ok sc_is_day (fun vs H Q E h => ?_) (fun cdv A outer s H vs Q E hr h => ?_)
  · first | (obtain ⟨_, rfl, _⟩ := h; rfl) | (obtain ⟨_, _, rfl, _⟩ := h; rfl) | (obtain ⟨_, _, _, rfl, _⟩ := h; rfl) | (obtain ⟨_, _, _, _, rfl, _⟩ := h; rfl) | (obtain ⟨_, _, _, _, _, rfl, _⟩ := h; rfl) | (obtain ⟨_, _, _, _, _, _, rfl, _⟩ := h; rfl) | (obtain ⟨_, _, _, _, _, _, _, rfl, _⟩ := h; rfl) | (obtain ⟨_, _, _, _, _, _, _, _, rfl, _⟩ := h; rfl) | (obtain ⟨_, _, _, _, _, _, _, _, _, rfl, _⟩ := h; rfl) | (obtain ⟨_, _, _, _, _, _, _, _, _, _, rfl, _⟩ := h; rfl) | (obtain ⟨_, _, _, _, _, _, _, _, _, _, _, rfl, _⟩ := h; rfl) | (obtain ⟨_, _, _, _, _, _, _, _, _, _, _, _, rfl, _⟩ := h; rfl) | (obtain ⟨_, _, _, _, _, _, _, _, _, _, _, _, _, rfl, _⟩ := h; rfl) | (obtain ⟨_, _, _, _, _, _, _, _, _, _, _, _, _, _, rfl, _⟩ := h; rfl) | (obtain ⟨_, _, _, _, _, _, _, _, _, _, _, _, _, _, _, rfl, _⟩ := h; rfl)
  · have T := D.T
    have nd := sc_is_day.nd
    have hu := hr.units
    have hu1 := hu_of hr
    have hu0 := hr.units0
    obtain ⟨v, rfl, hv, q⟩ := h
    refine ⟨_, pss_one (ps_ret (pe_call (ok_is_from D) (hr.mono (by decide)) (by rfl) D.h_is_from.gl D.h_is_from.fn.kp D.h_is_from.bd .nil pass0 (pa_cons (pv 0) (pa_cons pe_int pa_nil)))), ?_⟩
    exact ⟨_, rfl, v, 0, rfl, hv, q⟩
theorem sc_is_name : FnScope ["thing", "letter"] ["thing"] (defScope s_is_name) := ⟨rfl, rfl, rfl, by decide +kernel, rfl, by decide +kernel, by decide +kernel⟩
theorem ok_is_name (D : All K P mg) : FnOk P w K mg base CX0 1 D.f_is_name D.d_is_name ["thing"] spNameB := by
  refine D.h_is_name.fn.ok sc_is_name (fun vs H Q E h => ?_) (fun cdv A outer s H vs Q E hr h => ?_)
  · first | (obtain ⟨_, rfl, _⟩ := h; rfl) | (obtain ⟨_, _, rfl, _⟩ := h; rfl) | (obtain ⟨_, _, _, rfl, _⟩ := h; rfl) | (obtain ⟨_, _, _, _, rfl, _⟩ := h; rfl) | (obtain ⟨_, _, _, _, _, rfl, _⟩ := h; rfl) | (obtain ⟨_, _, _, _, _, _, rfl, _⟩ := h; rfl) | (obtain ⟨_, _, _, _, _, _, _, rfl, _⟩ := h; rfl) | (obtain ⟨_, _, _, _, _, _, _, _, rfl, _⟩ := h; rfl) | (obtain ⟨_, _, _, _, _, _, _, _, _, rfl, _⟩ := h; rfl) | (obtain ⟨_, _, _, _, _, _, _, _, _, _, rfl, _⟩ := h; rfl) | (obtain ⟨_, _, _, _, _, _, _, _, _, _, _, rfl, _⟩ := h; rfl) | (obtain ⟨_, _, _, _, _, _, _, _, _, _, _, _, rfl, _⟩ := h; rfl) | (obtain ⟨_, _, _, _, _, _, _, _, _, _, _, _, _, rfl, _⟩ := h; rfl) | (obtain ⟨_, _, _, _, _, _, _, _, _, _, _, _, _, _, rfl, _⟩ := h; rfl) | (obtain ⟨_, _, _, _, _, _, _, _, _, _, _, _, _, _, _, rfl, _⟩ := h; rfl)
  · have T := D.T
    have nd := sc_is_name.nd
    have hu := hr.units
    have hu1 := hu_of hr
    have hu0 := hr.units0
    obtain ⟨v, rfl, hv, hz, q⟩ := h
    refine ⟨_, pss_cons (ps_if (pt_not (pt_val (pe_callB call_isi (by rfl) T.isi (by decide +kernel) (pa_cons (pv 0) (pa_cons (pe_bltn (v := .ty "str") (by rfl) T.str (by decide +kernel) rfl) pa_nil))))) (pss_one (ps_ret pe_bl)) pss_nil)
      (pss_cons (ps_if (pt_not (pt_chain op_le op_le pe_int (pe_callB call_len_str (by rfl) T.len PySem.boot_len (pa_cons (pv 0) pa_nil)) (pe_glob (v := .int (8)) (by rfl) D.g_LONGEST_NAME ⟨_, rfl⟩))) (pss_one (ps_ret pe_bl)) pss_nil)
      (pss_one (ps_ret (pe_callB (cr_all rfl) (by rfl) T.all (by decide +kernel) (pa_cons (pe_lc (own := [("letter", 1)]) (g := gName 1) (tt := tYes) rfl nd (pi_str (pv 0)) (blkOk_by (N := ["thing", "letter"]) (sc := defScope s_is_name) (by decide +kernel)) (fun _ _ _ _ _ => (pg_name (i := 1) nd rfl (Or.inl rfl))) (fun _ _ _ _ _ => pts_nil) (fun _ _ _ _ _ => (pe_cmpR op_in_sign (pv 1) (pe_glob (v := .str (Str.ofString "abcdefghijklmnopqrstuvwxyz")) (by rfl) D.g_SMALL_LETTERS ⟨_, rfl⟩) (by rfl)))) pa_nil))))), ?_⟩
    obtain ⟨t, ty, k1⟩ := hv.tyS (K := K)
    refine ⟨_, rfl, v, .ty "str", t, _, isStr v, rfl, .ty _, ty, k1, _, rfl, ?_⟩
    cases hv with
    | str z =>
      refine iteF ?_
      refine ⟨_, rfl, z, rfl, hz z rfl, _, _, rfl, rfl, _, rfl, ?_⟩
      by_cases h1 : 1 ≤ z.length
      · rw [if_pos (decide_eq_true (show (1 : Int) ≤ (z.length : Nat) by omega))]
        refine ⟨_, _, rfl, rfl, _, rfl, ?_⟩
        by_cases h8 : z.length ≤ 8
        · rw [decide_eq_true (show ((z.length : Nat) : Int) ≤ 8 by omega)]
          refine iteF ?_
          refine ⟨_, rfl, z, rfl, fun D nD => ?_⟩
          refine lc_it walk_str (fun i H' => Same H H' ∧ H' D = some (.lst (((z.cps.toList.take i).map small).map V.bl))) ⟨same_upd nD, upd_same⟩ (fun _ _ _ _ => trivial) ?_ ?_
          · rintro i x H1 H2 hi ⟨sm, eD⟩ ⟨rfl, c, hc, rfl⟩
            have hc' : z.cps.toList[i]? = some c := by rw [Array.getElem?_toList]; exact hc
            refine ⟨rfl, _, rfl, c, _, rfl, rfl, ?_⟩
            rw [small_mem]
            refine ⟨_, eD, ?_, same_app nD sm, ?_⟩
            · rw [List.length_map, List.length_map, List.length_take]
              have : z.cps.size = z.length := rfl
              have := Nat.min_le_left i z.cps.toList.length
              exact small2k (by omega)
            · rw [upd_same, ← take_more small hc', List.map_append]
              rfl
          · rintro H2 ⟨sm, eD⟩
            refine ⟨D, (z.cps.toList.take z.cps.size).map small, rfl, SqL.of eD, ?_⟩
            have e : nameB (.str z) = ((z.cps.toList.take z.cps.size).map small).all id := by
              show (decide (1 ≤ z.length) && decide (z.length ≤ 8) && z.cps.toList.all small) = _
              rw [decide_eq_true h1, decide_eq_true h8, ← Array.length_toList, List.take_length, List.all_map]
              rfl
            rw [← e]
            exact q H2 sm
        · rw [decide_eq_false (show ¬ ((z.length : Nat) : Int) ≤ 8 by omega)]
          show Q (.bl false) H
          have e : nameB (.str z) = false := by
            show (decide (1 ≤ z.length) && decide (z.length ≤ 8) && z.cps.toList.all small) = _
            rw [decide_eq_false h8, Bool.and_false]
            rfl
          rw [e] at q
          exact q H (Same.refl _)
      · rw [if_neg (by rw [decide_eq_false (show ¬ (1 : Int) ≤ (z.length : Nat) by omega)]; nofun)]
        refine ⟨_, rfl, ?_⟩
        show Q (.bl false) H
        have e : nameB (.str z) = false := by
          show (decide (1 ≤ z.length) && decide (z.length ≤ 8) && z.cps.toList.all small) = _
          rw [decide_eq_false h1]
          rfl
        rw [e] at q
        exact q H (Same.refl _)
    | _ => exact q H (Same.refl _)
theorem sc_is_place : FnScope ["thing"] ["thing"] (defScope s_is_place) := ⟨rfl, rfl, rfl, by decide +kernel, rfl, by decide +kernel, by decide +kernel⟩
theorem ok_is_place (D : All K P mg) : FnOk P w K mg base CX0 2 D.f_is_place D.d_is_place ["thing"] spPlaceB := by
  refine D.h_is_place.fn.ok sc_is_place (fun vs H Q E h => ?_) (fun cdv A outer s H vs Q E hr h => ?_)
  · first | (obtain ⟨_, rfl, _⟩ := h; rfl) | (obtain ⟨_, _, rfl, _⟩ := h; rfl) | (obtain ⟨_, _, _, rfl, _⟩ := h; rfl) | (obtain ⟨_, _, _, _, rfl, _⟩ := h; rfl) | (obtain ⟨_, _, _, _, _, rfl, _⟩ := h; rfl) | (obtain ⟨_, _, _, _, _, _, rfl, _⟩ := h; rfl) | (obtain ⟨_, _, _, _, _, _, _, rfl, _⟩ := h; rfl) | (obtain ⟨_, _, _, _, _, _, _, _, rfl, _⟩ := h; rfl) | (obtain ⟨_, _, _, _, _, _, _, _, _, rfl, _⟩ := h; rfl) | (obtain ⟨_, _, _, _, _, _, _, _, _, _, rfl, _⟩ := h; rfl) | (obtain ⟨_, _, _, _, _, _, _, _, _, _, _, rfl, _⟩ := h; rfl) | (obtain ⟨_, _, _, _, _, _, _, _, _, _, _, _, rfl, _⟩ := h; rfl) | (obtain ⟨_, _, _, _, _, _, _, _, _, _, _, _, _, rfl, _⟩ := h; rfl) | (obtain ⟨_, _, _, _, _, _, _, _, _, _, _, _, _, _, rfl, _⟩ := h; rfl) | (obtain ⟨_, _, _, _, _, _, _, _, _, _, _, _, _, _, _, rfl, _⟩ := h; rfl)
  · have T := D.T
    have nd := sc_is_place.nd
    have hu := hr.units
    have hu1 := hu_of hr
    have hu0 := hr.units0
    obtain ⟨v, rfl, hv, hz, q⟩ := h
    refine ⟨_, pss_one (ps_ret (pe_or (pe_call (ok_is_name D) (hr.mono (by decide)) (by rfl) D.h_is_name.gl D.h_is_name.fn.kp D.h_is_name.bd .nil pass0 (pa_cons (pv 0) pa_nil)) (pe_one (pe_and (pe_callB call_isi (by rfl) T.isi (by decide +kernel) (pa_cons (pv 0) (pa_cons (pe_bltn (v := .ty "str") (by rfl) T.str (by decide +kernel) rfl) pa_nil))) (pe_one (pe_cmpR op_eq (pv 0) (pe_glob (v := .str (Str.ofString "")) (by rfl) D.g_ASHORE ⟨_, rfl⟩) (nomark _))))))), ?_⟩
    refine ⟨_, rfl, v, rfl, hv, hz, fun H1 s1 => ⟨_, rfl, ?_⟩⟩
    obtain ⟨t, ty, k1⟩ := (hv.mono s1).tyS (K := K)
    cases hv with
    | str z =>
      have q' : ∀ H', Same H H' → Q (.bl (nameB (.str z) || decide (z = Str.ofString ""))) H' := q
      cases hn : nameB (.str z) with
      | true =>
        rw [hn] at q'
        exact q' H1 s1
      | false =>
        rw [hn] at q'
        refine ⟨_, rfl, .str z, .ty "str", t, _, true, rfl, .ty _, ty, k1, _, rfl, ⟨_, rfl, rfl, ?_⟩⟩
        have e : decide (V.str z = V.str (Str.ofString "")) = decide (z = Str.ofString "") := by
          by_cases h : z = Str.ofString ""
          · rw [decide_eq_true h, decide_eq_true (by rw [h])]
          · rw [decide_eq_false h, decide_eq_false (fun e => h (V.str.inj e))]
        rw [e]
        exact q' H1 s1
    | _ => exact ⟨_, rfl, _, .ty "str", t, _, false, rfl, .ty _, ty, k1, _, rfl, q H1 s1⟩
theorem sc_check_day : FnScope ["thing"] ["thing"] (defScope s_check_day) := ⟨rfl, rfl, rfl, by decide +kernel, rfl, by decide +kernel, by decide +kernel⟩
theorem ok_check_day (D : All K P mg) : FnOk P w K mg base CX0 4 D.f_check_day D.d_check_day ["thing"] spCkDay := by
  refine D.h_check_day.fn.ok sc_check_day (fun vs H Q E h => ?_) (fun cdv A outer s H vs Q E hr h => ?_)
  · first | (obtain ⟨_, rfl, _⟩ := h; rfl) | (obtain ⟨_, _, rfl, _⟩ := h; rfl) | (obtain ⟨_, _, _, rfl, _⟩ := h; rfl) | (obtain ⟨_, _, _, _, rfl, _⟩ := h; rfl) | (obtain ⟨_, _, _, _, _, rfl, _⟩ := h; rfl) | (obtain ⟨_, _, _, _, _, _, rfl, _⟩ := h; rfl) | (obtain ⟨_, _, _, _, _, _, _, rfl, _⟩ := h; rfl) | (obtain ⟨_, _, _, _, _, _, _, _, rfl, _⟩ := h; rfl) | (obtain ⟨_, _, _, _, _, _, _, _, _, rfl, _⟩ := h; rfl) | (obtain ⟨_, _, _, _, _, _, _, _, _, _, rfl, _⟩ := h; rfl) | (obtain ⟨_, _, _, _, _, _, _, _, _, _, _, rfl, _⟩ := h; rfl) | (obtain ⟨_, _, _, _, _, _, _, _, _, _, _, _, rfl, _⟩ := h; rfl) | (obtain ⟨_, _, _, _, _, _, _, _, _, _, _, _, _, rfl, _⟩ := h; rfl) | (obtain ⟨_, _, _, _, _, _, _, _, _, _, _, _, _, _, rfl, _⟩ := h; rfl) | (obtain ⟨_, _, _, _, _, _, _, _, _, _, _, _, _, _, _, rfl, _⟩ := h; rfl)
  · have T := D.T
    have nd := sc_check_day.nd
    have hu := hr.units
    have hu1 := hu_of hr
    have hu0 := hr.units0
    obtain ⟨i, rfl, h0, q⟩ := h
    refine ⟨_, pss_one (ps_if (pt_not (pt_val (pe_call (ok_is_day D) (hr.mono (by decide)) (by rfl) D.h_is_day.gl D.h_is_day.fn.kp D.h_is_day.bd .nil pass0 (pa_cons (pv 0) pa_nil)))) (pss_one ps_never) pss_nil), ?_⟩
    refine ⟨_, rfl, .int i, rfl, .int i, _, rfl, ?_⟩
    have e : fromB (.int i) 0 = true := decide_eq_true h0
    rw [e]
    exact iteF q
theorem sc_check_known : FnScope ["thing"] ["thing"] (defScope s_check_known) := ⟨rfl, rfl, rfl, by decide +kernel, rfl, by decide +kernel, by decide +kernel⟩
theorem ok_check_known (D : All K P mg) : FnOk P w K mg base CX0 5 D.f_check_known D.d_check_known ["thing"] spCkKnown := by
  refine D.h_check_known.fn.ok sc_check_known (fun vs H Q E h => ?_) (fun cdv A outer s H vs Q E hr h => ?_)
  · first | (obtain ⟨_, rfl, _⟩ := h; rfl) | (obtain ⟨_, _, rfl, _⟩ := h; rfl) | (obtain ⟨_, _, _, rfl, _⟩ := h; rfl) | (obtain ⟨_, _, _, _, rfl, _⟩ := h; rfl) | (obtain ⟨_, _, _, _, _, rfl, _⟩ := h; rfl) | (obtain ⟨_, _, _, _, _, _, rfl, _⟩ := h; rfl) | (obtain ⟨_, _, _, _, _, _, _, rfl, _⟩ := h; rfl) | (obtain ⟨_, _, _, _, _, _, _, _, rfl, _⟩ := h; rfl) | (obtain ⟨_, _, _, _, _, _, _, _, _, rfl, _⟩ := h; rfl) | (obtain ⟨_, _, _, _, _, _, _, _, _, _, rfl, _⟩ := h; rfl) | (obtain ⟨_, _, _, _, _, _, _, _, _, _, _, rfl, _⟩ := h; rfl) | (obtain ⟨_, _, _, _, _, _, _, _, _, _, _, _, rfl, _⟩ := h; rfl) | (obtain ⟨_, _, _, _, _, _, _, _, _, _, _, _, _, rfl, _⟩ := h; rfl) | (obtain ⟨_, _, _, _, _, _, _, _, _, _, _, _, _, _, rfl, _⟩ := h; rfl) | (obtain ⟨_, _, _, _, _, _, _, _, _, _, _, _, _, _, _, rfl, _⟩ := h; rfl)
  · have T := D.T
    have nd := sc_check_known.nd
    have hu := hr.units
    have hu1 := hu_of hr
    have hu0 := hr.units0
    obtain ⟨kn, rfl, h0, q⟩ := h
    refine ⟨_, pss_one (ps_if (pt_cmpR op_notN (pv 0) pe_non (nomark _)) (pss_one (ps_expr (pe_call (ok_check_day D) (hr.mono (by decide)) (by rfl) D.h_check_day.gl D.h_check_day.fn.kp D.h_check_day.bd .nil pass0 (pa_cons (pv 0) pa_nil)))) pss_nil), ?_⟩
    refine ⟨_, rfl, rfl, _, rfl, ?_⟩
    cases kn with
    | none => exact iteF q
    | some k => exact iteT ⟨_, rfl, k, rfl, h0 k rfl, q⟩
theorem sc_check_days : FnScope ["day", "known"] ["day", "known"] (defScope s_check_days) := ⟨rfl, rfl, rfl, by decide +kernel, rfl, by decide +kernel, by decide +kernel⟩
theorem ok_check_days (D : All K P mg) : FnOk P w K mg base CX0 6 D.f_check_days D.d_check_days ["day", "known"] spCkDays := by
  refine D.h_check_days.fn.ok sc_check_days (fun vs H Q E h => ?_) (fun cdv A outer s H vs Q E hr h => ?_)
  · first | (obtain ⟨_, rfl, _⟩ := h; rfl) | (obtain ⟨_, _, rfl, _⟩ := h; rfl) | (obtain ⟨_, _, _, rfl, _⟩ := h; rfl) | (obtain ⟨_, _, _, _, rfl, _⟩ := h; rfl) | (obtain ⟨_, _, _, _, _, rfl, _⟩ := h; rfl) | (obtain ⟨_, _, _, _, _, _, rfl, _⟩ := h; rfl) | (obtain ⟨_, _, _, _, _, _, _, rfl, _⟩ := h; rfl) | (obtain ⟨_, _, _, _, _, _, _, _, rfl, _⟩ := h; rfl) | (obtain ⟨_, _, _, _, _, _, _, _, _, rfl, _⟩ := h; rfl) | (obtain ⟨_, _, _, _, _, _, _, _, _, _, rfl, _⟩ := h; rfl) | (obtain ⟨_, _, _, _, _, _, _, _, _, _, _, rfl, _⟩ := h; rfl) | (obtain ⟨_, _, _, _, _, _, _, _, _, _, _, _, rfl, _⟩ := h; rfl) | (obtain ⟨_, _, _, _, _, _, _, _, _, _, _, _, _, rfl, _⟩ := h; rfl) | (obtain ⟨_, _, _, _, _, _, _, _, _, _, _, _, _, _, rfl, _⟩ := h; rfl) | (obtain ⟨_, _, _, _, _, _, _, _, _, _, _, _, _, _, _, rfl, _⟩ := h; rfl)
  · have T := D.T
    have nd := sc_check_days.nd
    have hu := hr.units
    have hu1 := hu_of hr
    have hu0 := hr.units0
    obtain ⟨i, kn, rfl, h0, hk, q⟩ := h
    refine ⟨_, pss_cons (ps_expr (pe_call (ok_check_day D) (hr.mono (by decide)) (by rfl) D.h_check_day.gl D.h_check_day.fn.kp D.h_check_day.bd .nil pass0 (pa_cons (pv 0) pa_nil)))
      (pss_one (ps_expr (pe_call (ok_check_known D) (hr.mono (by decide)) (by rfl) D.h_check_known.gl D.h_check_known.fn.kp D.h_check_known.bd .nil pass0 (pa_cons (pv 1) pa_nil)))), ?_⟩
    exact ⟨_, rfl, i, rfl, h0, _, rfl, kn, rfl, hk, q⟩
theorem sc_check_light : FnScope ["thing"] ["thing"] (defScope s_check_light) := ⟨rfl, rfl, rfl, by decide +kernel, rfl, by decide +kernel, by decide +kernel⟩
theorem ok_check_light (D : All K P mg) : FnOk P w K mg base CX0 2 D.f_check_light D.d_check_light ["thing"] spCkLight := by
  refine D.h_check_light.fn.ok sc_check_light (fun vs H Q E h => ?_) (fun cdv A outer s H vs Q E hr h => ?_)
  · first | (obtain ⟨_, rfl, _⟩ := h; rfl) | (obtain ⟨_, _, rfl, _⟩ := h; rfl) | (obtain ⟨_, _, _, rfl, _⟩ := h; rfl) | (obtain ⟨_, _, _, _, rfl, _⟩ := h; rfl) | (obtain ⟨_, _, _, _, _, rfl, _⟩ := h; rfl) | (obtain ⟨_, _, _, _, _, _, rfl, _⟩ := h; rfl) | (obtain ⟨_, _, _, _, _, _, _, rfl, _⟩ := h; rfl) | (obtain ⟨_, _, _, _, _, _, _, _, rfl, _⟩ := h; rfl) | (obtain ⟨_, _, _, _, _, _, _, _, _, rfl, _⟩ := h; rfl) | (obtain ⟨_, _, _, _, _, _, _, _, _, _, rfl, _⟩ := h; rfl) | (obtain ⟨_, _, _, _, _, _, _, _, _, _, _, rfl, _⟩ := h; rfl) | (obtain ⟨_, _, _, _, _, _, _, _, _, _, _, _, rfl, _⟩ := h; rfl) | (obtain ⟨_, _, _, _, _, _, _, _, _, _, _, _, _, rfl, _⟩ := h; rfl) | (obtain ⟨_, _, _, _, _, _, _, _, _, _, _, _, _, _, rfl, _⟩ := h; rfl) | (obtain ⟨_, _, _, _, _, _, _, _, _, _, _, _, _, _, _, rfl, _⟩ := h; rfl)
  · have T := D.T
    have nd := sc_check_light.nd
    have hu := hr.units
    have hu1 := hu_of hr
    have hu0 := hr.units0
    obtain ⟨z, rfl, hz, q⟩ := h
    refine ⟨_, pss_one (ps_if (pt_not (pt_val (pe_call (ok_is_name D) (hr.mono (by decide)) (by rfl) D.h_is_name.gl D.h_is_name.fn.kp D.h_is_name.bd .nil pass0 (pa_cons (pv 0) pa_nil)))) (pss_one ps_never) pss_nil), ?_⟩
    have l8 := hz.l8
    refine ⟨_, rfl, .str z, rfl, .str z, fun y e => by cases e; rw [sizeLine_eq]; omega, fun H1 s1 => ⟨_, rfl, ?_⟩⟩
    rw [hz.b]
    exact iteF (q H1 s1)
theorem sc_check_place : FnScope ["thing"] ["thing"] (defScope s_check_place) := ⟨rfl, rfl, rfl, by decide +kernel, rfl, by decide +kernel, by decide +kernel⟩
theorem ok_check_place (D : All K P mg) : FnOk P w K mg base CX0 3 D.f_check_place D.d_check_place ["thing"] spCkPlace := by
  refine D.h_check_place.fn.ok sc_check_place (fun vs H Q E h => ?_) (fun cdv A outer s H vs Q E hr h => ?_)
  · first | (obtain ⟨_, rfl, _⟩ := h; rfl) | (obtain ⟨_, _, rfl, _⟩ := h; rfl) | (obtain ⟨_, _, _, rfl, _⟩ := h; rfl) | (obtain ⟨_, _, _, _, rfl, _⟩ := h; rfl) | (obtain ⟨_, _, _, _, _, rfl, _⟩ := h; rfl) | (obtain ⟨_, _, _, _, _, _, rfl, _⟩ := h; rfl) | (obtain ⟨_, _, _, _, _, _, _, rfl, _⟩ := h; rfl) | (obtain ⟨_, _, _, _, _, _, _, _, rfl, _⟩ := h; rfl) | (obtain ⟨_, _, _, _, _, _, _, _, _, rfl, _⟩ := h; rfl) | (obtain ⟨_, _, _, _, _, _, _, _, _, _, rfl, _⟩ := h; rfl) | (obtain ⟨_, _, _, _, _, _, _, _, _, _, _, rfl, _⟩ := h; rfl) | (obtain ⟨_, _, _, _, _, _, _, _, _, _, _, _, rfl, _⟩ := h; rfl) | (obtain ⟨_, _, _, _, _, _, _, _, _, _, _, _, _, rfl, _⟩ := h; rfl) | (obtain ⟨_, _, _, _, _, _, _, _, _, _, _, _, _, _, rfl, _⟩ := h; rfl) | (obtain ⟨_, _, _, _, _, _, _, _, _, _, _, _, _, _, _, rfl, _⟩ := h; rfl)
  · have T := D.T
    have nd := sc_check_place.nd
    have hu := hr.units
    have hu1 := hu_of hr
    have hu0 := hr.units0
    obtain ⟨z, rfl, hz, q⟩ := h
    refine ⟨_, pss_one (ps_if (pt_not (pt_val (pe_call (ok_is_place D) (hr.mono (by decide)) (by rfl) D.h_is_place.gl D.h_is_place.fn.kp D.h_is_place.bd .nil pass0 (pa_cons (pv 0) pa_nil)))) (pss_one ps_never) pss_nil), ?_⟩
    have l8 := pl_len hz
    refine ⟨_, rfl, .str z, rfl, .str z, fun y e => by cases e; rw [sizeLine_eq]; omega, fun H1 s1 => ⟨_, rfl, ?_⟩⟩
    rw [pl_b hz]
    exact iteF (q H1 s1)
theorem sc_check_number : FnScope ["thing", "least"] ["thing", "least"] (defScope s_check_number) := ⟨rfl, rfl, rfl, by decide +kernel, rfl, by decide +kernel, by decide +kernel⟩
theorem ok_check_number (D : All K P mg) : FnOk P w K mg base CX0 3 D.f_check_number D.d_check_number ["thing", "least"] spCkNumber := by
  refine D.h_check_number.fn.ok sc_check_number (fun vs H Q E h => ?_) (fun cdv A outer s H vs Q E hr h => ?_)
  · first | (obtain ⟨_, rfl, _⟩ := h; rfl) | (obtain ⟨_, _, rfl, _⟩ := h; rfl) | (obtain ⟨_, _, _, rfl, _⟩ := h; rfl) | (obtain ⟨_, _, _, _, rfl, _⟩ := h; rfl) | (obtain ⟨_, _, _, _, _, rfl, _⟩ := h; rfl) | (obtain ⟨_, _, _, _, _, _, rfl, _⟩ := h; rfl) | (obtain ⟨_, _, _, _, _, _, _, rfl, _⟩ := h; rfl) | (obtain ⟨_, _, _, _, _, _, _, _, rfl, _⟩ := h; rfl) | (obtain ⟨_, _, _, _, _, _, _, _, _, rfl, _⟩ := h; rfl) | (obtain ⟨_, _, _, _, _, _, _, _, _, _, rfl, _⟩ := h; rfl) | (obtain ⟨_, _, _, _, _, _, _, _, _, _, _, rfl, _⟩ := h; rfl) | (obtain ⟨_, _, _, _, _, _, _, _, _, _, _, _, rfl, _⟩ := h; rfl) | (obtain ⟨_, _, _, _, _, _, _, _, _, _, _, _, _, rfl, _⟩ := h; rfl) | (obtain ⟨_, _, _, _, _, _, _, _, _, _, _, _, _, _, rfl, _⟩ := h; rfl) | (obtain ⟨_, _, _, _, _, _, _, _, _, _, _, _, _, _, _, rfl, _⟩ := h; rfl)
  · have T := D.T
    have nd := sc_check_number.nd
    have hu := hr.units
    have hu1 := hu_of hr
    have hu0 := hr.units0
    obtain ⟨i, l, rfl, h0, q⟩ := h
    refine ⟨_, pss_one (ps_if (pt_not (pt_val (pe_call (ok_is_from D) (hr.mono (by decide)) (by rfl) D.h_is_from.gl D.h_is_from.fn.kp D.h_is_from.bd .nil pass0 (pa_cons (pv 0) (pa_cons (pv 1) pa_nil))))) (pss_one ps_never) pss_nil), ?_⟩
    refine ⟨_, rfl, _, rfl, .int i, l, rfl, .int i, _, rfl, ?_⟩
    have e : fromB (.int i) l = true := decide_eq_true h0
    rw [e]
    exact iteF q
theorem sc_History___init__ : FnScope ["self"] ["self"] (defScope s_History___init__) := ⟨rfl, rfl, rfl, by decide +kernel, rfl, by decide +kernel, by decide +kernel⟩
theorem ok_History___init__ (D : All K P mg) : FnOk P w K mg base CX0 1 D.f_History___init__ D.d_History___init__ ["self"] (spHInit D.C_History) := by
  refine D.h_History___init__.fn.ok sc_History___init__ (fun vs H Q E h => ?_) (fun cdv A outer s H vs Q E hr h => ?_)
  · first | (obtain ⟨_, rfl, _⟩ := h; rfl) | (obtain ⟨_, _, rfl, _⟩ := h; rfl) | (obtain ⟨_, _, _, rfl, _⟩ := h; rfl) | (obtain ⟨_, _, _, _, rfl, _⟩ := h; rfl) | (obtain ⟨_, _, _, _, _, rfl, _⟩ := h; rfl) | (obtain ⟨_, _, _, _, _, _, rfl, _⟩ := h; rfl) | (obtain ⟨_, _, _, _, _, _, _, rfl, _⟩ := h; rfl) | (obtain ⟨_, _, _, _, _, _, _, _, rfl, _⟩ := h; rfl) | (obtain ⟨_, _, _, _, _, _, _, _, _, rfl, _⟩ := h; rfl) | (obtain ⟨_, _, _, _, _, _, _, _, _, _, rfl, _⟩ := h; rfl) | (obtain ⟨_, _, _, _, _, _, _, _, _, _, _, rfl, _⟩ := h; rfl) | (obtain ⟨_, _, _, _, _, _, _, _, _, _, _, _, rfl, _⟩ := h; rfl) | (obtain ⟨_, _, _, _, _, _, _, _, _, _, _, _, _, rfl, _⟩ := h; rfl) | (obtain ⟨_, _, _, _, _, _, _, _, _, _, _, _, _, _, rfl, _⟩ := h; rfl) | (obtain ⟨_, _, _, _, _, _, _, _, _, _, _, _, _, _, _, rfl, _⟩ := h; rfl)
  · have T := D.T
    have nd := sc_History___init__.nd
    have hu := hr.units
    have hu1 := hu_of hr
    have hu0 := hr.units0
    obtain ⟨x, dx, rfl, hx, q⟩ := h
    refine ⟨_, pss_one (ps_fld (pv 0) pe_dnewK rfl), ?_⟩
    refine fun N nN => ?_
    have nx : x ≠ N := ne_of_none hx nN
    have s1 := same_upd (o := .dK []) nN
    have eN := upd_same (H := H) (a := N) (o := .dK [])
    generalize upd H N (.dK []) = H1 at *
    refine ⟨_, rfl, x, _, dx, _, rfl, s1 _ _ hx, D.Z_History.cl, D.n_History_by_day, by decide, ?_⟩
    refine q ⟨x, dx, N, [], []⟩ _ rfl rfl rfl nN ⟨upd_same, ?_, .nil, List.nodup_cons.mpr ⟨fun h => nx (List.mem_singleton.mp h), List.nodup_cons.mpr ⟨nofun, List.nodup_nil⟩⟩, List.nodup_nil⟩ (SameB.upd (SameB.of s1))
    show upd H1 x _ N = _
    rw [upd_ne nx.symm]
    exact eN
theorem sc_History_note : FnScope ["self", "known", "day", "worth", "told"] ["self", "known", "day", "worth"] (defScope s_History_note) := ⟨rfl, rfl, rfl, by decide +kernel, rfl, by decide +kernel, by decide +kernel⟩
theorem ok_History_note (D : All K P mg) : FnOk P w K mg base CX0 1 D.f_History_note D.d_History_note ["self", "known", "day", "worth"] (spNote D.C_History) := by
  refine D.h_History_note.fn.ok sc_History_note (fun vs H Q E h => ?_) (fun cdv A outer s H vs Q E hr h => ?_)
  · first | (obtain ⟨_, rfl, _⟩ := h; rfl) | (obtain ⟨_, _, rfl, _⟩ := h; rfl) | (obtain ⟨_, _, _, rfl, _⟩ := h; rfl) | (obtain ⟨_, _, _, _, rfl, _⟩ := h; rfl) | (obtain ⟨_, _, _, _, _, rfl, _⟩ := h; rfl) | (obtain ⟨_, _, _, _, _, _, rfl, _⟩ := h; rfl) | (obtain ⟨_, _, _, _, _, _, _, rfl, _⟩ := h; rfl) | (obtain ⟨_, _, _, _, _, _, _, _, rfl, _⟩ := h; rfl) | (obtain ⟨_, _, _, _, _, _, _, _, _, rfl, _⟩ := h; rfl) | (obtain ⟨_, _, _, _, _, _, _, _, _, _, rfl, _⟩ := h; rfl) | (obtain ⟨_, _, _, _, _, _, _, _, _, _, _, rfl, _⟩ := h; rfl) | (obtain ⟨_, _, _, _, _, _, _, _, _, _, _, _, rfl, _⟩ := h; rfl) | (obtain ⟨_, _, _, _, _, _, _, _, _, _, _, _, _, rfl, _⟩ := h; rfl) | (obtain ⟨_, _, _, _, _, _, _, _, _, _, _, _, _, _, rfl, _⟩ := h; rfl) | (obtain ⟨_, _, _, _, _, _, _, _, _, _, _, _, _, _, _, rfl, _⟩ := h; rfl)
  · have T := D.T
    have nd := sc_History_note.nd
    have hu := hr.units
    have hu1 := hu_of hr
    have hu0 := hr.units0
    obtain ⟨a, kn, d, w, rfl, W, ok, q⟩ := h
    refine ⟨_, pss_cons (ps_set (i := 4) nd rfl (.inl rfl) (pe_dsetd (pe_fld (pv 0) rfl) (pv 2) pe_dnewK ⟨rfl, rfl, rfl, rfl⟩))
      (pss_one (ps_dput hu1 (pv 4) (pv 1) (pv 3) rfl)), ?_⟩
    have gl := W.glen
    have gl2 := ok.1
    refine ⟨_, rfl, a.x, _, a.dx, _, _, rfl, W.ix, D.Z_History.cl, D.n_History_by_day, rfl, a.D, rfl, .inl ⟨_, .inl W.bd⟩, _, rfl, fun T nT => ?_⟩
    have s1 := same_upd (o := .dK []) nT
    have eT := upd_same (H := H) (a := T) (o := .dK [])
    generalize upd H T (.dK []) = H1 at *
    have W1 := W.mono s1
    refine ⟨dayK a.g, .inl d, W1.bd, rfl, by rw [day_len]; exact small2k (by omega), fun v hv => ?_, fun hn => ?_⟩
    · rw [day_val] at hv
      rcases paired_at (d := d) W1.ta with ⟨e, _⟩ | ⟨T0, t, e1, e2, e3⟩
      · rw [e] at hv
        cases hv
      · rw [e1] at hv
        cases hv
        have tl := ok.2 (d, t) (getA_mem e2)
        have tl : t.length ≤ 60 := tl
        refine ⟨_, rfl, _, rfl, _, rfl, _, _, rfl, DPut.k (k := Sum.inl kn) e3 (by rw [told_len]; exact small2k (by omega)), ?_⟩
        rw [told_put]
        have mT : T0 ∈ a.fp := List.mem_cons_of_mem _ (List.mem_cons_of_mem _ (List.mem_map.mpr ⟨_, getA_mem e1, rfl⟩))
        exact q { a with h := noteH a.h kn d w } _ rfl rfl (W1.note1 e1 e2 upd_same fun c n o e => by rw [upd_ne n]; exact e) (fun c hc => .inl hc) (SameL.upd mT (SameL.of s1))
    · rw [day_val] at hn
      rcases paired_at (d := d) W1.ta with ⟨e1, e2⟩ | ⟨T0, t, e1, e2, e3⟩
      · have nD : T ≠ a.D := fun z => by
          rw [z, W.bd] at nT
          cases nT
        have eT2 : upd H1 a.D (.dK (putK (dayK a.g) (Sum.inl d) (V.ref T))) T = some (.dK (toldK [])) := by rw [upd_ne nD]; exact eT
        refine ⟨_, rfl, _, rfl, _, rfl, _, _, rfl, DPut.k (k := Sum.inl kn) eT2 (by decide), ?_⟩
        rw [told_put, day_put, putA_new e1]
        have mD : a.D ∈ a.fp := List.mem_cons_of_mem _ List.mem_cons_self
        refine q { a with g := a.g ++ [(d, T)], h := noteH a.h kn d w } _ rfl rfl (W.note2 e1 e2 nT upd_same ?_ ?_) ?_ ?_
        · rw [upd_ne nD.symm]
          exact upd_same
        · intro c n1 n2 o e
          rw [upd_ne n1, upd_ne n2]
          exact s1 _ _ e
        · intro c hc
          rcases List.mem_cons.mp hc with rfl | hc
          · exact .inl List.mem_cons_self
          rcases List.mem_cons.mp hc with rfl | hc
          · exact .inl mD
          rw [List.map_append, List.mem_append] at hc
          rcases hc with hc | hc
          · exact .inl (List.mem_cons_of_mem _ (List.mem_cons_of_mem _ hc))
          · rw [List.mem_singleton.mp hc]
            exact .inr nT
        · intro c o n e
          rw [upd_ne (ne_of_none e nT), upd_ne (fun z : c = a.D => n (by rw [z]; exact mD))]
          exact s1 _ _ e
      · rw [e1] at hn
        cases hn
theorem sc_History_told_last : FnScope ["self", "day", "known", "told", "counting", "each"] ["self", "day", "known"] (defScope s_History_told_last) := ⟨rfl, rfl, rfl, by decide +kernel, rfl, by decide +kernel, by decide +kernel⟩
theorem ok_History_told_last (D : All K P mg) : FnOk P w K mg base CX0 1 D.f_History_told_last D.d_History_told_last ["self", "day", "known"] (spLast D.C_History) := by
  refine D.h_History_told_last.fn.ok sc_History_told_last (fun vs H Q E h => ?_) (fun cdv A outer s H vs Q E hr h => ?_)
  · first | (obtain ⟨_, rfl, _⟩ := h; rfl) | (obtain ⟨_, _, rfl, _⟩ := h; rfl) | (obtain ⟨_, _, _, rfl, _⟩ := h; rfl) | (obtain ⟨_, _, _, _, rfl, _⟩ := h; rfl) | (obtain ⟨_, _, _, _, _, rfl, _⟩ := h; rfl) | (obtain ⟨_, _, _, _, _, _, rfl, _⟩ := h; rfl) | (obtain ⟨_, _, _, _, _, _, _, rfl, _⟩ := h; rfl) | (obtain ⟨_, _, _, _, _, _, _, _, rfl, _⟩ := h; rfl) | (obtain ⟨_, _, _, _, _, _, _, _, _, rfl, _⟩ := h; rfl) | (obtain ⟨_, _, _, _, _, _, _, _, _, _, rfl, _⟩ := h; rfl) | (obtain ⟨_, _, _, _, _, _, _, _, _, _, _, rfl, _⟩ := h; rfl) | (obtain ⟨_, _, _, _, _, _, _, _, _, _, _, _, rfl, _⟩ := h; rfl) | (obtain ⟨_, _, _, _, _, _, _, _, _, _, _, _, _, rfl, _⟩ := h; rfl) | (obtain ⟨_, _, _, _, _, _, _, _, _, _, _, _, _, _, rfl, _⟩ := h; rfl) | (obtain ⟨_, _, _, _, _, _, _, _, _, _, _, _, _, _, _, rfl, _⟩ := h; rfl)
  · have T := D.T
    have nd := sc_History_told_last.nd
    have hu := hr.units
    have hu1 := hu_of hr
    have hu0 := hr.units0
    obtain ⟨a, d, kn, rfl, W, ok, q⟩ := h
    refine ⟨_, pss_cons (ps_set (i := 3) nd rfl (.inl rfl) (pe_dget2 hu1 (pe_fld (pv 0) rfl) (pv 1) pe_dnewK ⟨rfl, rfl, rfl, rfl⟩))
      (pss_cons (ps_lock (ps_setLc (i := 4) (own := [("each", 5)]) (g := gName 5) rfl nd rfl rfl (sw_true rfl rfl rfl (by decide +kernel)) (pi_keys (pv 3)) (blkOk_by (N := ["self", "day", "known", "told", "counting", "each"]) (sc := defScope s_History_told_last) (by decide +kernel)) (fun _ _ _ _ _ => (pg_name (i := 5) nd rfl (Or.inl rfl))) (fun _ _ _ _ _ => pts_one (PW.pt (pw_or (pt_cmpR op_isN (pv 2) pe_non (nomark _)) (pw_or1 (pt_cmpR op_le (pv 5) (pv 2) (nomark _)))))) (fun _ _ _ _ _ => (pv 5))))
      (pss_one (ps_ret (pe_ifExp (pt_truth (pv 4) (by intro _; rfl)) (pe_dget hu1 (pv 3) (pe_callB (cr_max rfl) (by rfl) T.max (by decide +kernel) (pa_cons (pv 4) pa_nil)) (fun _ _ => rfl)) pe_non)))), ?_⟩
    refine ⟨_, rfl, a.x, _, a.dx, _, _, rfl, W.ix, D.Z_History.cl, D.n_History_by_day, rfl, a.D, rfl, .inl ⟨_, .inl W.bd⟩, _, rfl, fun T nT => ?_⟩
    have s1 := same_upd (o := .dK []) nT
    have eT := upd_same (H := H) (a := T) (o := .dK [])
    generalize upd H T (.dK []) = H1 at *
    have W1 := W.mono s1
    refine ⟨_, DGet.k (k := Sum.inl d) W1.bd, ?_⟩
    have two : ∃ (c : Addr) (t : Told), (valV (dayK a.g) (Sum.inl d)).getD (.ref T) = .ref c ∧ H1 c = some (.dK (toldK t)) ∧ t = (getA a.h d).getD [] ∧ t.length ≤ 60 := by
      rw [day_val]
      rcases paired_at (d := d) W1.ta with ⟨e1, e2⟩ | ⟨T0, t, e1, e2, e3⟩
      · rw [e1, e2]
        exact ⟨T, [], rfl, eT, rfl, by decide⟩
      · rw [e1, e2]
        exact ⟨T0, t, rfl, e3, rfl, ok.2 (d, t) (getA_mem e2)⟩
    obtain ⟨c, t, ec, hc, et, tl⟩ := two
    rw [ec]
    rw [← et] at q
    refine ⟨c, _, hc, trivial, fun od => ?_⟩
    have ef := upd_same (H := H1) (a := c) (o := .frz od (.dK (toldK t)))
    refine ⟨_, rfl, c, od, rfl, .inl ⟨_, ef, fun F nF => ?_⟩⟩
    have nFc : F ≠ c := fun e => by rw [e, ef] at nF; cases nF
    refine lc_it walk_enk (fun i H' => Same (upd H1 c (.frz od (.dK (toldK t)))) H' ∧ H' F = some (.lst ((((t.take i).map (·.1)).filter (ctK kn)).map V.int))) ⟨same_upd nF, upd_same⟩ (fun i H' _ ⟨s, _⟩ => s _ _ ef) ?_ ?_
    · rintro i x H2 H3 hi ⟨s2, eF⟩ ⟨rfl, p, hp, rfl⟩
      have grow : ((t.take (i + 1)).map (·.1)).filter (ctK kn) = ((t.take i).map (·.1)).filter (ctK kn) ++ if ctK kn p.1 = true then [p.1] else [] := by
        rw [← take_more (·.1) hp, List.filter_append, List.filter_cons, List.filter_nil]
      have ln : (((((t.take i).map (·.1)).filter (ctK kn)).map V.int)).length < sizeLine := by
        rw [List.length_map]
        refine small2k (Nat.le_trans (List.length_filter_le _ _) ?_)
        rw [List.length_map, List.length_take]
        omega
      have keep : ctK kn p.1 = true → Same (upd H1 c (.frz od (.dK (toldK t)))) (upd H3 F (.lst ((((t.take i).map (·.1)).filter (ctK kn)).map V.int ++ [V.int p.1]))) ∧ upd H3 F (.lst ((((t.take i).map (·.1)).filter (ctK kn)).map V.int ++ [V.int p.1])) F = some (.lst ((((t.take (i + 1)).map (·.1)).filter (ctK kn)).map V.int)) := fun h => by
        refine ⟨same_app nF s2, ?_⟩
        rw [upd_same, grow, if_pos h, List.map_append]
        rfl
      refine ⟨rfl, _, rfl, rfl, _, rfl, ?_⟩
      cases kn with
      | none => exact ⟨_, rfl, _, eF, ln, keep rfl⟩
      | some k =>
        refine iteF ⟨_, rfl, _, rfl, _, _, rfl, rfl, _, rfl, ?_⟩
        by_cases hk : p.1 ≤ k
        · rw [decide_eq_true hk]
          exact ⟨_, rfl, _, eF, ln, keep (decide_eq_true hk)⟩
        · rw [decide_eq_false hk]
          refine ⟨s2, ?_⟩
          rw [eF, grow, if_neg (show ¬ ctK (some k) p.1 = true from fun h => hk (of_decide_eq_true h)), List.append_nil]
    · rintro H2 ⟨s2, eF⟩
      rw [List.take_length] at eF
      refine ⟨s2 _ _ ef, ?_⟩
      have s3 : Same H1 (upd H2 c (.dK (toldK t))) := lock_back hc s2
      have eF3 : upd H2 c (.dK (toldK t)) F = some (.lst (((t.map (·.1)).filter (ctK kn)).map V.int)) := by rw [upd_ne nFc]; exact eF
      have hc3 : upd H2 c (.dK (toldK t)) c = some (.dK (toldK t)) := upd_same
      generalize upd H2 c (.dK (toldK t)) = H3 at *
      refine ⟨_, rfl, _, .inl ⟨_, SqL.of eF3, rfl⟩, ?_⟩
      have s13 := s1.trans s3
      cases hn : (t.map (·.1)).filter (ctK kn) with
      | nil =>
        refine iteF (q .non H3 (.inl ⟨fun p hp => ?_, rfl⟩) s13)
        rw [List.filter_eq_nil_iff] at hn
        exact bool_false (hn p.1 (List.mem_map.mpr ⟨p, hp, rfl⟩))
      | cons n0 ns =>
        refine iteT ⟨_, rfl, _, rfl, F, n0 :: ns, rfl, by rw [← hn]; exact SqL.of eF3, by simp, fun m hm hle => ?_⟩
        rw [← hn] at hm hle
        obtain ⟨hm1, hm2⟩ := List.mem_filter.mp hm
        obtain ⟨p, hp, rfl⟩ := List.mem_map.mp hm1
        have hg : ∃ w, getA t p.1 = some w := by
          cases e : getA t p.1 with
          | none => exact absurd hm1 (getA_none_iff.mp e)
          | some w => exact ⟨w, rfl⟩
        obtain ⟨w, hw⟩ := hg
        have dg : DGet H3 c (.int p.1) (some w) := by
          have := DGet.k (k := Sum.inl p.1) hc3
          rw [told_val, hw] at this
          exact this
        exact ⟨c, _, rfl, dg, q w H3 (.inr ⟨p.1, hw, hm2, fun p' hp' hc' => hle _ (List.mem_filter.mpr ⟨List.mem_map.mpr ⟨p', hp', rfl⟩, hc'⟩)⟩) s13⟩
theorem sc_History_holding : FnScope ["self", "known", "rows", "day", "worth"] ["self", "known"] (defScope s_History_holding) := ⟨rfl, rfl, rfl, by decide +kernel, rfl, by decide +kernel, by decide +kernel⟩
theorem ok_History_holding (D : All K P mg) : FnOk P w K mg base CX0 2 D.f_History_holding D.d_History_holding ["self", "known"] (spHolding D.C_History) := by
  refine D.h_History_holding.fn.ok sc_History_holding (fun vs H Q E h => ?_) (fun cdv A outer s H vs Q E hr h => ?_)
  · first | (obtain ⟨_, rfl, _⟩ := h; rfl) | (obtain ⟨_, _, rfl, _⟩ := h; rfl) | (obtain ⟨_, _, _, rfl, _⟩ := h; rfl) | (obtain ⟨_, _, _, _, rfl, _⟩ := h; rfl) | (obtain ⟨_, _, _, _, _, rfl, _⟩ := h; rfl) | (obtain ⟨_, _, _, _, _, _, rfl, _⟩ := h; rfl) | (obtain ⟨_, _, _, _, _, _, _, rfl, _⟩ := h; rfl) | (obtain ⟨_, _, _, _, _, _, _, _, rfl, _⟩ := h; rfl) | (obtain ⟨_, _, _, _, _, _, _, _, _, rfl, _⟩ := h; rfl) | (obtain ⟨_, _, _, _, _, _, _, _, _, _, rfl, _⟩ := h; rfl) | (obtain ⟨_, _, _, _, _, _, _, _, _, _, _, rfl, _⟩ := h; rfl) | (obtain ⟨_, _, _, _, _, _, _, _, _, _, _, _, rfl, _⟩ := h; rfl) | (obtain ⟨_, _, _, _, _, _, _, _, _, _, _, _, _, rfl, _⟩ := h; rfl) | (obtain ⟨_, _, _, _, _, _, _, _, _, _, _, _, _, _, rfl, _⟩ := h; rfl) | (obtain ⟨_, _, _, _, _, _, _, _, _, _, _, _, _, _, _, rfl, _⟩ := h; rfl)
  · have T := D.T
    have nd := sc_History_holding.nd
    have hu := hr.units
    have hu1 := hu_of hr
    have hu0 := hr.units0
    obtain ⟨a, kn, rfl, W, ok, q⟩ := h
    refine ⟨_, pss_cons (ps_setLc (i := 2) (own := [("day", 3)]) (g := gName 3) (tt := tYes) rfl nd rfl rfl (sw_true rfl rfl rfl (by decide +kernel)) (pi_list (pe_callB (call_sortedDI rfl) (by rfl) T.sorted (by decide +kernel) (pa_cons (pe_fld (pv 0) rfl) pa_nil))) (blkOk_by (N := ["self", "known", "rows", "day", "worth"]) (sc := defScope s_History_holding) (by decide +kernel)) (fun _ _ _ _ _ => (pg_name (i := 3) nd rfl (Or.inl rfl))) (fun _ _ _ _ _ => pts_nil) (fun _ _ _ _ _ => (pe_tup (pa_cons (pv 3) (pa_cons (pe_meth (pv 0) D.Z_History.cl D.h_History_told_last.me (ok_History_told_last D) (hr.mono (by decide)) D.h_History_told_last.bd .nil pass0 (pa_cons (pv 3) (pa_cons (pv 1) pa_nil))) pa_nil)))))
      (pss_one (ps_ret (pe_lc (own := [("day", 3), ("worth", 4)]) (g := gTup K 2 (gCons (gName 3) (gCons (gName 4) gNil))) rfl nd (pi_list (pv 2)) (blkOk_by (N := ["self", "known", "rows", "day", "worth"]) (sc := defScope s_History_holding) (by decide +kernel)) (fun _ _ _ _ _ => (pg_tup rfl (pgs_cons (pg_name (i := 3) nd rfl (Or.inl rfl)) (pgs_cons (pg_name (i := 4) nd rfl (Or.inl rfl)) pgs_nil)))) (fun _ _ _ _ _ => pts_one (pt_cmpR op_notN (pv 4) pe_non (nomark _))) (fun _ _ _ _ _ => (pe_tup (pa_cons (pv 3) (pa_cons (pv 4) pa_nil))))))), ?_⟩
    have gl := W.glen
    have gl2 := ok.1
    refine ⟨_, rfl, a.x, _, a.dx, _, _, rfl, W.ix, D.Z_History.cl, D.n_History_by_day, rfl, a.D, _, a.g.map (·.1), rfl, .inl W.bd, dayK_keys _, by rw [List.length_map]; omega, fun ys Y perm up nY => ?_⟩
    have s1 := same_upd (o := .lst (ys.map V.int)) nY
    have eY := upd_same (H := H) (a := Y) (o := .lst (ys.map V.int))
    generalize upd H Y (.lst (ys.map V.int)) = H1 at *
    have W1 := W.mono s1
    have ylen : ys.length ≤ 60 := by rw [perm.length_eq, List.length_map]; omega
    refine ⟨Y, rfl, ⟨_, SqL.of eY⟩, fun F nF => ?_⟩
    refine lc_list (K := K) (a := Y) (xs := ys.map V.int) (fun i H' => Same H1 H' ∧ ∃ (ts : List Addr) (rs : List (Int × V)), H' F = some (.lst (ts.map V.ref)) ∧ RowsP H' ts rs ∧ rs.map (·.1) = ys.take i ∧ ∀ p ∈ rs, LastW ((getA a.h p.1).getD []) kn p.2)
      ⟨same_upd nF, [], [], upd_same, .nil, rfl, nofun⟩ (fun i H' _ ⟨s, _⟩ => SqL.of (s _ _ eY)) ?_ ?_
    · rintro i x H2 hx ⟨s2, ts, rs, eF, hp, ek, hl⟩
      rw [List.getElem?_map, Option.map_eq_some_iff] at hx
      obtain ⟨y, hy, rfl⟩ := hx
      have W2 := W1.mono s2
      refine ⟨rfl, _, rfl, _, rfl, a.x, a.dx, _, rfl, W2.ix, rfl, _, rfl, _, rfl, a, y, kn, rfl, W2, ok, fun w H3 lw s3 => ?_⟩
      refine ⟨by show 2 ≤ sizeLine; decide, fun t nt => ?_⟩
      have s4 := same_upd (o := .tup [V.int y, w]) nt
      have et := upd_same (H := H3) (a := t) (o := .tup [V.int y, w])
      generalize upd H3 t (.tup [V.int y, w]) = H4 at *
      have eF4 := s4 _ _ (s3 _ _ eF)
      have hl2 : ts.length = rs.length := Paired.length hp
      have hl3 : rs.length ≤ 60 := by
        have := congrArg List.length ek
        rw [List.length_map, List.length_take] at this
        omega
      refine ⟨_, eF4, by rw [List.length_map]; exact small2k (by omega), same_app nF (s2.trans (s3.trans s4)), ts ++ [t], rs ++ [(y, w)], ?_, ?_, ?_, ?_⟩
      · rw [upd_same, List.map_append]
        rfl
      · exact ((hp.mono (s3.trans s4)).snoc et).upd eF4
      · rw [List.map_append, ek, List.take_add_one, hy]
        rfl
      · intro p hp
        rcases List.mem_append.mp hp with hp | hp
        · exact hl p hp
        · rw [List.mem_singleton.mp hp]
          exact lw
    · rintro H2 ⟨s2, ts, rs, eF, hp, ek, hl⟩
      rw [List.length_map, List.take_length] at ek
      have hl2 : ts.length = rs.length := Paired.length hp
      have hl3 : rs.length = ys.length := by
        have := congrArg List.length ek
        rw [List.length_map] at this
        exact this
      refine ⟨_, rfl, F, rfl, ⟨_, SqL.of eF⟩, fun G nG => ?_⟩
      refine lc_list (K := K) (a := F) (xs := ts.map V.ref) (fun i H' => Same H2 H' ∧ ∃ (us : List Addr), H' G = some (.lst (us.map V.ref)) ∧ RowsP H' us ((rs.take i).filter fun p => !decide (p.2 = .non)))
        ⟨same_upd nG, [], upd_same, .nil⟩ (fun i H' _ ⟨s, _⟩ => SqL.of (s _ _ eF)) ?_ ?_
      · rintro i x H3 hx ⟨s3, us, eG, hu'⟩
        obtain ⟨t, p, rfl, hpi, ht⟩ := hp.at_ hx
        have ht3 := s3 _ _ ht
        have grow : ((rs.take (i + 1)).filter fun p => !decide (p.2 = .non)) = ((rs.take i).filter fun p => !decide (p.2 = .non)) ++ if (!decide (p.2 = .non)) = true then [p] else [] := by
          rw [List.take_add_one, hpi, List.filter_append]
          show _ ++ List.filter _ [p] = _
          rw [List.filter_cons, List.filter_nil]
        refine ⟨t, _, rfl, SqT.of ht3, rfl, _, _, rfl, _, _, rfl, rfl, rfl, _, rfl, rfl, _, rfl, ?_⟩
        cases hn : (!decide (p.2 = .non)) with
        | false =>
          rw [hn, if_neg (by nofun), List.append_nil] at grow
          refine ⟨s3, us, eG, ?_⟩
          rw [grow]
          exact hu'
        | true =>
          rw [hn, if_pos rfl] at grow
          refine ⟨_, rfl, _, rfl, by show 2 ≤ sizeLine; decide, fun u nu => ?_⟩
          have s4 := same_upd (o := .tup [V.int p.1, p.2]) nu
          have eu := upd_same (H := H3) (a := u) (o := .tup [V.int p.1, p.2])
          generalize upd H3 u (.tup [V.int p.1, p.2]) = H4 at *
          have eG4 := s4 _ _ eG
          have ul : us.length ≤ 60 := by
            rw [Paired.length hu']
            refine Nat.le_trans (List.length_filter_le _ _) ?_
            rw [List.length_take]
            omega
          refine ⟨_, eG4, by rw [List.length_map]; exact small2k (by omega), same_app nG (s3.trans s4), us ++ [u], ?_, ?_⟩
          · rw [upd_same, List.map_append]
            rfl
          · rw [grow]
            exact ((hu'.mono s4).snoc eu).upd eG4
      · rintro H3 ⟨s3, us, eG, hu'⟩
        rw [List.length_map, hl2, List.take_length] at hu'
        have gk : (a.g.map (·.1)).Nodup := by rw [paired_keys W.ta]; exact W.nk
        refine q G _ H3 (s1.trans s2 |>.free nG) ⟨us, eG, hu'⟩ (hold_of W.nk (by rw [← paired_keys W.ta]; exact perm) up ek hl) (s1.trans (s2.trans s3))
theorem sc_are_ranks : FnScope ["thing", "name", "rank"] ["thing"] (defScope s_are_ranks) := ⟨rfl, rfl, rfl, by decide +kernel, rfl, by decide +kernel, by decide +kernel⟩
theorem ok_are_ranks (D : All K P mg) : FnOk P w K mg base CX0 3 D.f_are_ranks D.d_are_ranks ["thing"] spRanks := by
  refine D.h_are_ranks.fn.ok sc_are_ranks (fun vs H Q E h => ?_) (fun cdv A outer s H vs Q E hr h => ?_)
  · first | (obtain ⟨_, rfl, _⟩ := h; rfl) | (obtain ⟨_, _, rfl, _⟩ := h; rfl) | (obtain ⟨_, _, _, rfl, _⟩ := h; rfl) | (obtain ⟨_, _, _, _, rfl, _⟩ := h; rfl) | (obtain ⟨_, _, _, _, _, rfl, _⟩ := h; rfl) | (obtain ⟨_, _, _, _, _, _, rfl, _⟩ := h; rfl) | (obtain ⟨_, _, _, _, _, _, _, rfl, _⟩ := h; rfl) | (obtain ⟨_, _, _, _, _, _, _, _, rfl, _⟩ := h; rfl) | (obtain ⟨_, _, _, _, _, _, _, _, _, rfl, _⟩ := h; rfl) | (obtain ⟨_, _, _, _, _, _, _, _, _, _, rfl, _⟩ := h; rfl) | (obtain ⟨_, _, _, _, _, _, _, _, _, _, _, rfl, _⟩ := h; rfl) | (obtain ⟨_, _, _, _, _, _, _, _, _, _, _, _, rfl, _⟩ := h; rfl) | (obtain ⟨_, _, _, _, _, _, _, _, _, _, _, _, _, rfl, _⟩ := h; rfl) | (obtain ⟨_, _, _, _, _, _, _, _, _, _, _, _, _, _, rfl, _⟩ := h; rfl) | (obtain ⟨_, _, _, _, _, _, _, _, _, _, _, _, _, _, _, rfl, _⟩ := h; rfl)
  · have T := D.T
    have nd := sc_are_ranks.nd
    have hu := hr.units
    have hu1 := hu_of hr
    have hu0 := hr.units0
    obtain ⟨r, rk, rfl, hr', k, q⟩ := h
    refine ⟨_, pss_cons (ps_if (PW.pt (pw_or (pt_not (pt_val (pe_callB call_isi (by rfl) T.isi (by decide +kernel) (pa_cons (pv 0) (pa_cons (pe_bltn (v := .ty "dict") (by rfl) T.dict (by decide +kernel) rfl) pa_nil))))) (pw_or1 (pt_cmpR op_gt (pe_callB call_lenD (by rfl) T.len PySem.boot_len (pa_cons (pv 0) pa_nil)) (pe_glob (v := .int (30)) (by rfl) D.g_MOST_KEEPERS ⟨_, rfl⟩) (nomark _))))) (pss_one (ps_ret pe_bl)) pss_nil)
      (pss_one (ps_ret (pe_callB (cr_all rfl) (by rfl) T.all (by decide +kernel) (pa_cons (pe_lock (pe_lc (own := [("name", 1), ("rank", 2)]) (g := gTup K 2 (gCons (gName 1) (gCons (gName 2) gNil))) (tt := tYes) rfl nd (pi_items (pv 0)) (blkOk_by (N := ["thing", "name", "rank"]) (sc := defScope s_are_ranks) (by decide +kernel)) (fun _ _ _ _ _ => (pg_tup rfl (pgs_cons (pg_name (i := 1) nd rfl (Or.inl rfl)) (pgs_cons (pg_name (i := 2) nd rfl (Or.inl rfl)) pgs_nil)))) (fun _ _ _ _ _ => pts_nil) (fun _ _ _ _ _ => (pe_and (pe_call (ok_is_name D) (hr.mono (by decide)) (by rfl) D.h_is_name.gl D.h_is_name.fn.kp D.h_is_name.bd .nil pass0 (pa_cons (pv 1) pa_nil)) (pe_one (pe_call (ok_is_within D) (hr.mono (by decide)) (by rfl) D.h_is_within.gl D.h_is_within.fn.kp D.h_is_within.bd .nil pass0 (pa_cons (pv 2) (pa_cons (pe_glob (v := .int (1)) (by rfl) D.g_HIGHEST_RANK ⟨_, rfl⟩) (pa_cons (pe_glob (v := .int (9)) (by rfl) D.g_LOWEST_RANK ⟨_, rfl⟩) pa_nil))))))))) pa_nil)))), ?_⟩
    have kl := k.ln
    refine ⟨_, rfl, .ref r, .ty "dict", _, _, true, rfl, .ty _, .base (.dK hr'), kit_ty (show kitB "dict" "dict" = some true by decide +kernel), _, rfl, ?_⟩
    refine iteF ⟨_, rfl, r, _, rfl, hr', _, _, rfl, rfl, _, rfl, ?_⟩
    rw [decide_eq_false (by rw [sd_len]; omega)]
    refine iteF ⟨r, _, hr', trivial, fun od => ?_⟩
    have ed := upd_same (H := H) (a := r) (o := .frz od (.dK (sd rk)))
    refine ⟨_, rfl, r, od, _, rfl, ed, fun F nF => ?_⟩
    have nFr : F ≠ r := fun e => by rw [e, ed] at nF; cases nF
    refine lc_it walk_rows (fun i H' => Same (upd H r (.frz od (.dK (sd rk)))) H' ∧ H' F = some (.lst ((List.replicate i true).map V.bl))) ⟨same_upd nF, upd_same⟩ (fun i H' _ ⟨s, _⟩ => s _ _ ed) ?_ ?_
    · rintro i x H1 H2 hi ⟨s1, eF⟩ ⟨T', p, hp, rfl, nT, rfl⟩
      have hm := List.mem_of_getElem? hp
      have hb := k.b1 p hm
      have hn := k.nm p hm
      have l8 := hn.l8
      refine ⟨T', _, rfl, SqT.of upd_same, rfl, _, _, rfl, _, _, rfl, rfl, rfl, ?_⟩
      have sT := same_upd (o := .tup [.str p.1, .int p.2]) nT
      refine ⟨_, rfl, .str p.1, rfl, .str _, fun z hz => by cases hz; rw [sizeLine_eq]; omega, fun H3 s3 => ⟨_, rfl, ?_⟩⟩
      rw [hn.b]
      refine ⟨_, rfl, .int p.2, 1, 9, rfl, .int _, ?_⟩
      have e : withinB (.int p.2) 1 9 = true := by
        show (decide (1 ≤ p.2) && decide (p.2 ≤ 9)) = true
        rw [decide_eq_true hb.1, decide_eq_true hb.2]
        rfl
      rw [e]
      refine ⟨_, s3 _ _ (sT _ _ eF), small2k (by rw [List.length_map, List.length_replicate]; omega), same_app nF (s1.trans (sT.trans s3)), ?_⟩
      rw [upd_same, ← rep_succ, List.map_append]
      rfl
    · rintro H1 ⟨s1, eF⟩
      refine ⟨s1 _ _ ed, F, List.replicate rk.length true, rfl, SqL.of ?_, ?_⟩
      · rw [upd_ne nFr]
        exact eF
      · rw [rep_all]
        exact q _ (lock_back hr' s1)
end
end K63
set_option Elab.async false
set_option linter.all false
set_option maxRecDepth 100000
set_option maxHeartbeats 1600000
set_option pp.maxSteps 300
namespace K63
open PySem PySem.Spec PyProof.Rows L2 LT NdefX LamX
section
variable {P : Program} {w : World} {K : PySem.W.Frag} {mg : Str → Option Value} {base : Heap}
theorem sc_Book___init__ : FnScope ["self", "ranks", "keeper"] ["self", "ranks"] (defScope s_Book___init__) := ⟨rfl, rfl, rfl, by decide +kernel, rfl, by decide +kernel, by decide +kernel⟩
theorem ok_Book___init__ (D : All K P mg) : FnOk P w K mg base CX0 4 D.f_Book___init__ D.d_Book___init__ ["self", "ranks"] (spBInit D.C_Book D.C_History) := by
  refine D.h_Book___init__.fn.ok sc_Book___init__ (fun vs H Q E h => ?_) (fun cdv A outer s H vs Q E hr h => ?_)
  · first | (obtain ⟨_, rfl, _⟩ := h; rfl) | (obtain ⟨_, _, rfl, _⟩ := h; rfl) | (obtain ⟨_, _, _, rfl, _⟩ := h; rfl) | (obtain ⟨_, _, _, _, rfl, _⟩ := h; rfl) | (obtain ⟨_, _, _, _, _, rfl, _⟩ := h; rfl) | (obtain ⟨_, _, _, _, _, _, rfl, _⟩ := h; rfl) | (obtain ⟨_, _, _, _, _, _, _, rfl, _⟩ := h; rfl) | (obtain ⟨_, _, _, _, _, _, _, _, rfl, _⟩ := h; rfl) | (obtain ⟨_, _, _, _, _, _, _, _, _, rfl, _⟩ := h; rfl) | (obtain ⟨_, _, _, _, _, _, _, _, _, _, rfl, _⟩ := h; rfl) | (obtain ⟨_, _, _, _, _, _, _, _, _, _, _, rfl, _⟩ := h; rfl) | (obtain ⟨_, _, _, _, _, _, _, _, _, _, _, _, rfl, _⟩ := h; rfl) | (obtain ⟨_, _, _, _, _, _, _, _, _, _, _, _, _, rfl, _⟩ := h; rfl) | (obtain ⟨_, _, _, _, _, _, _, _, _, _, _, _, _, _, rfl, _⟩ := h; rfl) | (obtain ⟨_, _, _, _, _, _, _, _, _, _, _, _, _, _, _, rfl, _⟩ := h; rfl)
  · have T := D.T
    have nd := sc_Book___init__.nd
    have hu := hr.units
    have hu1 := hu_of hr
    have hu0 := hr.units0
    obtain ⟨b, dx, r, rk, rfl, hb, hr', k, q⟩ := h
    refine ⟨_, pss_cons (ps_if (pt_not (pt_val (pe_call (ok_are_ranks D) (hr.mono (by decide)) (by rfl) D.h_are_ranks.gl D.h_are_ranks.fn.kp D.h_are_ranks.bd .nil pass0 (pa_cons (pv 1) pa_nil)))) (pss_one ps_never) pss_nil)
      (pss_cons (ps_fld (pv 0) (pe_callTy call_dictD (by rfl) T.dict (by decide +kernel) (pa_cons (pv 1) pa_nil)) rfl)
      (pss_cons (ps_fld (pv 0) (pe_lock (pe_dc (own := [("keeper", 2)]) (g := gName 2) (tt := tYes) rfl nd (pi_keys (pv 1)) (blkOk_by (N := ["self", "ranks", "keeper"]) (sc := defScope s_Book___init__) (by decide +kernel)) (fun _ _ _ _ _ => (pg_name (i := 2) nd rfl (Or.inl rfl))) (fun _ _ _ _ _ => pts_nil) (fun _ _ _ _ _ => (pv 2)) (fun _ _ _ _ _ => (pe_make0 D.M_History (ok_History___init__ D) (hr.mono (by decide)) (by rfl) D.Z_History.gl D.h_History___init__.bd .nil pass0)))) rfl)
      (pss_cons (ps_fld (pv 0) pe_dnewK rfl)
      (pss_one (ps_fld (pv 0) pe_non rfl))))), ?_⟩
    have kl := k.ln
    refine ⟨_, rfl, r, rk, rfl, hr', k, fun H1 s1 => ⟨_, rfl, iteF ?_⟩⟩
    refine ⟨_, rfl, r, _, rfl, .inl (s1 _ _ hr'), fun R nR => ?_⟩
    have s2 := same_upd (o := .dK (sd rk)) nR
    have eR := upd_same (H := H1) (a := R) (o := .dK (sd rk))
    generalize upd H1 R (.dK (sd rk)) = H2 at *
    have hb2 := s2 _ _ (s1 _ _ hb)
    have hr2 := s2 _ _ (s1 _ _ hr')
    have nbR : R ≠ b := fun e => by
      rw [e, s1 _ _ hb] at nR
      cases nR
    have nbr : r ≠ b := fun e => by
      rw [e, hb2] at hr2
      cases hr2
    refine ⟨_, rfl, b, _, dx, _, rfl, hb2, D.Z_Book.cl, D.n_Book_rank_of, by decide, ?_⟩
    have hb3 : upd H2 b (.ins D.C_Book dx [("rank_of", .ref R)]) b = some (.ins D.C_Book dx [("rank_of", .ref R)]) := upd_same
    have sb3 : SameB b H2 (upd H2 b (.ins D.C_Book dx [("rank_of", .ref R)])) := SameB.upd (SameB.of (Same.refl _))
    generalize hG3 : upd H2 b (.ins D.C_Book dx [("rank_of", .ref R)]) = H3 at *
    have hG3' : upd H2 b (.ins D.C_Book dx (putF "rank_of" (V.ref R) [])) = H3 := hG3
    rw [hG3']
    have hr3 := sb3 _ _ nbr hr2
    have eR3 := sb3 _ _ nbR eR
    refine ⟨r, _, hr3, trivial, fun od => ?_⟩
    have ef := upd_same (H := H3) (a := r) (o := .frz od (.dK (sd rk)))
    refine ⟨_, rfl, r, od, rfl, .inl ⟨_, ef, fun M nM => ?_⟩⟩
    have nMr : M ≠ r := fun e => by rw [e, ef] at nM; cases nM
    have nM3 : H3 M = none := by rw [upd_ne nMr] at nM; exact nM
    refine dc_it walk_rowk (fun i H' => Same (upd H3 r (.frz od (.dK (sd rk)))) H' ∧ ∃ mv : List (Str × HA), mv.map (·.1) = (rk.take i).map (·.1) ∧ H' M = some (.dK (hsK mv)) ∧
        (∀ e ∈ mv, HistAt D.C_History H' e.2 ∧ e.2.h = []) ∧ (hsfp mv).Nodup ∧ ∀ c ∈ hsfp mv, upd H3 r (.frz od (.dK (sd rk))) c = none ∧ c ≠ M)
      ⟨same_upd nM, [], rfl, upd_same, nofun, List.nodup_nil, nofun⟩ (fun i H' _ ⟨s, _⟩ => s _ _ ef) ?_ ?_
    · rintro i x H4 H5 hi ⟨s4, mv, ek, eM, hm, hnd, hfr⟩ ⟨rfl, p, hp, rfl⟩
      refine ⟨rfl, _, rfl, fun x dx nx ndx nex => ?_⟩
      have sm := same_made (C := D.C_History) (o := .ins D.C_History dx []) nx ndx
      refine ⟨x, dx, rfl, upd_same, fun a H6 ex eh eg nD Ha sb => ⟨rfl, ?_⟩⟩
      subst ex
      have s56 := sameB_new nx sm sb
      have nMx : M ≠ a.x := ne_of_none eM nx
      have nMD : M ≠ a.D := fun e => by
        rw [← e, sm _ _ eM] at nD
        cases nD
      have nD5 : H5 a.D = none := sm.free nD
      have efp : a.fp = [a.x, a.D] := by
        unfold HA.fp
        rw [eg]
        rfl
      have mvl : mv.length ≤ 30 := by
        have := congrArg List.length ek
        rw [List.length_map, List.length_map, List.length_take] at this
        omega
      have hnew : getA mv p.1 = none := by
        rw [getA_none_iff, ek]
        have nd := k.nd
        have hil := (List.getElem?_eq_some_iff.mp hp).1
        intro hm
        rw [← List.take_append_drop i rk, List.map_append, List.nodup_append] at nd
        refine nd.2.2 _ hm p.1 ?_ rfl
        rw [List.drop_eq_getElem_cons hil]
        rw [(List.getElem?_eq_some_iff.mp hp).2]
        exact List.mem_cons_self
      refine ⟨hsK mv, Sum.inr p.1, rfl, s56 _ _ eM, by rw [hsK_len]; exact small2k (by omega), same_app nM (s4.trans s56), mv ++ [(p.1, a)], ?_, ?_, ?_, ?_, ?_⟩
      · rw [List.map_append, ek, take_snoc hp, List.map_append]
        rfl
      · rw [upd_same, hsK_put, putA_new hnew]
      · intro e he
        rcases List.mem_append.mp he with he | he
        · refine ⟨((hm e he).1.mono s56).by fun c hc o eo => ?_, (hm e he).2⟩
          rw [upd_ne (hfr c (hsfp_mem.mpr ⟨e, he, hc⟩)).2]
          exact eo
        · rw [List.mem_singleton.mp he]
          refine ⟨Ha.by fun c hc o eo => ?_, eh⟩
          rw [efp] at hc
          rw [upd_ne (fun z => ?_)]
          · exact eo
          · rcases List.mem_cons.mp hc with e | hc
            · exact nMx (z.symm.trans e)
            · exact nMD (z.symm.trans (List.mem_singleton.mp hc))
      · rw [hsfp_app, show hsfp [(p.1, a)] = a.fp from List.append_nil _, List.nodup_append]
        refine ⟨hnd, Ha.nd, fun c hc c' hc' e => ?_⟩
        subst e
        obtain ⟨e, he, hc⟩ := hsfp_mem.mp hc
        obtain ⟨o, ho⟩ := (hm e he).1.ex c hc
        rw [efp] at hc'
        rcases List.mem_cons.mp hc' with e | hc'
        · rw [e, nx] at ho
          cases ho
        · rw [List.mem_singleton.mp hc', nD5] at ho
          cases ho
      · intro c hc
        rw [hsfp_app, show hsfp [(p.1, a)] = a.fp from List.append_nil _] at hc
        rcases List.mem_append.mp hc with hc | hc
        · exact hfr c hc
        · rw [efp] at hc
          rcases List.mem_cons.mp hc with e | hc
          · rw [e]
            exact ⟨s4.free nx, nMx.symm⟩
          · rw [List.mem_singleton.mp hc]
            exact ⟨s4.free nD5, nMD.symm⟩
    · rintro H4 ⟨s4, mv, ek, eM, hm, hnd, hfr⟩
      rw [List.take_length] at ek
      refine ⟨s4 _ _ ef, ?_⟩
      have fr : ∀ c ∈ hsfp mv, H3 c = none ∧ c ≠ M := fun c hc => by
        obtain ⟨f1, f2⟩ := hfr c hc
        refine ⟨?_, f2⟩
        rw [upd_ne (fun z => by rw [z, ef] at f1; cases f1)] at f1
        exact f1
      have s34 : Same H3 (upd H4 r (.dK (sd rk))) := lock_back hr3 s4
      have eM5 : upd H4 r (.dK (sd rk)) M = some (.dK (hsK mv)) := by rw [upd_ne nMr]; exact eM
      have hm5 : ∀ e ∈ mv, HistAt D.C_History (upd H4 r (.dK (sd rk))) e.2 ∧ e.2.h = [] := fun e he => ⟨(hm e he).1.by fun c hc o eo => by
        rw [upd_ne (fun z => by have := (fr c (hsfp_mem.mpr ⟨e, he, hc⟩)).1; rw [z, hr3] at this; cases this)]
        exact eo, (hm e he).2⟩
      generalize upd H4 r (.dK (sd rk)) = H5 at *
      have nbM : M ≠ b := fun e => by rw [e, hb3] at nM3; cases nM3
      refine ⟨_, rfl, b, _, dx, _, rfl, s34 _ _ hb3, D.Z_Book.cl, D.n_Book_moves, by show 1 < 1000; decide, ?_⟩
      have hb6 : upd H5 b (.ins D.C_Book dx [("rank_of", .ref R), ("moves", .ref M)]) b = some (.ins D.C_Book dx [("rank_of", .ref R), ("moves", .ref M)]) := upd_same
      have sb6 : SameB b H5 (upd H5 b (.ins D.C_Book dx [("rank_of", .ref R), ("moves", .ref M)])) := SameB.upd (SameB.of (Same.refl _))
      generalize hG6 : upd H5 b (.ins D.C_Book dx [("rank_of", .ref R), ("moves", .ref M)]) = H6 at *
      have hG6' : upd H5 b (.ins D.C_Book dx (putF "moves" (V.ref M) [("rank_of", V.ref R)])) = H6 := hG6
      rw [hG6']
      refine fun L nL => ?_
      have s7 := same_upd (o := .dK []) nL
      have eL := upd_same (H := H6) (a := L) (o := .dK [])
      generalize upd H6 L (.dK []) = H7 at *
      refine ⟨_, rfl, b, _, dx, _, rfl, s7 _ _ hb6, D.Z_Book.cl, D.n_Book_landings, by show 2 < 1000; decide, ?_⟩
      have nbL : L ≠ b := fun e => by rw [e, hb6] at nL; cases nL
      have hb8 : upd H7 b (.ins D.C_Book dx [("rank_of", .ref R), ("moves", .ref M), ("landings", .ref L)]) b = some (.ins D.C_Book dx [("rank_of", .ref R), ("moves", .ref M), ("landings", .ref L)]) := upd_same
      have sb8 : SameB b H7 (upd H7 b (.ins D.C_Book dx [("rank_of", .ref R), ("moves", .ref M), ("landings", .ref L)])) := SameB.upd (SameB.of (Same.refl _))
      generalize hG8 : upd H7 b (.ins D.C_Book dx [("rank_of", .ref R), ("moves", .ref M), ("landings", .ref L)]) = H8 at *
      have hG8' : upd H7 b (.ins D.C_Book dx (putF "landings" (V.ref L) [("rank_of", V.ref R), ("moves", V.ref M)])) = H8 := hG8
      rw [hG8']
      refine ⟨_, rfl, b, _, dx, _, rfl, hb8, D.Z_Book.cl, D.n_Book_latest_known, by show 3 < 1000; decide, ?_⟩
      have hb9 : upd H8 b (.ins D.C_Book dx [("rank_of", .ref R), ("moves", .ref M), ("landings", .ref L), ("latest_known", .non)]) b = some (.ins D.C_Book dx [("rank_of", .ref R), ("moves", .ref M), ("landings", .ref L), ("latest_known", .non)]) := upd_same
      have sb9 : SameB b H8 (upd H8 b (.ins D.C_Book dx [("rank_of", .ref R), ("moves", .ref M), ("landings", .ref L), ("latest_known", .non)])) := SameB.upd (SameB.of (Same.refl _))
      generalize hG9 : upd H8 b (.ins D.C_Book dx [("rank_of", .ref R), ("moves", .ref M), ("landings", .ref L), ("latest_known", .non)]) = H9 at *
      have hG9' : upd H8 b (.ins D.C_Book dx (putF "latest_known" V.non [("rank_of", V.ref R), ("moves", V.ref M), ("landings", V.ref L)])) = H9 := hG9
      rw [hG9']
      have t79 : SameB b H7 H9 := sb8.trans sb9
      have t59 : SameB b H5 H9 := sb6.trans ((SameB.of s7).trans t79)
      have t39 : SameB b H3 H9 := (SameB.of s34).trans t59
      have t09 : SameB b H H9 := (SameB.of (s1.trans s2)).trans (sb3.trans t39)
      have bh : BkH D.C_Book D.C_History H9 ⟨b, dx, R, M, L, mv, [], rk, []⟩ .non := by
        refine ⟨hb9, t39 _ _ nbR eR3, t59 _ _ nbM eM5, t79 _ _ nbL eL, ?_, nofun, ?_⟩
        · intro e he
          refine (hm5 e he).1.by fun c hc o eo => t59 _ _ (fun z => ?_) eo
          have := (fr c (hsfp_mem.mpr ⟨e, he, hc⟩)).1
          rw [z, hb3] at this
          cases this
        · have fL : ∀ {c : Addr}, (∃ o, H5 c = some o) → c ≠ b → c ≠ L := fun ⟨o, ho⟩ n z => by
            have := sb6 _ _ n ho
            rw [z, nL] at this
            cases this
          have fM : ∀ {c : Addr}, (∃ o, H3 c = some o) → c ≠ M := fun ⟨o, ho⟩ z => by
            rw [z, nM3] at ho
            cases ho
          have fh : ∀ {c : Addr}, (∃ o, H3 c = some o) → c ∉ hsfp mv := fun ⟨o, ho⟩ z => by
            rw [(fr _ z).1] at ho
            cases ho
          show (b :: R :: M :: L :: (hsfp mv ++ [])).Nodup
          rw [List.append_nil]
          refine List.nodup_cons.mpr ⟨fun h => ?_, List.nodup_cons.mpr ⟨fun h => ?_, List.nodup_cons.mpr ⟨fun h => ?_, List.nodup_cons.mpr ⟨fun h => ?_, hnd⟩⟩⟩⟩
          · rcases List.mem_cons.mp h with h | h
            · exact nbR h.symm
            rcases List.mem_cons.mp h with h | h
            · exact nbM h.symm
            rcases List.mem_cons.mp h with h | h
            · exact nbL h.symm
            · exact fh ⟨_, hb3⟩ h
          · rcases List.mem_cons.mp h with h | h
            · exact fM ⟨_, eR3⟩ h
            rcases List.mem_cons.mp h with h | h
            · exact fL ⟨_, s34 _ _ eR3⟩ nbR h
            · exact fh ⟨_, eR3⟩ h
          · rcases List.mem_cons.mp h with h | h
            · exact fL ⟨_, eM5⟩ nbM h
            · exact (fr _ h).2 rfl
          · obtain ⟨e, he, hc⟩ := hsfp_mem.mp h
            obtain ⟨o, ho⟩ := (hm5 e he).1.ex L hc
            exact fL ⟨o, ho⟩ nbL rfl
      have bp : BkP ⟨b, dx, R, M, L, mv, [], rk, []⟩ := ⟨k, ek, List.nodup_nil, fun e he => (hm5 e he).2, nofun, nofun, List.Pairwise.nil, nofun⟩
      refine q _ H9 ⟨_, rfl, rfl, rfl, rfl, bh, bp, Nat.le_refl _⟩ (fun c hc => ?_) t09
      have f3 : ∀ {c : Addr}, H3 c = none → c = b ∨ H c = none := fun {c} h => by
        by_cases z : c = b
        · exact .inl z
        · refine .inr (s1.free (s2.free ?_))
          cases e : H2 c with
          | none => rfl
          | some o =>
            rw [sb3 _ _ z e] at h
            cases h
      rcases List.mem_cons.mp hc with h | hc
      · exact .inl h
      rcases List.mem_cons.mp hc with h | hc
      · rw [h]
        exact .inr (s1.free nR)
      rcases List.mem_cons.mp hc with h | hc
      · rw [h]
        exact f3 nM3
      rcases List.mem_cons.mp hc with h | hc
      · rw [h]
        refine f3 (s34.free ?_)
        cases e : H5 L with
        | none => rfl
        | some o =>
          rw [sb6 _ _ nbL e] at nL
          cases nL
      · have hc : c ∈ hsfp mv := by
          rcases List.mem_append.mp hc with h | h
          · exact h
          · exact nomatch h
        exact f3 (fr c hc).1
theorem sc_Book_ranks : FnScope ["self"] ["self"] (defScope s_Book_ranks) := ⟨rfl, rfl, rfl, by decide +kernel, rfl, by decide +kernel, by decide +kernel⟩
theorem ok_Book_ranks (D : All K P mg) : FnOk P w K mg base CX0 1 D.f_Book_ranks D.d_Book_ranks ["self"] (spBRanks D.C_Book D.C_History) := by
  refine D.h_Book_ranks.fn.ok sc_Book_ranks (fun vs H Q E h => ?_) (fun cdv A outer s H vs Q E hr h => ?_)
  · first | (obtain ⟨_, rfl, _⟩ := h; rfl) | (obtain ⟨_, _, rfl, _⟩ := h; rfl) | (obtain ⟨_, _, _, rfl, _⟩ := h; rfl) | (obtain ⟨_, _, _, _, rfl, _⟩ := h; rfl) | (obtain ⟨_, _, _, _, _, rfl, _⟩ := h; rfl) | (obtain ⟨_, _, _, _, _, _, rfl, _⟩ := h; rfl) | (obtain ⟨_, _, _, _, _, _, _, rfl, _⟩ := h; rfl) | (obtain ⟨_, _, _, _, _, _, _, _, rfl, _⟩ := h; rfl) | (obtain ⟨_, _, _, _, _, _, _, _, _, rfl, _⟩ := h; rfl) | (obtain ⟨_, _, _, _, _, _, _, _, _, _, rfl, _⟩ := h; rfl) | (obtain ⟨_, _, _, _, _, _, _, _, _, _, _, rfl, _⟩ := h; rfl) | (obtain ⟨_, _, _, _, _, _, _, _, _, _, _, _, rfl, _⟩ := h; rfl) | (obtain ⟨_, _, _, _, _, _, _, _, _, _, _, _, _, rfl, _⟩ := h; rfl) | (obtain ⟨_, _, _, _, _, _, _, _, _, _, _, _, _, _, rfl, _⟩ := h; rfl) | (obtain ⟨_, _, _, _, _, _, _, _, _, _, _, _, _, _, _, rfl, _⟩ := h; rfl)
  · have T := D.T
    have nd := sc_Book_ranks.nd
    have hu := hr.units
    have hu1 := hu_of hr
    have hu0 := hr.units0
    obtain ⟨_, rk, es, fp, rfl, ⟨B, rfl, rfl, rfl, rfl, bh, bp, bl⟩, q⟩ := h
    refine ⟨_, pss_one (ps_ret (pe_callTy call_dictD (by rfl) T.dict (by decide +kernel) (pa_cons (pe_fld (pv 0) rfl) pa_nil))), ?_⟩
    refine ⟨_, rfl, B.b, _, B.dx, _, _, rfl, bh.ix, D.Z_Book.cl, D.n_Book_rank_of, rfl, B.R, _, rfl, .inl bh.rd, fun r nr => ?_⟩
    exact q r _ nr upd_same (same_upd nr)
theorem sc_check_keeper : FnScope ["book", "thing"] ["book", "thing"] (defScope s_check_keeper) := ⟨rfl, rfl, rfl, by decide +kernel, rfl, by decide +kernel, by decide +kernel⟩
theorem ok_check_keeper (D : All K P mg) : FnOk P w K mg base CX0 2 D.f_check_keeper D.d_check_keeper ["book", "thing"] (spCkKeeper D.C_Book D.C_History) := by
  refine D.h_check_keeper.fn.ok sc_check_keeper (fun vs H Q E h => ?_) (fun cdv A outer s H vs Q E hr h => ?_)
  · first | (obtain ⟨_, rfl, _⟩ := h; rfl) | (obtain ⟨_, _, rfl, _⟩ := h; rfl) | (obtain ⟨_, _, _, rfl, _⟩ := h; rfl) | (obtain ⟨_, _, _, _, rfl, _⟩ := h; rfl) | (obtain ⟨_, _, _, _, _, rfl, _⟩ := h; rfl) | (obtain ⟨_, _, _, _, _, _, rfl, _⟩ := h; rfl) | (obtain ⟨_, _, _, _, _, _, _, rfl, _⟩ := h; rfl) | (obtain ⟨_, _, _, _, _, _, _, _, rfl, _⟩ := h; rfl) | (obtain ⟨_, _, _, _, _, _, _, _, _, rfl, _⟩ := h; rfl) | (obtain ⟨_, _, _, _, _, _, _, _, _, _, rfl, _⟩ := h; rfl) | (obtain ⟨_, _, _, _, _, _, _, _, _, _, _, rfl, _⟩ := h; rfl) | (obtain ⟨_, _, _, _, _, _, _, _, _, _, _, _, rfl, _⟩ := h; rfl) | (obtain ⟨_, _, _, _, _, _, _, _, _, _, _, _, _, rfl, _⟩ := h; rfl) | (obtain ⟨_, _, _, _, _, _, _, _, _, _, _, _, _, _, rfl, _⟩ := h; rfl) | (obtain ⟨_, _, _, _, _, _, _, _, _, _, _, _, _, _, _, rfl, _⟩ := h; rfl)
  · have T := D.T
    have nd := sc_check_keeper.nd
    have hu := hr.units
    have hu1 := hu_of hr
    have hu0 := hr.units0
    obtain ⟨_, rk, es, fp, z, rfl, ⟨B, rfl, rfl, rfl, rfl, bh, bp, bl⟩, hz, q⟩ := h
    refine ⟨_, pss_one (ps_if (PW.pt (pw_or (pt_not (pt_val (pe_call (ok_is_name D) (hr.mono (by decide)) (by rfl) D.h_is_name.gl D.h_is_name.fn.kp D.h_is_name.bd .nil pass0 (pa_cons (pv 1) pa_nil)))) (pw_or1 (pt_cmp (pc_dnotin hu1 (pv 1) (pe_fld (pv 0) rfl)))))) (pss_one ps_never) pss_nil), ?_⟩
    obtain ⟨i, hi⟩ := get_key hz
    have hn : Nm z := bp.rk.nm _ (getA_mem hi)
    have l8 := hn.l8
    refine ⟨_, rfl, .str z, rfl, .str z, fun y e => by cases e; rw [sizeLine_eq]; omega, fun H1 s1 => ⟨_, rfl, ?_⟩⟩
    rw [hn.b]
    refine iteF ⟨_, rfl, _, rfl, B.b, _, B.dx, _, _, rfl, s1 _ _ bh.ix, D.Z_Book.cl, D.n_Book_rank_of, rfl, B.R, _, rfl, dget_sd (s1 _ _ bh.rd) hi, _, rfl, iteF (q H1 s1)⟩
theorem sc_check_not_early : FnScope ["book", "known"] ["book", "known"] (defScope s_check_not_early) := ⟨rfl, rfl, rfl, by decide +kernel, rfl, by decide +kernel, by decide +kernel⟩
theorem ok_check_not_early (D : All K P mg) : FnOk P w K mg base CX0 1 D.f_check_not_early D.d_check_not_early ["book", "known"] (spNotEarly D.C_Book D.C_History) := by
  refine D.h_check_not_early.fn.ok sc_check_not_early (fun vs H Q E h => ?_) (fun cdv A outer s H vs Q E hr h => ?_)
  · first | (obtain ⟨_, rfl, _⟩ := h; rfl) | (obtain ⟨_, _, rfl, _⟩ := h; rfl) | (obtain ⟨_, _, _, rfl, _⟩ := h; rfl) | (obtain ⟨_, _, _, _, rfl, _⟩ := h; rfl) | (obtain ⟨_, _, _, _, _, rfl, _⟩ := h; rfl) | (obtain ⟨_, _, _, _, _, _, rfl, _⟩ := h; rfl) | (obtain ⟨_, _, _, _, _, _, _, rfl, _⟩ := h; rfl) | (obtain ⟨_, _, _, _, _, _, _, _, rfl, _⟩ := h; rfl) | (obtain ⟨_, _, _, _, _, _, _, _, _, rfl, _⟩ := h; rfl) | (obtain ⟨_, _, _, _, _, _, _, _, _, _, rfl, _⟩ := h; rfl) | (obtain ⟨_, _, _, _, _, _, _, _, _, _, _, rfl, _⟩ := h; rfl) | (obtain ⟨_, _, _, _, _, _, _, _, _, _, _, _, rfl, _⟩ := h; rfl) | (obtain ⟨_, _, _, _, _, _, _, _, _, _, _, _, _, rfl, _⟩ := h; rfl) | (obtain ⟨_, _, _, _, _, _, _, _, _, _, _, _, _, _, rfl, _⟩ := h; rfl) | (obtain ⟨_, _, _, _, _, _, _, _, _, _, _, _, _, _, _, rfl, _⟩ := h; rfl)
  · have T := D.T
    have nd := sc_check_not_early.nd
    have hu := hr.units
    have hu1 := hu_of hr
    have hu0 := hr.units0
    obtain ⟨_, rk, es, fp, kn, rfl, ⟨B, rfl, rfl, rfl, rfl, bh, bp, bl⟩, hk, q⟩ := h
    refine ⟨_, pss_one (ps_if (PW.pt (pw_and (pt_cmpR op_notN (pe_fld (pv 0) rfl) pe_non (nomark _)) (pw_and1 (pt_cmpR op_lt (pv 1) (pe_fld (pv 0) rfl) (nomark _))))) (pss_one ps_never) pss_nil), ?_⟩
    refine ⟨_, rfl, B.b, _, B.dx, _, _, rfl, bh.ix, D.Z_Book.cl, D.n_Book_latest_known, rfl, rfl, _, rfl, ?_⟩
    rcases late_le hk with e | ⟨l, e, hl⟩
    · rw [e]
      exact iteF q
    · rw [e]
      refine iteT ⟨_, rfl, _, rfl, B.b, _, B.dx, _, _, rfl, bh.ix, D.Z_Book.cl, D.n_Book_latest_known, rfl, kn, l, rfl, e, _, rfl, ?_⟩
      rw [decide_eq_false (by omega)]
      exact iteF q
theorem sc_Book_tell : FnScope ["self", "known", "keeper", "day", "place"] ["self", "known", "keeper", "day", "place"] (defScope s_Book_tell) := ⟨rfl, rfl, rfl, by decide +kernel, rfl, by decide +kernel, by decide +kernel⟩
theorem ok_Book_tell (D : All K P mg) : FnOk P w K mg base CX0 5 D.f_Book_tell D.d_Book_tell ["self", "known", "keeper", "day", "place"] (spTell D.C_Book D.C_History) := by
  refine D.h_Book_tell.fn.ok sc_Book_tell (fun vs H Q E h => ?_) (fun cdv A outer s H vs Q E hr h => ?_)
  · first | (obtain ⟨_, rfl, _⟩ := h; rfl) | (obtain ⟨_, _, rfl, _⟩ := h; rfl) | (obtain ⟨_, _, _, rfl, _⟩ := h; rfl) | (obtain ⟨_, _, _, _, rfl, _⟩ := h; rfl) | (obtain ⟨_, _, _, _, _, rfl, _⟩ := h; rfl) | (obtain ⟨_, _, _, _, _, _, rfl, _⟩ := h; rfl) | (obtain ⟨_, _, _, _, _, _, _, rfl, _⟩ := h; rfl) | (obtain ⟨_, _, _, _, _, _, _, _, rfl, _⟩ := h; rfl) | (obtain ⟨_, _, _, _, _, _, _, _, _, rfl, _⟩ := h; rfl) | (obtain ⟨_, _, _, _, _, _, _, _, _, _, rfl, _⟩ := h; rfl) | (obtain ⟨_, _, _, _, _, _, _, _, _, _, _, rfl, _⟩ := h; rfl) | (obtain ⟨_, _, _, _, _, _, _, _, _, _, _, _, rfl, _⟩ := h; rfl) | (obtain ⟨_, _, _, _, _, _, _, _, _, _, _, _, _, rfl, _⟩ := h; rfl) | (obtain ⟨_, _, _, _, _, _, _, _, _, _, _, _, _, _, rfl, _⟩ := h; rfl) | (obtain ⟨_, _, _, _, _, _, _, _, _, _, _, _, _, _, _, rfl, _⟩ := h; rfl)
  · have T := D.T
    have nd := sc_Book_tell.nd
    have hu := hr.units
    have hu1 := hu_of hr
    have hu0 := hr.units0
    obtain ⟨b, rk, es, fp, kn, d, z, w, rfl, W, ok, hk, hl, q⟩ := h
    refine ⟨_, pss_cons (ps_expr (pe_call (ok_check_day D) (hr.mono (by decide)) (by rfl) D.h_check_day.gl D.h_check_day.fn.kp D.h_check_day.bd .nil pass0 (pa_cons (pv 1) pa_nil)))
      (pss_cons (ps_expr (pe_call (ok_check_day D) (hr.mono (by decide)) (by rfl) D.h_check_day.gl D.h_check_day.fn.kp D.h_check_day.bd .nil pass0 (pa_cons (pv 3) pa_nil)))
      (pss_cons (ps_expr (pe_call (ok_check_keeper D) (hr.mono (by decide)) (by rfl) D.h_check_keeper.gl D.h_check_keeper.fn.kp D.h_check_keeper.bd .nil pass0 (pa_cons (pv 0) (pa_cons (pv 2) pa_nil))))
      (pss_cons (ps_if (pt_cmpR op_notN (pv 4) pe_non (nomark _)) (pss_one (ps_expr (pe_call (ok_check_place D) (hr.mono (by decide)) (by rfl) D.h_check_place.gl D.h_check_place.fn.kp D.h_check_place.bd .nil pass0 (pa_cons (pv 4) pa_nil)))) pss_nil)
      (pss_cons (ps_expr (pe_call (ok_check_not_early D) (hr.mono (by decide)) (by rfl) D.h_check_not_early.gl D.h_check_not_early.fn.kp D.h_check_not_early.bd .nil pass0 (pa_cons (pv 0) (pa_cons (pv 1) pa_nil))))
      (pss_cons (ps_expr (pe_meth (pe_dget hu1 (pe_fld (pv 0) rfl) (pv 2) (fun _ _ => rfl)) D.Z_History.cl D.h_History_note.me (ok_History_note D) (hr.mono (by decide)) D.h_History_note.bd .nil pass0 (pa_cons (pv 1) (pa_cons (pv 3) (pa_cons (pv 4) pa_nil)))))
      (pss_one (ps_fld (pv 0) (pv 1) rfl))))))), ?_⟩
    obtain ⟨hzk, hw⟩ := ok.mw rfl
    refine ⟨_, rfl, kn, rfl, ok.k0, _, rfl, d, rfl, ok.d0, ?_⟩
    refine ⟨_, rfl, _, rfl, b, rk, es, fp, z, rfl, W, hzk, fun H1 s1 => ?_⟩
    apply joinA (α := Unit) (J := fun _ Hx => Same H Hx) (sl := fun _ => [some (.ref b), some (.int kn), some (.str z), some (.int d), some w])
    · intro h
      refine ⟨_, rfl, rfl, _, rfl, ?_⟩
      have hw : w = .non ∨ ∃ z, w = .str z ∧ Pl z := hw
      rcases hw with e | ⟨y, e, hy⟩
      · rw [decide_eq_true e]
        exact iteF (h () H1 s1)
      · rw [decide_eq_false (by rw [e]; nofun)]
        exact iteT ⟨_, rfl, y, congrArg (fun v => [v]) e, hy, fun H2 s2 => h () H2 (s1.trans s2)⟩
    rintro _ H2 s2
    refine ⟨_, rfl, _, rfl, b, rk, es, fp, kn, rfl, W.mono s2, hk, ?_⟩
    obtain ⟨B, rfl, rfl, rfl, rfl, bh, bp, bl⟩ := W
    have bh2 := bh.by (H' := H2) fun c _ o e => s2 c o e
    obtain ⟨a, ha⟩ := get_key (kvs := B.mv) (z := z) (by rw [bp.km]; exact hzk)
    obtain ⟨l1, l2, el, _⟩ := get_split ha
    have hmem : (z, a) ∈ B.mv := by rw [el]; exact List.mem_append_right _ List.mem_cons_self
    have Ha := bh2.hm _ hmem
    refine ⟨_, rfl, B.b, _, B.dx, _, _, rfl, bh2.ix, D.Z_Book.cl, D.n_Book_moves, rfl, _, rfl, B.M, _, rfl, dget_hs bh2.md ha, a.x, a.dx, _, rfl, Ha.ix, rfl, _, rfl, _, rfl, _, rfl, a, kn, d, w, rfl, Ha, OKH.of (bp.hm _ hmem) (by omega), fun a' H3 ex eh Ha' fr s3 => ?_⟩
    obtain ⟨bh3, fr3, s3'⟩ := bh2.setM el Ha' ex fr s3
    have bp3 := bp.tell el eh hk ok
    refine ⟨_, rfl, _, rfl, B.b, _, B.dx, _, rfl, bh3.ix, D.Z_Book.cl, D.n_Book_latest_known, by show 4 < 1000; decide, ?_⟩
    have mb : B.b ∈ B.fp := List.mem_cons_self
    refine q _ _ ⟨{ B with mv := l1 ++ (z, a') :: l2, es := B.es ++ [⟨true, kn, z, d, w⟩] }, rfl, rfl, rfl, rfl, ?_, bp3, by show B.ld.length ≤ (B.es ++ _).length; rw [List.length_append]; omega⟩ (fun c hc => (fr3 c hc).imp id fun h => s2.free h) (SameL.upd mb ((SameL.of s2).trans s3'))
    rw [lateV_snoc]
    have := bh3.late (.int kn)
    exact ⟨this.ix, this.rd, this.md, this.ldd, this.hm, this.hl, this.nd⟩
theorem sc_Book_land : FnScope ["self", "known", "light", "day", "weight"] ["self", "known", "light", "day", "weight"] (defScope s_Book_land) := ⟨rfl, rfl, rfl, by decide +kernel, rfl, by decide +kernel, by decide +kernel⟩
theorem ok_Book_land (D : All K P mg) : FnOk P w K mg base CX0 5 D.f_Book_land D.d_Book_land ["self", "known", "light", "day", "weight"] (spLand D.C_Book D.C_History) := by
  refine D.h_Book_land.fn.ok sc_Book_land (fun vs H Q E h => ?_) (fun cdv A outer s H vs Q E hr h => ?_)
  · first | (obtain ⟨_, rfl, _⟩ := h; rfl) | (obtain ⟨_, _, rfl, _⟩ := h; rfl) | (obtain ⟨_, _, _, rfl, _⟩ := h; rfl) | (obtain ⟨_, _, _, _, rfl, _⟩ := h; rfl) | (obtain ⟨_, _, _, _, _, rfl, _⟩ := h; rfl) | (obtain ⟨_, _, _, _, _, _, rfl, _⟩ := h; rfl) | (obtain ⟨_, _, _, _, _, _, _, rfl, _⟩ := h; rfl) | (obtain ⟨_, _, _, _, _, _, _, _, rfl, _⟩ := h; rfl) | (obtain ⟨_, _, _, _, _, _, _, _, _, rfl, _⟩ := h; rfl) | (obtain ⟨_, _, _, _, _, _, _, _, _, _, rfl, _⟩ := h; rfl) | (obtain ⟨_, _, _, _, _, _, _, _, _, _, _, rfl, _⟩ := h; rfl) | (obtain ⟨_, _, _, _, _, _, _, _, _, _, _, _, rfl, _⟩ := h; rfl) | (obtain ⟨_, _, _, _, _, _, _, _, _, _, _, _, _, rfl, _⟩ := h; rfl) | (obtain ⟨_, _, _, _, _, _, _, _, _, _, _, _, _, _, rfl, _⟩ := h; rfl) | (obtain ⟨_, _, _, _, _, _, _, _, _, _, _, _, _, _, _, rfl, _⟩ := h; rfl)
  · have T := D.T
    have nd := sc_Book_land.nd
    have hu := hr.units
    have hu1 := hu_of hr
    have hu0 := hr.units0
    obtain ⟨b, rk, es, fp, kn, d, z, w, rfl, W, ok, hk, hl, q⟩ := h
    refine ⟨_, pss_cons (ps_expr (pe_call (ok_check_day D) (hr.mono (by decide)) (by rfl) D.h_check_day.gl D.h_check_day.fn.kp D.h_check_day.bd .nil pass0 (pa_cons (pv 1) pa_nil)))
      (pss_cons (ps_expr (pe_call (ok_check_day D) (hr.mono (by decide)) (by rfl) D.h_check_day.gl D.h_check_day.fn.kp D.h_check_day.bd .nil pass0 (pa_cons (pv 3) pa_nil)))
      (pss_cons (ps_expr (pe_call (ok_check_light D) (hr.mono (by decide)) (by rfl) D.h_check_light.gl D.h_check_light.fn.kp D.h_check_light.bd .nil pass0 (pa_cons (pv 2) pa_nil)))
      (pss_cons (ps_expr (pe_call (ok_check_number D) (hr.mono (by decide)) (by rfl) D.h_check_number.gl D.h_check_number.fn.kp D.h_check_number.bd .nil pass0 (pa_cons (pv 4) (pa_cons pe_int pa_nil))))
      (pss_cons (ps_expr (pe_call (ok_check_not_early D) (hr.mono (by decide)) (by rfl) D.h_check_not_early.gl D.h_check_not_early.fn.kp D.h_check_not_early.bd .nil pass0 (pa_cons (pv 0) (pa_cons (pv 1) pa_nil))))
      (pss_cons (ps_if (pt_cmp (pc_dnotin hu1 (pv 2) (pe_fld (pv 0) rfl))) (pss_one (ps_dput hu1 (pe_fld (pv 0) rfl) (pv 2) (pe_make0 D.M_History (ok_History___init__ D) (hr.mono (by decide)) (by rfl) D.Z_History.gl D.h_History___init__.bd .nil pass0) rfl)) pss_nil)
      (pss_cons (ps_expr (pe_meth (pe_dget hu1 (pe_fld (pv 0) rfl) (pv 2) (fun _ _ => rfl)) D.Z_History.cl D.h_History_note.me (ok_History_note D) (hr.mono (by decide)) D.h_History_note.bd .nil pass0 (pa_cons (pv 1) (pa_cons (pv 3) (pa_cons (pv 4) pa_nil)))))
      (pss_one (ps_fld (pv 0) (pv 1) rfl)))))))), ?_⟩
    obtain ⟨hz, n, rfl, n0, _⟩ := ok.lw rfl
    refine ⟨_, rfl, kn, rfl, ok.k0, _, rfl, d, rfl, ok.d0, ?_⟩
    refine ⟨_, rfl, z, rfl, hz, fun H2 s2 => ?_⟩
    refine ⟨_, rfl, n, 0, rfl, n0, _, rfl, _, rfl, b, rk, es, fp, kn, rfl, W.mono s2, hk, ?_⟩
    obtain ⟨B, rfl, rfl, rfl, rfl, bh, bp, bl⟩ := W
    have bh2 := bh.by (H' := H2) fun c _ o e => s2 c o e
    apply joinA (α := BA) (J := fun B' Hx => B'.b = B.b ∧ B'.rk = B.rk ∧ B'.es = B.es ∧ BkH D.C_Book D.C_History Hx B' (lateV B.es) ∧ BkP B' ∧ (∃ a, getA B'.ld z = some a) ∧ (∀ c ∈ B'.fp, c ∈ B.fp ∨ H2 c = none) ∧ SameL B.fp H2 Hx ∧ B'.ld.length ≤ B.es.length + 1)
      (sl := fun _ => [some (.ref B.b), some (.int kn), some (.str z), some (.int d), some (.int n)])
    · intro h
      refine ⟨_, rfl, _, rfl, B.b, _, B.dx, _, _, rfl, bh2.ix, D.Z_Book.cl, D.n_Book_landings, rfl, ?_⟩
      cases hg : getA B.ld z with
      | some a => exact ⟨B.L, _, rfl, dget_hs bh2.ldd hg, _, rfl, iteF (h B H2 ⟨rfl, rfl, rfl, bh2, bp, ⟨a, hg⟩, fun c hc => .inl hc, .of (Same.refl _), Nat.le_succ_of_le bl⟩)⟩
      | none =>
        refine ⟨B.L, _, rfl, dget_no bh2.ldd hg, _, rfl, iteT fun x dx nx ndx nex => ?_⟩
        have sm := same_made (C := D.C_History) (o := .ins D.C_History dx []) nx ndx
        refine ⟨x, dx, rfl, upd_same, fun a H3 ex eh eg nD Ha sb => ⟨rfl, ?_⟩⟩
        subst ex
        have s3 := sameB_new nx sm sb
        have bh3 := bh2.by (H' := H3) fun c _ o e => s3 c o e
        have efp : a.fp = [a.x, a.D] := by
          unfold HA.fp
          rw [eg]
          rfl
        refine ⟨_, rfl, B.b, _, B.dx, _, _, rfl, bh3.ix, D.Z_Book.cl, D.n_Book_landings, rfl, _, rfl, _, _, rfl, DPut.k (k := Sum.inr z) bh3.ldd (by rw [hsK_len]; exact small2k (by omega)), ?_⟩
        rw [hsK_put, putA_new hg]
        have frA : ∀ c ∈ a.fp, H2 c = none := fun c hc => by
          rw [efp] at hc
          rcases List.mem_cons.mp hc with e | hc
          · rw [e]
            exact nx
          · rw [List.mem_singleton.mp hc]
            exact sm.free nD
        obtain ⟨n1, n2, n3⟩ := bh2.newL (H' := upd H3 B.L (.dK (hsK (B.ld ++ [(z, a)])))) (z := z) s3 Ha frA upd_same (SameB.upd (SameB.of (Same.refl _)))
        refine h { B with ld := B.ld ++ [(z, a)] } _ ⟨rfl, rfl, rfl, n1, bp.newL (getA_none_iff.mp hg) eh, ⟨a, ?_⟩, n2, n3, by show (B.ld ++ _).length ≤ _; rw [List.length_append]; exact Nat.succ_le_succ bl⟩
        show getA (B.ld ++ [(z, a)]) z = some a
        rw [getA_app (getA_none_iff.mp hg)]
        exact getA_pos rfl
    rintro B' Hx ⟨eb, erk, ees, bhx, bpx, ⟨a, ha⟩, frx, sx, blx⟩
    obtain ⟨l1, l2, el, _⟩ := get_split ha
    have hmem : (z, a) ∈ B'.ld := by rw [el]; exact List.mem_append_right _ List.mem_cons_self
    have Ha := bhx.hl _ hmem
    have ix : Hx B.b = some (.ins D.C_Book B'.dx [("rank_of", .ref B'.R), ("moves", .ref B'.M), ("landings", .ref B'.L), ("latest_known", lateV B.es)]) := by rw [← eb]; exact bhx.ix
    refine ⟨_, rfl, B.b, _, B'.dx, _, _, rfl, ix, D.Z_Book.cl, D.n_Book_landings, rfl, _, rfl, B'.L, _, rfl, dget_hs bhx.ldd ha, a.x, a.dx, _, rfl, Ha.ix, rfl, _, rfl, _, rfl, _, rfl, a, kn, d, .int n, rfl, Ha, OKH.of (bpx.hl _ hmem) (by rw [ees]; omega), fun a' H3 ex eh Ha' fr s3 => ?_⟩
    obtain ⟨bh3, fr3, s3'⟩ := bhx.setL el Ha' ex fr s3
    have bp3 := bpx.land el eh (by rw [ees]; exact hk) (by rw [erk]; exact ok)
    refine ⟨_, rfl, _, rfl, B.b, _, B'.dx, _, rfl, (congrArg H3 eb).symm.trans bh3.ix, D.Z_Book.cl, D.n_Book_latest_known, by show 4 < 1000; decide, ?_⟩
    have mb : B.b ∈ B.fp := List.mem_cons_self
    rw [← eb]
    refine q _ _ ⟨{ B' with ld := l1 ++ (z, a') :: l2, es := B'.es ++ [⟨false, kn, z, d, .int n⟩] }, eb, erk, by show B'.es ++ _ = _; rw [ees], rfl, ?_, bp3, ?_⟩ ?_ ?_
    · rw [lateV_snoc]
      have := bh3.late (.int kn)
      exact ⟨this.ix, this.rd, this.md, this.ldd, this.hm, this.hl, this.nd⟩
    · show (l1 ++ (z, a') :: l2).length ≤ (B'.es ++ _).length
      have e2 := congrArg List.length el
      rw [List.length_append, List.length_cons] at e2
      rw [List.length_append, List.length_append, List.length_cons, List.length_singleton, ees]
      omega
    · intro c hc
      rcases fr3 c hc with h | h
      · exact (frx c h).imp id fun h => s2.free h
      · by_cases hf : c ∈ B.fp
        · exact .inl hf
        · exact .inr (s2.free (sx.free h hf))
    · refine SameL.upd (by rw [eb]; exact mb) ((SameL.of s2).trans (sx.fresh s3' frx))
theorem sc_Book_moves_known : FnScope ["self", "keeper", "known"] ["self", "keeper", "known"] (defScope s_Book_moves_known) := ⟨rfl, rfl, rfl, by decide +kernel, rfl, by decide +kernel, by decide +kernel⟩
theorem ok_Book_moves_known (D : All K P mg) : FnOk P w K mg base CX0 3 D.f_Book_moves_known D.d_Book_moves_known ["self", "keeper", "known"] (spMKn D.C_Book D.C_History) := by
  refine D.h_Book_moves_known.fn.ok sc_Book_moves_known (fun vs H Q E h => ?_) (fun cdv A outer s H vs Q E hr h => ?_)
  · first | (obtain ⟨_, rfl, _⟩ := h; rfl) | (obtain ⟨_, _, rfl, _⟩ := h; rfl) | (obtain ⟨_, _, _, rfl, _⟩ := h; rfl) | (obtain ⟨_, _, _, _, rfl, _⟩ := h; rfl) | (obtain ⟨_, _, _, _, _, rfl, _⟩ := h; rfl) | (obtain ⟨_, _, _, _, _, _, rfl, _⟩ := h; rfl) | (obtain ⟨_, _, _, _, _, _, _, rfl, _⟩ := h; rfl) | (obtain ⟨_, _, _, _, _, _, _, _, rfl, _⟩ := h; rfl) | (obtain ⟨_, _, _, _, _, _, _, _, _, rfl, _⟩ := h; rfl) | (obtain ⟨_, _, _, _, _, _, _, _, _, _, rfl, _⟩ := h; rfl) | (obtain ⟨_, _, _, _, _, _, _, _, _, _, _, rfl, _⟩ := h; rfl) | (obtain ⟨_, _, _, _, _, _, _, _, _, _, _, _, rfl, _⟩ := h; rfl) | (obtain ⟨_, _, _, _, _, _, _, _, _, _, _, _, _, rfl, _⟩ := h; rfl) | (obtain ⟨_, _, _, _, _, _, _, _, _, _, _, _, _, _, rfl, _⟩ := h; rfl) | (obtain ⟨_, _, _, _, _, _, _, _, _, _, _, _, _, _, _, rfl, _⟩ := h; rfl)
  · have T := D.T
    have nd := sc_Book_moves_known.nd
    have hu := hr.units
    have hu1 := hu_of hr
    have hu0 := hr.units0
    obtain ⟨_, rk, es, fp, z, kn, rfl, ⟨B, rfl, rfl, rfl, rfl, bh, bp, bl⟩, hz, hl, q⟩ := h
    refine ⟨_, pss_one (ps_ret (pe_meth (pe_dget hu1 (pe_fld (pv 0) rfl) (pv 1) (fun _ _ => rfl)) D.Z_History.cl D.h_History_holding.me (ok_History_holding D) (hr.mono (by decide)) D.h_History_holding.bd .nil pass0 (pa_cons (pv 2) pa_nil))), ?_⟩
    obtain ⟨a, ha⟩ := get_key (kvs := B.mv) (z := z) (by rw [bp.km]; exact hz)
    have hmem := getA_mem ha
    have Ha := bh.hm _ hmem
    refine ⟨_, rfl, B.b, _, B.dx, _, _, rfl, bh.ix, D.Z_Book.cl, D.n_Book_moves, rfl, _, rfl, B.M, _, rfl, dget_hs bh.md ha, a.x, a.dx, _, rfl, Ha.ix, rfl, _, rfl, a, kn, rfl, Ha, OKH.of (bp.hm _ hmem) hl, fun l L H' nl rl hh s1 => ?_⟩
    rw [show a.h = _ from bp.hm _ hmem] at hh
    obtain ⟨h1, h2⟩ := hh.held bp.up
    exact q l L H' nl rl h1 h2 s1
theorem sc_Book_where : FnScope ["self", "keeper", "day", "known", "place", "first", "moved_to"] ["self", "keeper", "day", "known"] (defScope s_Book_where) := ⟨rfl, rfl, rfl, by decide +kernel, rfl, by decide +kernel, by decide +kernel⟩
theorem ok_Book_where (D : All K P mg) : FnOk P w K mg base CX0 7 D.f_Book_where D.d_Book_where ["self", "keeper", "day", "known"] (spWhere D.C_Book D.C_History) := by
  refine D.q_Book_where.ok sc_Book_where (fun vs H Q E h => ?_) (fun cdv A outer s H vs Q E hr h => ?_)
  · first | (obtain ⟨_, rfl, _⟩ := h; rfl) | (obtain ⟨_, _, rfl, _⟩ := h; rfl) | (obtain ⟨_, _, _, rfl, _⟩ := h; rfl) | (obtain ⟨_, _, _, _, rfl, _⟩ := h; rfl) | (obtain ⟨_, _, _, _, _, rfl, _⟩ := h; rfl) | (obtain ⟨_, _, _, _, _, _, rfl, _⟩ := h; rfl) | (obtain ⟨_, _, _, _, _, _, _, rfl, _⟩ := h; rfl) | (obtain ⟨_, _, _, _, _, _, _, _, rfl, _⟩ := h; rfl) | (obtain ⟨_, _, _, _, _, _, _, _, _, rfl, _⟩ := h; rfl) | (obtain ⟨_, _, _, _, _, _, _, _, _, _, rfl, _⟩ := h; rfl) | (obtain ⟨_, _, _, _, _, _, _, _, _, _, _, rfl, _⟩ := h; rfl) | (obtain ⟨_, _, _, _, _, _, _, _, _, _, _, _, rfl, _⟩ := h; rfl) | (obtain ⟨_, _, _, _, _, _, _, _, _, _, _, _, _, rfl, _⟩ := h; rfl) | (obtain ⟨_, _, _, _, _, _, _, _, _, _, _, _, _, _, rfl, _⟩ := h; rfl) | (obtain ⟨_, _, _, _, _, _, _, _, _, _, _, _, _, _, _, rfl, _⟩ := h; rfl)
  · have T := D.T
    have nd := sc_Book_where.nd
    have hu := hr.units
    have hu1 := hu_of hr
    have hu0 := hr.units0
    obtain ⟨b, rk, es, fp, z, d, kn, rfl, W, hz, hl, h0, hk, q⟩ := h
    refine ⟨_, pss_cons (ps_expr (pe_call (ok_check_keeper D) (hr.mono (by decide)) (by rfl) D.h_check_keeper.gl D.h_check_keeper.fn.kp D.h_check_keeper.bd .nil pass0 (pa_cons (pv 0) (pa_cons (pv 1) pa_nil))))
      (pss_cons (ps_expr (pe_call (ok_check_days D) (hr.mono (by decide)) (by rfl) D.h_check_days.gl D.h_check_days.fn.kp D.h_check_days.bd .nil pass0 (pa_cons (pv 2) (pa_cons (pv 3) pa_nil))))
      (pss_cons (ps_set (i := 4) nd rfl (.inl rfl) (pe_glob (v := .str (Str.ofString "")) (by rfl) D.g_ASHORE ⟨_, rfl⟩))
      (pss_cons (PS.nox (ps_for PassesOwn.never rfl (pi_list (pe_meth (pv 0) D.Z_Book.cl D.h_Book_moves_known.me (ok_Book_moves_known D) (hr.mono (by decide)) D.h_Book_moves_known.bd .nil pass0 (pa_cons (pv 1) (pa_cons (pv 3) pa_nil)))) (pg_tup rfl (pgs_cons (pg_name (i := 5) nd rfl (Or.inl rfl)) (pgs_cons (pg_name (i := 6) nd rfl (Or.inl rfl)) pgs_nil))) (pss_one (ps_if (pt_cmpR op_le (pv 5) (pv 2) (nomark _)) (pss_one (ps_set (i := 4) nd rfl (.inl rfl) (pv 6))) pss_nil))))
      (pss_one (ps_ret (pv 4)))))), ?_⟩
    have W0 := W
    obtain ⟨B, rfl, rfl, rfl, rfl, bh, bp, bl⟩ := W0
    refine ⟨_, rfl, _, rfl, B.b, B.rk, B.es, B.fp, z, rfl, W, hz, fun H1 s1 => ?_⟩
    refine ⟨_, rfl, _, rfl, d, kn, rfl, h0, hk, ?_⟩
    refine ⟨_, rfl, B.b, B.dx, _, rfl, s1 _ _ bh.ix, rfl, _, rfl, _, rfl, B.b, B.rk, B.es, B.fp, z, kn, rfl, W.mono s1, hz, hl, fun l L H2 nl ⟨ts, el, rl⟩ hh hL s2 => ?_⟩
    refine ⟨l, rfl, ⟨_, SqL.of el⟩, for_list (xs := ts.map V.ref) (fun i σ H' => ∃ x5 x6, σ = [some (.ref B.b), some (.str z), some (.int d), some (knV kn), some (whereL (L.take i) d), x5, x6] ∧ H' = H2)
      ⟨none, none, rfl, rfl⟩ (fun i σ H' _ ⟨_, _, _, e⟩ => by rw [e]; exact SqL.of el) ?_ ?_⟩
    · rintro i y σ H3 hy ⟨x5, x6, rfl, rfl⟩
      obtain ⟨t, p, rfl, hp, ht⟩ := rl.at_ hy
      refine ⟨t, _, rfl, SqT.of ht, rfl, _, _, rfl, _, _, rfl, rfl, ?_⟩
      refine ⟨_, rfl, _, rfl, _, _, rfl, rfl, _, rfl, ite2 (fun h => ?_) (fun h => ?_)⟩
      · refine ⟨_, rfl, some (.int p.1), some p.2, ?_, rfl⟩
        rw [take_snoc hp, whereL_snoc, if_pos (of_decide_eq_true h)]
        rfl
      · refine ⟨some (.int p.1), some p.2, ?_, rfl⟩
        rw [take_snoc hp, whereL_snoc, if_neg (fun e => h (decide_eq_true e))]
        rfl
    · rintro σ H3 ⟨x5, x6, rfl, rfl⟩
      have hlen : ts.length = L.length := Paired.length rl
      refine ⟨_, rfl, q _ H3 ?_ (s1.trans s2)⟩
      rw [List.length_map, hlen, List.take_length]
      exact whereL_is hh
end
end K63
set_option Elab.async false
set_option linter.all false
set_option maxRecDepth 100000
set_option maxHeartbeats 1600000
set_option pp.maxSteps 300
namespace K63
open PySem PySem.Spec PyProof.Rows L2 LT NdefX LamX
section
variable {P : Program} {w : World} {K : PySem.W.Frag} {mg : Str → Option Value} {base : Heap}
theorem sc_History_all_told : FnScope ["self", "day", "told", "known", "worth"] ["self"] (defScope s_History_all_told) := ⟨rfl, rfl, rfl, by decide +kernel, rfl, by decide +kernel, by decide +kernel⟩
theorem ok_History_all_told (D : All K P mg) : FnOk P w K mg base CX0 1 D.f_History_all_told D.d_History_all_told ["self"] (spAllTold D.C_History) := by
  refine D.h_History_all_told.fn.ok sc_History_all_told (fun vs H Q E h => ?_) (fun cdv A outer s H vs Q E hr h => ?_)
  · first | (obtain ⟨_, rfl, _⟩ := h; rfl) | (obtain ⟨_, _, rfl, _⟩ := h; rfl) | (obtain ⟨_, _, _, rfl, _⟩ := h; rfl) | (obtain ⟨_, _, _, _, rfl, _⟩ := h; rfl) | (obtain ⟨_, _, _, _, _, rfl, _⟩ := h; rfl) | (obtain ⟨_, _, _, _, _, _, rfl, _⟩ := h; rfl) | (obtain ⟨_, _, _, _, _, _, _, rfl, _⟩ := h; rfl) | (obtain ⟨_, _, _, _, _, _, _, _, rfl, _⟩ := h; rfl) | (obtain ⟨_, _, _, _, _, _, _, _, _, rfl, _⟩ := h; rfl) | (obtain ⟨_, _, _, _, _, _, _, _, _, _, rfl, _⟩ := h; rfl) | (obtain ⟨_, _, _, _, _, _, _, _, _, _, _, rfl, _⟩ := h; rfl) | (obtain ⟨_, _, _, _, _, _, _, _, _, _, _, _, rfl, _⟩ := h; rfl) | (obtain ⟨_, _, _, _, _, _, _, _, _, _, _, _, _, rfl, _⟩ := h; rfl) | (obtain ⟨_, _, _, _, _, _, _, _, _, _, _, _, _, _, rfl, _⟩ := h; rfl) | (obtain ⟨_, _, _, _, _, _, _, _, _, _, _, _, _, _, _, rfl, _⟩ := h; rfl)
  · have T := D.T
    have nd := sc_History_all_told.nd
    have hu := hr.units
    have hu1 := hu_of hr
    have hu0 := hr.units0
    obtain ⟨a, rfl, W, hn, q⟩ := h
    refine ⟨_, pss_one (ps_ret (pe_lockM (pe_lc2 (own := [("day", 1), ("told", 2), ("known", 3), ("worth", 4)]) (vs1 := [3, 4]) (g := gTup K 2 (gCons (gName 1) (gCons (gName 2) gNil))) (g1 := gTup K 2 (gCons (gName 3) (gCons (gName 4) gNil))) (tt := tYes) (tt1 := tYes) rfl nd (pi_items (pe_fld (pv 0) rfl))
      (blkOk_by (N := ["self", "day", "told", "known", "worth"]) (sc := defScope s_History_all_told) (by decide +kernel)) (by decide) (fun _ _ _ _ _ => (pg_tup rfl (pgs_cons (pg_name (i := 1) nd rfl (Or.inl rfl)) (pgs_cons (pg_name (i := 2) nd rfl (Or.inl rfl)) pgs_nil)))) (fun _ _ _ _ _ => pts_nil)
      (fun _ _ _ _ _ => pi_items (pv 2)) (fun _ _ _ _ _ => (pg_tup rfl (pgs_cons (pg_name (i := 3) nd rfl (Or.inl rfl)) (pgs_cons (pg_name (i := 4) nd rfl (Or.inl rfl)) pgs_nil)))) (fun _ _ _ _ _ => pts_nil) (fun _ _ _ _ _ => pe_tup (pa_cons (pv 3) (pa_cons (pv 1) (pa_cons (pv 4) pa_nil))))))), ?_⟩
    have ndf := W.nd
    have hdx : a.x ∉ a.D :: a.g.map (·.2) := (List.nodup_cons.mp ndf).1
    have ndD := (List.nodup_cons.mp ndf).2
    refine ⟨_, locksE (a.D :: a.g.map (·.2)) H _ ndD (fun d hd => ?_) fun Hl hl Q' hq => ?_⟩
    · rcases List.mem_cons.mp hd with rfl | hd
      · exact ⟨_, W.bd, trivial⟩
      · obtain ⟨p, hp, rfl⟩ := List.mem_map.mp hd
        obtain ⟨i, hi⟩ := List.getElem?_of_mem hp
        obtain ⟨e, _, h1, h2⟩ := paired_get W.ta hi
        exact ⟨_, h2, trivial⟩
    have eX : Hl a.x = some (.ins D.C_History a.dx [("by_day", .ref a.D)]) := by
      rw [hl.2 _ hdx]
      exact W.ix
    obtain ⟨od, u, hu, eD⟩ := hl.1 a.D List.mem_cons_self
    rw [W.bd] at hu
    cases hu
    have gl : a.g.length = a.h.length := Paired.length W.ta
    have dday : ∀ (i : Nat) (p : Int × Addr) (e : Int × Told), a.g[i]? = some p → a.h[i]? = some e → p.1 = e.1 ∧ ∃ od, Hl p.2 = some (.frz od (.dK (toldK e.2))) := fun i p e hp he => by
      obtain ⟨e', h1, h2, h3⟩ := paired_get W.ta hp
      rw [he] at h1
      cases h1
      obtain ⟨od, u, hu, e4⟩ := hl.1 p.2 (List.mem_cons_of_mem _ (List.mem_map.mpr ⟨p, List.mem_of_getElem? hp, rfl⟩))
      rw [h3] at hu
      cases hu
      exact ⟨h2, od, e4⟩
    refine ⟨_, rfl, a.x, _, a.dx, _, _, rfl, eX, D.Z_History.cl, D.n_History_by_day, rfl, a.D, od, _, rfl, eD, fun F nF => ?_⟩
    refine walkW (walk_eni (gk := Sum.inl) (f := V.ref) (r := a.g)) (fun i H' => Same Hl H' ∧ ∃ ts : List Addr, H' F = some (.lst (ts.map V.ref)) ∧ Paired (TellT H') ts (flatH (a.h.take i))) ⟨same_upd nF, [], upd_same, .nil⟩ (fun i H' _ ⟨s, _⟩ => s _ _ eD) ?_ ?_
    · rintro i x H1 H2 hi ⟨s1, ts, eF, hts⟩ ⟨T1, p, hp, rfl, nT1, rfl⟩
      obtain ⟨e, he⟩ : ∃ e, a.h[i]? = some e := ⟨_, List.getElem?_eq_getElem (by omega)⟩
      obtain ⟨ep, od2, ed2⟩ := dday i p e hp he
      have s2 := same_upd (o := .tup [kV (Sum.inl p.1), V.ref p.2]) nT1
      have eT1 := upd_same (H := H1) (a := T1) (o := .tup [kV (Sum.inl p.1), V.ref p.2])
      generalize L2.upd H1 T1 (.tup [kV (Sum.inl p.1), V.ref p.2]) = H2 at *
      refine ⟨T1, _, rfl, SqT.of eT1, rfl, _, _, rfl, _, _, rfl, rfl, rfl, ?_⟩
      have s02 := s1.trans s2
      refine ⟨_, rfl, p.2, od2, _, rfl, s02 _ _ ed2, ?_⟩
      refine walkW (walk_eni (gk := Sum.inl) (f := id) (r := e.2)) (fun j H' => Same Hl H' ∧ ∃ ts : List Addr, H' F = some (.lst (ts.map V.ref)) ∧ Paired (TellT H') ts (flatH (a.h.take i) ++ (e.2.take j).map fun q => (q.1, e.1, q.2))) ⟨s02, ts, s2 _ _ eF, by rw [List.take_zero, List.map_nil, List.append_nil]; exact paired_imp (fun _ _ h => s2 _ _ h) hts⟩ (fun i H' _ ⟨s, _⟩ => s _ _ ed2) ?_ ?_
      · rintro j x H3 H4 hj ⟨s3, ts, eF, hts⟩ ⟨T2, r, hr, rfl, nT2, rfl⟩
        have s4 := same_upd (o := .tup [kV (Sum.inl r.1), id r.2]) nT2
        have eT2 := upd_same (H := H3) (a := T2) (o := .tup [kV (Sum.inl r.1), id r.2])
        generalize L2.upd H3 T2 (.tup [kV (Sum.inl r.1), id r.2]) = H4 at *
        refine ⟨T2, _, rfl, SqT.of eT2, rfl, _, _, rfl, _, _, rfl, rfl, rfl, ?_⟩
        refine ⟨_, rfl, _, rfl, _, rfl, by show 3 ≤ sizeLine; decide, fun T3 nT3 => ?_⟩
        have s5 := same_upd (o := .tup [V.int r.1, .int p.1, r.2]) nT3
        have eT3 := upd_same (H := H4) (a := T3) (o := .tup [V.int r.1, .int p.1, r.2])
        have eF5 := s5 _ _ (s4 _ _ eF)
        have s35 := s4.trans s5
        have tl := Paired.length hts
        have tl2 : ts.length < 2001 := by
          have h1 := flatH_take a.h (i + 1)
          rw [flatH_snoc he, List.length_append, List.length_map] at h1
          rw [tl, List.length_append, List.length_map, List.length_take]
          have : (flatH a.h).length ≤ 2000 := hn
          omega
        refine ⟨_, eF5, by rw [List.length_map, sizeLine_eq]; omega, same_put nF (s3.trans s35), ts ++ [T3], ?_, ?_⟩
        · rw [upd_same, List.map_append]
          rfl
        · have hT3 : TellT (L2.upd H4 T3 (.tup [V.int r.1, .int p.1, r.2])) T3 (r.1, e.1, r.2) := by
            show L2.upd H4 T3 (.tup [V.int r.1, .int p.1, r.2]) T3 = some (HO.tup [V.int r.1, .int e.1, r.2])
            rw [eT3, ep]
          have key : ∀ {Hx : Hp} {t : Addr} {y : Int × Int × V} {xs : List V} {o : HO}, Hx F = some (.lst xs) → TellT Hx t y → TellT (L2.upd Hx F o) t y := fun {Hx t y xs o} ef h => by
            show L2.upd Hx F o t = _
            rw [upd_ne (ne_of h ef (by intro z; cases z))]
            exact h
          rw [take_snoc hr, List.map_append, ← List.append_assoc]
          exact paired_snoc' (paired_imp (fun _ _ h => key eF5 (s35 _ _ h)) hts) (key eF5 hT3)
      · rintro H3 ⟨s3, ts, eF, hts⟩
        rw [List.take_length, ← flatH_snoc he] at hts
        exact ⟨s3, ts, eF, hts⟩
    · rintro H1 ⟨s1, ts, eF, hts⟩
      rw [gl, List.take_length] at hts
      refine hq _ H1 (fun d hd => ?_) (q F ts _ (unlock_none hl nF) (unlock_new hl nF eF) (paired_imp (fun _ _ h => h.unlock hl s1) hts) (unlock_same hl s1))
      obtain ⟨od, u, _, e⟩ := hl.1 d hd
      rw [e, s1 _ _ e]
theorem sc_Book_entries : FnScope ["self", "told", "light", "history", "keeper", "known", "day", "weight", "place"] ["self"] (defScope s_Book_entries) := ⟨rfl, rfl, rfl, by decide +kernel, rfl, by decide +kernel, by decide +kernel⟩
theorem ok_Book_entries (D : All K P mg) (TB : TBs D base) : FnOk P w K mg base CX0 9 D.f_Book_entries D.d_Book_entries ["self"] (spEntries D.C_Book D.C_History (TLs D)) := by
  refine D.L_Book_entries.ok sc_Book_entries (fun vs H Q E h => ?_) (fun A outer s H vs Q E hr h => ?_)
  · first | (obtain ⟨_, rfl, _⟩ := h; rfl) | (obtain ⟨_, _, rfl, _⟩ := h; rfl) | (obtain ⟨_, _, _, rfl, _⟩ := h; rfl) | (obtain ⟨_, _, _, _, rfl, _⟩ := h; rfl) | (obtain ⟨_, _, _, _, _, rfl, _⟩ := h; rfl) | (obtain ⟨_, _, _, _, _, _, rfl, _⟩ := h; rfl) | (obtain ⟨_, _, _, _, _, _, _, rfl, _⟩ := h; rfl) | (obtain ⟨_, _, _, _, _, _, _, _, rfl, _⟩ := h; rfl) | (obtain ⟨_, _, _, _, _, _, _, _, _, rfl, _⟩ := h; rfl) | (obtain ⟨_, _, _, _, _, _, _, _, _, _, rfl, _⟩ := h; rfl) | (obtain ⟨_, _, _, _, _, _, _, _, _, _, _, rfl, _⟩ := h; rfl) | (obtain ⟨_, _, _, _, _, _, _, _, _, _, _, _, rfl, _⟩ := h; rfl) | (obtain ⟨_, _, _, _, _, _, _, _, _, _, _, _, _, rfl, _⟩ := h; rfl) | (obtain ⟨_, _, _, _, _, _, _, _, _, _, _, _, _, _, rfl, _⟩ := h; rfl) | (obtain ⟨_, _, _, _, _, _, _, _, _, _, _, _, _, _, _, rfl, _⟩ := h; rfl)
  · have T := D.T
    have nd := sc_Book_entries.nd
    have hu := hr.units
    have hu1 := hu_of hr
    have hu0 := hr.units0
    obtain ⟨_, rk, es, fp, rfl, ⟨B, rfl, rfl, rfl, rfl, bh, bp, bl⟩, hl, hT, q⟩ := h
    refine ⟨_, pss_cons (ps_set (i := 1) nd rfl (.inl rfl) (pe_lst pa_nil))
      (pss_cons (ps_lock (ps_for PassesOwn.never rfl (pi_items (pe_fld (pv 0) rfl)) (pg_tup rfl (pgs_cons (pg_name (i := 2) nd rfl (Or.inr rfl)) (pgs_cons (pg_name (i := 3) nd rfl (Or.inl rfl)) pgs_nil))) (pss_one (ps_aug (i := 1) nd rfl (.inl rfl) (pe_lc (own := [("known", 5), ("day", 6), ("weight", 7)]) (g := gTup K 3 (gCons (gName 5) (gCons (gName 6) (gCons (gName 7) gNil)))) (tt := tYes) rfl nd (pi_list (pe_meth0 (pv 3) D.Z_History.cl D.h_History_all_told.me (ok_History_all_told D) (hr.mono (by decide)) D.h_History_all_told.bd .nil pass0)) (blkOk_by (N := ["self", "told", "light", "history", "keeper", "known", "day", "weight", "place"]) (sc := defScope s_Book_entries) (by decide +kernel)) (fun _ _ _ _ _ => (pg_tup rfl (pgs_cons (pg_name (i := 5) nd rfl (Or.inl rfl)) (pgs_cons (pg_name (i := 6) nd rfl (Or.inl rfl)) (pgs_cons (pg_name (i := 7) nd rfl (Or.inl rfl)) pgs_nil))))) (fun _ _ _ _ _ => pts_nil) (fun _ _ _ _ _ => (pe_tup (pa_cons pe_str (pa_cons (pv 5) (pa_cons (pv 2) (pa_cons (pv 6) (pa_cons (pv 7) pa_nil)))))))) ip_cat))))
      (pss_cons (ps_lock (ps_for PassesOwn.never rfl (pi_items (pe_fld (pv 0) rfl)) (pg_tup rfl (pgs_cons (pg_name (i := 4) nd rfl (Or.inr rfl)) (pgs_cons (pg_name (i := 3) nd rfl (Or.inl rfl)) pgs_nil))) (pss_one (ps_aug (i := 1) nd rfl (.inl rfl) (pe_lc (own := [("known", 5), ("day", 6), ("place", 8)]) (g := gTup K 3 (gCons (gName 5) (gCons (gName 6) (gCons (gName 8) gNil)))) (tt := tYes) rfl nd (pi_list (pe_meth0 (pv 3) D.Z_History.cl D.h_History_all_told.me (ok_History_all_told D) (hr.mono (by decide)) D.h_History_all_told.bd .nil pass0)) (blkOk_by (N := ["self", "told", "light", "history", "keeper", "known", "day", "weight", "place"]) (sc := defScope s_Book_entries) (by decide +kernel)) (fun _ _ _ _ _ => (pg_tup rfl (pgs_cons (pg_name (i := 5) nd rfl (Or.inl rfl)) (pgs_cons (pg_name (i := 6) nd rfl (Or.inl rfl)) (pgs_cons (pg_name (i := 8) nd rfl (Or.inl rfl)) pgs_nil))))) (fun _ _ _ _ _ => pts_nil) (fun _ _ _ _ _ => (pe_tup (pa_cons pe_str (pa_cons (pv 5) (pa_cons (pv 4) (pa_cons (pv 6) (pa_cons (pv 8) pa_nil)))))))) ip_cat))))
      (pss_one (ps_ret (pe_sortedLamT (T := TLs D) (x := "entry") (k := 0) (by rfl) T.sorted (pa_cons (pv 1) pa_nil) rfl rfl TB.t_Book_entries rfl D.mem_Book_entries (fun p hp e => D.uq_Book_entries p hp e) (show LamP (defScope s_Book_entries) _ _ from lamP_by (by decide +kernel)) (show ("entry" : Str) ∉ (["self", "told", "light", "history", "keeper", "known", "day", "weight", "place"] : List Str) by decide) rfl (fun _ _ _ _ _ _ => rfl) hr (fun A outer s H f c' hr3 => pe_slice (r := rSlT K) sl_tup (pv 0) po_none (po_some pe_int)) (by decide +kernel)))))), ?_⟩
    have ndd := bh.nd
    have n1 := (List.nodup_cons.mp ndd).1
    have n2 := (List.nodup_cons.mp (List.nodup_cons.mp ndd).2).1
    have n3 := (List.nodup_cons.mp (List.nodup_cons.mp (List.nodup_cons.mp ndd).2).2).1
    have n4 := (List.nodup_cons.mp (List.nodup_cons.mp (List.nodup_cons.mp (List.nodup_cons.mp ndd).2).2).2).1
    have nbL : B.b ≠ B.L := fun z => n1 (by rw [z]; exact List.mem_cons_of_mem _ (List.mem_cons_of_mem _ List.mem_cons_self))
    have nbM : B.b ≠ B.M := fun z => n1 (by rw [z]; exact List.mem_cons_of_mem _ List.mem_cons_self)
    have nL : ∀ c ∈ hsfp B.mv ++ hsfp B.ld, c ≠ B.L := fun c hc z => n4 (by rw [← z]; exact hc)
    have nM : ∀ c ∈ hsfp B.mv ++ hsfp B.ld, c ≠ B.M := fun c hc z => n3 (by rw [← z]; exact List.mem_cons_of_mem _ hc)
    have elen : (flatE false B.ld).length + (flatE true B.mv).length ≤ 60 := by
      have := entL_le bp
      unfold entL at this
      rw [List.length_append] at this
      omega
    refine ⟨by show 0 ≤ sizeLine; decide, fun F nF => ?_⟩
    have s1 := same_upd (o := .lst []) nF
    have eF := upd_same (H := H) (a := F) (o := .lst [])
    generalize L2.upd H F (.lst []) = H1 at *
    have nFc : ∀ c o, H c = some o → F ≠ c := fun c o e => ne_of_none' nF e
    -- land
    refine ⟨B.L, _, s1 _ _ bh.ldd, trivial, fun od => ?_⟩
    obtain ⟨HL, eHL⟩ : ∃ HL, HL = L2.upd H1 B.L (.frz od (.dK (hsK B.ld))) := ⟨_, rfl⟩
    rw [← eHL]
    have nFL : F ≠ B.L := nFc _ _ bh.ldd
    have eL : HL B.L = some (.frz od (.dK (hsK B.ld))) := by rw [eHL, upd_same]
    have oth : ∀ a o, a ≠ B.L → H1 a = some o → HL a = some o := fun a o n e => by rw [eHL, upd_ne n]; exact e
    have back : ∀ a, a ≠ B.L → HL a = H1 a := fun a n => by rw [eHL, upd_ne n]
    have xb := oth _ _ (nbL) (s1 _ _ bh.ix)
    refine ⟨_, rfl, B.b, _, B.dx, _, _, rfl, xb, D.Z_Book.cl, D.n_Book_landings, rfl, B.L, od, _, rfl, eL, ?_⟩
    refine for_it (walk_eni (gk := Sum.inr) (f := fun a : HA => V.ref a.x) (r := B.ld)) (fun i σ H' => (∃ x2 x3 x4, σ = [some (.ref B.b), some (.ref F), x2, x3, x4, none, none, none, none]) ∧ SameB F HL H' ∧ ∃ ts : List Addr, H' F = some (.lst (ts.map V.ref)) ∧ Paired (EvT H') ts (flatE false (B.ld.take i)))
      ⟨⟨_, _, _, rfl⟩, SameB.of (Same.refl _), [], oth _ _ nFL eF, .nil⟩ (fun i σ H' _ ⟨_, s, _⟩ => s _ _ (Ne.symm nFL) eL) ?_ ?_
    · rintro i x σ H2 H3 hi ⟨⟨x2, x3, x4, rfl⟩, sb, ts, eF2, hts⟩ ⟨T1, p, hp, rfl, nT1, rfl⟩
      have s3 := same_upd (o := .tup [kV (Sum.inr p.1), V.ref p.2.x]) nT1
      have eT1 := upd_same (H := H2) (a := T1) (o := .tup [kV (Sum.inr p.1), V.ref p.2.x])
      generalize L2.upd H2 T1 (.tup [kV (Sum.inr p.1), V.ref p.2.x]) = H3 at *
      have sb3 : SameB F HL H3 := sb.trans (SameB.of s3)
      have hmem := List.mem_of_getElem? hp
      have Hh : HistAt D.C_History H3 p.2 := (bh.hl p hmem).by fun c hc o e => sb3 c o (fun z => nFc _ _ e z.symm) (oth c o (nL c (List.mem_append_right _ (hsfp_mem.mpr ⟨p, hmem, hc⟩))) (s1 _ _ e))
      have eh := bp.hl p hmem
      refine ⟨T1, _, rfl, SqT.of eT1, rfl, _, _, rfl, _, _, rfl, rfl, ?_⟩
      refine ⟨_, rfl, _, rfl, p.2.x, p.2.dx, _, rfl, Hh.ix, rfl, p.2, rfl, Hh, (by rw [eh]; exact Nat.le_trans (flat_le _ _ _) (by omega)), fun l us H4 nl el hus s4 => ?_⟩
      have flen : (flatH p.2.h).length ≤ 60 := by rw [eh]; exact Nat.le_trans (flat_le _ _ _) hl
      refine ⟨l, rfl, ⟨_, SqL.of el⟩, fun G nG => ?_⟩
      refine lc_list (K := K) (a := l) (xs := us.map V.ref) (fun j H' => Same H4 H' ∧ ∃ vs : List Addr, H' G = some (.lst (vs.map V.ref)) ∧ Paired (EvT H') vs (((flatH p.2.h).take j).map fun q => ⟨false, q.1, p.1, q.2.1, q.2.2⟩)) ⟨same_upd nG, [], upd_same, .nil⟩ (fun j H' _ h => h.1.seq (SqL.of el)) ?_ ?_
      · rintro j v H5 hv ⟨s5, vs, eG, hvs⟩
        obtain ⟨t, q0, rfl, hq, ht⟩ := pick_at hus hv
        have ht5 := s5 _ _ ht
        refine ⟨t, _, rfl, SqT.of ht5, rfl, _, _, rfl, _, _, rfl, _, _, rfl, rfl, rfl, ?_⟩
        refine ⟨_, rfl, _, rfl, _, rfl, _, rfl, by show 5 ≤ sizeLine; decide, fun T5 nT5 => ?_⟩
        have s6 := same_upd (o := .tup [V.str (Str.ofString "land"), V.int q0.1, kV (Sum.inr p.1), V.int q0.2.1, q0.2.2]) nT5
        have eT5 := upd_same (H := H5) (a := T5) (o := .tup [V.str (Str.ofString "land"), V.int q0.1, kV (Sum.inr p.1), V.int q0.2.1, q0.2.2])
        generalize L2.upd H5 T5 (.tup [V.str (Str.ofString "land"), V.int q0.1, kV (Sum.inr p.1), V.int q0.2.1, q0.2.2]) = H6 at *
        have vl : vs.length ≤ 60 := by
          rw [Paired.length hvs, List.length_map, List.length_take]
          omega
        have eG6 := s6 _ _ eG
        refine ⟨_, eG6, by rw [List.length_map]; exact small2k (by omega), same_put nG (s5.trans s6), vs ++ [T5], ?_, ?_⟩
        · rw [upd_same, List.map_append]
          rfl
        · rw [take_snoc hq, List.map_append]
          exact paired_snoc' (paired_imp (fun _ _ h => evT_upd (s6 _ _ h) eG6) hvs) (evT_upd (show EvT H6 T5 ⟨false, q0.1, p.1, q0.2.1, q0.2.2⟩ from eT5) eG6)
      · rintro H5 ⟨s5, vs, eG, hvs⟩
        have ul : (us.map V.ref).length = (flatH p.2.h).length := by rw [List.length_map]; exact Paired.length hus
        rw [ul, List.take_length] at hvs
        have s25 : Same H2 H5 := s3.trans (s4.trans s5)
        have eF5 := s25 _ _ eF2
        have htl : ts.length ≤ 60 := by
          rw [Paired.length hts]
          have h1 := flatE_take false B.ld i
          have h2 := elen
          omega
        have hvl : vs.length ≤ 60 := by
          rw [Paired.length hvs, List.length_map]
          exact flen
        refine ⟨F, G, _, _, rfl, rfl, eF5, eG, by rw [List.length_map, List.length_map, sizeLine_eq]; omega, ⟨_, _, _, rfl⟩, (sb.trans (SameB.of s25)).upd, ts ++ vs, ?_, ?_⟩
        · rw [upd_same, List.map_append]
        · rw [flatE_snoc hp]
          exact paired_cat (paired_imp (fun _ _ h => evT_upd (s25 _ _ h) eF5) hts) (paired_imp (fun _ _ h => evT_upd h eF5) hvs)
    rintro σ H7 ⟨⟨y2, y3, y4, rfl⟩, sb, ts1, eF2, hts⟩
    refine ⟨sb _ _ (Ne.symm nFL) eL, ?_⟩
    rw [List.take_length] at hts
    have s13 : Same H (L2.upd H7 B.L (.dK (hsK B.ld))) := fun a o e => by
      by_cases ha : a = B.L
      · rw [ha] at e ⊢
        rw [upd_same, ← bh.ldd, e]
      · rw [upd_ne ha]
        exact sb a o (fun z => nFc _ _ e z.symm) (oth a o ha (s1 _ _ e))
    have eF13 : L2.upd H7 B.L (.dK (hsK B.ld)) F = some (.lst (ts1.map V.ref)) := by
      rw [upd_ne nFL]
      exact eF2
    have hts1 : Paired (EvT (L2.upd H7 B.L (.dK (hsK B.ld)))) ts1 (flatE false B.ld) := paired_imp (fun _ _ h => evT_frz h (sb _ _ (Ne.symm nFL) eL)) hts
    generalize L2.upd H7 B.L (.dK (hsK B.ld)) = H13 at *
    clear eHL eL oth back xb nFL sb eF2 hts
    -- move
    refine ⟨B.M, _, s13 _ _ bh.md, trivial, fun od => ?_⟩
    obtain ⟨HL, eHL⟩ : ∃ HL, HL = L2.upd H13 B.M (.frz od (.dK (hsK B.mv))) := ⟨_, rfl⟩
    rw [← eHL]
    have nFL : F ≠ B.M := nFc _ _ bh.md
    have eL : HL B.M = some (.frz od (.dK (hsK B.mv))) := by rw [eHL, upd_same]
    have oth : ∀ a o, a ≠ B.M → H13 a = some o → HL a = some o := fun a o n e => by rw [eHL, upd_ne n]; exact e
    have back : ∀ a, a ≠ B.M → HL a = H13 a := fun a n => by rw [eHL, upd_ne n]
    have xb := oth _ _ (nbM) (s13 _ _ bh.ix)
    refine ⟨_, rfl, B.b, _, B.dx, _, _, rfl, xb, D.Z_Book.cl, D.n_Book_moves, rfl, B.M, od, _, rfl, eL, ?_⟩
    refine for_it (walk_eni (gk := Sum.inr) (f := fun a : HA => V.ref a.x) (r := B.mv)) (fun i σ H' => (∃ x2 x3 x4, σ = [some (.ref B.b), some (.ref F), x2, x3, x4, none, none, none, none]) ∧ SameB F HL H' ∧ ∃ ts : List Addr, H' F = some (.lst (ts.map V.ref)) ∧ Paired (EvT H') ts (flatE false B.ld ++ flatE true (B.mv.take i)))
      ⟨⟨_, _, _, rfl⟩, SameB.of (Same.refl _), ts1, oth _ _ nFL eF13, by rw [List.take_zero]; show Paired _ _ (flatE false B.ld ++ []); rw [List.append_nil]; exact paired_imp (fun _ _ h => by rw [eHL]; exact evT_dK h (s13 _ _ bh.md)) hts1⟩ (fun i σ H' _ ⟨_, s, _⟩ => s _ _ (Ne.symm nFL) eL) ?_ ?_
    · rintro i x σ H2 H3 hi ⟨⟨x2, x3, x4, rfl⟩, sb, ts, eF2, hts⟩ ⟨T1, p, hp, rfl, nT1, rfl⟩
      have s3 := same_upd (o := .tup [kV (Sum.inr p.1), V.ref p.2.x]) nT1
      have eT1 := upd_same (H := H2) (a := T1) (o := .tup [kV (Sum.inr p.1), V.ref p.2.x])
      generalize L2.upd H2 T1 (.tup [kV (Sum.inr p.1), V.ref p.2.x]) = H3 at *
      have sb3 : SameB F HL H3 := sb.trans (SameB.of s3)
      have hmem := List.mem_of_getElem? hp
      have Hh : HistAt D.C_History H3 p.2 := (bh.hm p hmem).by fun c hc o e => sb3 c o (fun z => nFc _ _ e z.symm) (oth c o (nM c (List.mem_append_left _ (hsfp_mem.mpr ⟨p, hmem, hc⟩))) (s13 _ _ e))
      have eh := bp.hm p hmem
      refine ⟨T1, _, rfl, SqT.of eT1, rfl, _, _, rfl, _, _, rfl, rfl, ?_⟩
      refine ⟨_, rfl, _, rfl, p.2.x, p.2.dx, _, rfl, Hh.ix, rfl, p.2, rfl, Hh, (by rw [eh]; exact Nat.le_trans (flat_le _ _ _) (by omega)), fun l us H4 nl el hus s4 => ?_⟩
      have flen : (flatH p.2.h).length ≤ 60 := by rw [eh]; exact Nat.le_trans (flat_le _ _ _) hl
      refine ⟨l, rfl, ⟨_, SqL.of el⟩, fun G nG => ?_⟩
      refine lc_list (K := K) (a := l) (xs := us.map V.ref) (fun j H' => Same H4 H' ∧ ∃ vs : List Addr, H' G = some (.lst (vs.map V.ref)) ∧ Paired (EvT H') vs (((flatH p.2.h).take j).map fun q => ⟨true, q.1, p.1, q.2.1, q.2.2⟩)) ⟨same_upd nG, [], upd_same, .nil⟩ (fun j H' _ h => h.1.seq (SqL.of el)) ?_ ?_
      · rintro j v H5 hv ⟨s5, vs, eG, hvs⟩
        obtain ⟨t, q0, rfl, hq, ht⟩ := pick_at hus hv
        have ht5 := s5 _ _ ht
        refine ⟨t, _, rfl, SqT.of ht5, rfl, _, _, rfl, _, _, rfl, _, _, rfl, rfl, rfl, ?_⟩
        refine ⟨_, rfl, _, rfl, _, rfl, _, rfl, by show 5 ≤ sizeLine; decide, fun T5 nT5 => ?_⟩
        have s6 := same_upd (o := .tup [V.str (Str.ofString "move"), V.int q0.1, kV (Sum.inr p.1), V.int q0.2.1, q0.2.2]) nT5
        have eT5 := upd_same (H := H5) (a := T5) (o := .tup [V.str (Str.ofString "move"), V.int q0.1, kV (Sum.inr p.1), V.int q0.2.1, q0.2.2])
        generalize L2.upd H5 T5 (.tup [V.str (Str.ofString "move"), V.int q0.1, kV (Sum.inr p.1), V.int q0.2.1, q0.2.2]) = H6 at *
        have vl : vs.length ≤ 60 := by
          rw [Paired.length hvs, List.length_map, List.length_take]
          omega
        have eG6 := s6 _ _ eG
        refine ⟨_, eG6, by rw [List.length_map]; exact small2k (by omega), same_put nG (s5.trans s6), vs ++ [T5], ?_, ?_⟩
        · rw [upd_same, List.map_append]
          rfl
        · rw [take_snoc hq, List.map_append]
          exact paired_snoc' (paired_imp (fun _ _ h => evT_upd (s6 _ _ h) eG6) hvs) (evT_upd (show EvT H6 T5 ⟨true, q0.1, p.1, q0.2.1, q0.2.2⟩ from eT5) eG6)
      · rintro H5 ⟨s5, vs, eG, hvs⟩
        have ul : (us.map V.ref).length = (flatH p.2.h).length := by rw [List.length_map]; exact Paired.length hus
        rw [ul, List.take_length] at hvs
        have s25 : Same H2 H5 := s3.trans (s4.trans s5)
        have eF5 := s25 _ _ eF2
        have htl : ts.length ≤ 60 := by
          rw [Paired.length hts]
          have h1 := flatE_take true B.mv i
          have h2 := elen
          rw [List.length_append]
          omega
        have hvl : vs.length ≤ 60 := by
          rw [Paired.length hvs, List.length_map]
          exact flen
        refine ⟨F, G, _, _, rfl, rfl, eF5, eG, by rw [List.length_map, List.length_map, sizeLine_eq]; omega, ⟨_, _, _, rfl⟩, (sb.trans (SameB.of s25)).upd, ts ++ vs, ?_, ?_⟩
        · rw [upd_same, List.map_append]
        · rw [flatE_snoc hp, ← List.append_assoc]
          exact paired_cat (paired_imp (fun _ _ h => evT_upd (s25 _ _ h) eF5) hts) (paired_imp (fun _ _ h => evT_upd h eF5) hvs)
    rintro σ H17 ⟨⟨z2, z3, z4, rfl⟩, sb, ts2, eF2, hts⟩
    refine ⟨sb _ _ (Ne.symm nFL) eL, ?_⟩
    rw [List.take_length] at hts
    have s23 : Same H (L2.upd H17 B.M (.dK (hsK B.mv))) := fun a o e => by
      by_cases ha : a = B.M
      · rw [ha] at e ⊢
        rw [upd_same, ← bh.md, e]
      · rw [upd_ne ha]
        exact sb a o (fun z => nFc _ _ e z.symm) (oth a o ha (s13 _ _ e))
    have eF23 : L2.upd H17 B.M (.dK (hsK B.mv)) F = some (.lst (ts2.map V.ref)) := by
      rw [upd_ne nFL]
      exact eF2
    have hts2 : Paired (EvT (L2.upd H17 B.M (.dK (hsK B.mv)))) ts2 (flatE false B.ld ++ flatE true B.mv) := paired_imp (fun _ _ h => evT_frz h (sb _ _ (Ne.symm nFL) eL)) hts
    generalize L2.upd H17 B.M (.dK (hsK B.mv)) = H23 at *
    clear eHL eL oth back xb nFL sb eF2 hts
    refine ⟨_, rfl, hT.ext s23, F, ts2.map V.ref, fun v => evKey (evOfV H23 v), rfl, .inl (SqL.of eF23), ?_, ?_, ?_, fun H6 e6 T6 => ⟨fun v hv H7 s7 Q' hQ' => ?_, fun l H7 s7 nl => ?_⟩⟩
    · intro v hv y hy
      rcases List.mem_cons.mp hy with rfl | hy
      · trivial
      rcases List.mem_cons.mp hy with rfl | hy
      · trivial
      rcases List.mem_cons.mp hy with rfl | hy
      · trivial
      rw [List.mem_singleton.mp hy]
      trivial
    · intro d hd d' hd'
      obtain ⟨v, _, rfl⟩ := List.mem_map.mp hd
      obtain ⟨v', _, rfl⟩ := List.mem_map.mp hd'
      exact alike_ev _ _
    · refine .inl fun d hd => ?_
      obtain ⟨v, _, rfl⟩ := List.mem_map.mp hd
      exact ⟨_, _, rfl⟩
    · obtain ⟨i, hi⟩ := List.getElem?_of_mem hv
      obtain ⟨t, e, rfl, _, ht⟩ := pick_at hts2 hi
      have ht7 := s7 _ _ (e6 _ _ (show H23 t = some (.tup [.str (kindS e.mv), .int e.kn, .str e.who, .int e.day, e.w]) from ht) nofun)
      have hQ' : ∀ u, H7 u = none → Q' (.ref u) (L2.upd H7 u (.tup (evKey (evOfV H23 (.ref t))))) := hQ'
      rw [evOf_is ht] at hQ'
      exact ⟨_, rfl, _, rfl, t, _, rfl, SqT.of ht7, (show ¬ (HT.sIx 5 0 none = 0 ∧ HT.sIx 5 5 (some 4) = 5) by decide), fun u nu => hQ' u nu⟩
    · obtain ⟨ts', e1, e2⟩ := ents_sorted hts2
      rw [e1]
      have eN : ExtN H H7 := (extN_same s23).trans (e6.trans (extN_same s7))
      refine q l ts' _ _ (newN_of eN nl) ?_ ?_ upd_same ?_ (entL_is bp)
      · exact eN.trans (extN_same (same_upd nl))
      · exact T6.ext (s7.trans (same_upd nl))
      · refine paired_imp (fun t e h => ?_) e2
        have h7 := s7 _ _ (e6 _ _ (show H23 t = some (.tup [.str (kindS e.mv), .int e.kn, .str e.who, .int e.day, e.w]) from h) nofun)
        exact same_upd nl _ _ h7
end
end K63
set_option Elab.async false
set_option linter.all false
set_option maxRecDepth 100000
set_option maxHeartbeats 1600000
set_option pp.maxSteps 300
namespace K63
open PySem PySem.Spec PyProof.Rows L2 LT NdefX LamX
section
variable {P : Program} {w : World} {K : PySem.W.Frag} {mg : Str → Option Value} {base : Heap}
theorem sc_book_of : FnScope ["ranks", "entries", "book", "word", "known", "who", "day", "what"] ["ranks", "entries"] (defScope s_book_of) := ⟨rfl, rfl, rfl, by decide +kernel, rfl, by decide +kernel, by decide +kernel⟩
theorem ok_book_of (D : All K P mg) (TB : TBs D base) : FnOk P w K mg base CX0 9 D.f_book_of D.d_book_of ["ranks", "entries"] (spBookOf D.C_Book D.C_History (TLs D)) := by
  refine D.L_book_of.ok sc_book_of (fun vs H Q E h => ?_) (fun A outer s H vs Q E hr h => ?_)
  · first | (obtain ⟨_, rfl, _⟩ := h; rfl) | (obtain ⟨_, _, rfl, _⟩ := h; rfl) | (obtain ⟨_, _, _, rfl, _⟩ := h; rfl) | (obtain ⟨_, _, _, _, rfl, _⟩ := h; rfl) | (obtain ⟨_, _, _, _, _, rfl, _⟩ := h; rfl) | (obtain ⟨_, _, _, _, _, _, rfl, _⟩ := h; rfl) | (obtain ⟨_, _, _, _, _, _, _, rfl, _⟩ := h; rfl) | (obtain ⟨_, _, _, _, _, _, _, _, rfl, _⟩ := h; rfl) | (obtain ⟨_, _, _, _, _, _, _, _, _, rfl, _⟩ := h; rfl) | (obtain ⟨_, _, _, _, _, _, _, _, _, _, rfl, _⟩ := h; rfl) | (obtain ⟨_, _, _, _, _, _, _, _, _, _, _, rfl, _⟩ := h; rfl) | (obtain ⟨_, _, _, _, _, _, _, _, _, _, _, _, rfl, _⟩ := h; rfl) | (obtain ⟨_, _, _, _, _, _, _, _, _, _, _, _, _, rfl, _⟩ := h; rfl) | (obtain ⟨_, _, _, _, _, _, _, _, _, _, _, _, _, _, rfl, _⟩ := h; rfl) | (obtain ⟨_, _, _, _, _, _, _, _, _, _, _, _, _, _, _, rfl, _⟩ := h; rfl)
  · have T := D.T
    have nd := sc_book_of.nd
    have hu := hr.units
    have hu1 := hu_of hr
    have hu0 := hr.units0
    obtain ⟨r, l, rk, ts, L, rfl, hr', k, el, hts, ok, hl, hT, q⟩ := h
    refine ⟨_, pss_cons (ps_set (i := 2) nd rfl (.inl rfl) (pe_make D.M_Book (ok_Book___init__ D) (hr.mono (by decide)) (by rfl) D.Z_Book.gl D.h_Book___init__.bd .nil pass0 (pa_cons (pv 0) pa_nil)))
      (pss_cons (ps_for PassesOwn.never rfl (pi_list (pe_sortedLam (T := TLs D) (x := "entry") (k := 0) (by rfl) T.sorted (pa_cons (pv 1) pa_nil) rfl rfl TB.t_book_of rfl D.mem_book_of (fun p hp e => D.uq_book_of p hp e) (show LamP (defScope s_book_of) _ _ from lamP_by (by decide +kernel)) (show ("entry" : Str) ∉ (["ranks", "entries", "book", "word", "known", "who", "day", "what"] : List Str) by decide) rfl (fun _ _ _ _ _ _ => rfl) (hr.mono (by decide)) (fun A outer s H f c' hr3 => pe_ix (r := rIxT K) ix_tup (pv 0) pe_int (fun _ _ => rfl)) (by decide +kernel))) (pg_tup rfl (pgs_cons (pg_name (i := 3) nd rfl (Or.inl rfl)) (pgs_cons (pg_name (i := 4) nd rfl (Or.inl rfl)) (pgs_cons (pg_name (i := 5) nd rfl (Or.inl rfl)) (pgs_cons (pg_name (i := 6) nd rfl (Or.inl rfl)) (pgs_cons (pg_name (i := 7) nd rfl (Or.inl rfl)) pgs_nil)))))) (pss_one (ps_if (pt_cmpR op_eq (pv 3) pe_str (nomark _)) (pss_one (ps_expr (pe_meth (pv 2) D.Z_Book.cl D.h_Book_land.me (ok_Book_land D) (hr.mono (by decide)) D.h_Book_land.bd .nil pass0 (pa_cons (pv 4) (pa_cons (pv 5) (pa_cons (pv 6) (pa_cons (pv 7) pa_nil))))))) (pss_one (ps_expr (pe_meth (pv 2) D.Z_Book.cl D.h_Book_tell.me (ok_Book_tell D) (hr.mono (by decide)) D.h_Book_tell.bd .nil pass0 (pa_cons (pv 4) (pa_cons (pv 5) (pa_cons (pv 6) (pa_cons (pv 7) pa_nil))))))))))
      (pss_one (ps_ret (pv 2)))), ?_⟩
    refine ⟨_, rfl, fun b dx nb ndb nex => ?_⟩
    have sm := same_made (C := D.C_Book) (o := .ins D.C_Book dx []) nb ndb
    refine ⟨b, dx, r, rk, rfl, upd_same, sm _ _ hr', k, fun fp H1 bk fr sb => ⟨rfl, ?_⟩⟩
    have s1 : Same H H1 := sameB_new nb sm sb
    have frN : ∀ a ∈ fp, H a = none := fun a ha => by
      rcases fr a ha with h | h
      · rw [h]
        exact nb
      · exact sm.free h
    refine ⟨_, rfl, hT.ext s1, l, ts.map V.ref, fun v => (evOfV H v).kn, rfl, .inl (SqL.of (s1 _ _ el)), fun H2 e2 T2 => ⟨fun v hv Q' hQ' => ?_, fun l2 nl => ⟨l2, rfl, ⟨_, SqL.of upd_same⟩, ?_⟩⟩⟩
    · obtain ⟨i, hi⟩ := List.getElem?_of_mem hv
      obtain ⟨t, e, rfl, _, ht⟩ := pick_at hts hi
      have ht2 := e2 _ _ (s1 _ _ (show H t = some (.tup [.str (kindS e.mv), .int e.kn, .str e.who, .int e.day, e.w]) from ht)) nofun
      have hQ' : Q' (.int (evOfV H (.ref t)).kn) H2 := hQ'
      rw [evOf_is ht] at hQ'
      exact ⟨_, rfl, t, _, 1, _, rfl, rfl, SqT.of ht2, atI_nat (j := 1) rfl, hQ'⟩
    obtain ⟨ts', e1, hts'⟩ := kn_sorted hts
    have up := kn_rising L
    have pm := List.mergeSort_perm L knLe
    have ok' : ∀ e ∈ L.mergeSort knLe, EvOK rk e := fun e he => ok e (pm.mem_iff.mp he)
    have hl' : (L.mergeSort knLe).length ≤ 60 := by rw [pm.length_eq]; exact hl
    generalize L.mergeSort knLe = L' at *
    show ∃ W : Nat → Nat → L2.St → Hp → Prop, _
    rw [show ((ts.map V.ref).mergeSort fun a b => decide ((fun v => (evOfV H v).kn) a ≤ (fun v => (evOfV H v).kn) b)) = ts'.map V.ref from e1]
    have s2 := same_upd (o := .lst (ts'.map V.ref)) nl
    have el2 := upd_same (H := H2) (a := l2) (o := .lst (ts'.map V.ref))
    have nl2 : l2 ∉ fp := fun h => by
      obtain ⟨o, ho⟩ := (bk.extN e2).ex _ h
      rw [nl] at ho
      cases ho
    generalize L2.upd H2 l2 (.lst (ts'.map V.ref)) = H3 at *
    have e13 : ExtN H1 H3 := e2.trans (extN_same s2)
    have e03 : ExtN H H3 := (extN_same s1).trans e13
    have T3 := T2.ext s2
    refine for_list (xs := ts'.map V.ref) (fun i σ H' => ∃ (x3 x4 x5 x6 x7 : Option V) (fp' : List Addr), σ = [some (.ref r), some (.ref l), some (.ref b), x3, x4, x5, x6, x7] ∧ Bk D.C_Book D.C_History H' b rk (L'.take i) fp' ∧ (∀ c ∈ fp', NewN H c) ∧ l2 ∉ fp' ∧ H' l2 = some (.lst (ts'.map V.ref)) ∧ ExtN H H' ∧ Tabs (TLs D) H')
      ⟨none, none, none, none, none, fp, rfl, bk.extN e13, fun c hc => newN_none (frN c hc), nl2, el2, e03, T3⟩ (fun i σ H' _ ⟨_, _, _, _, _, _, _, _, _, _, h, _⟩ => SqL.of h) ?_ ?_
    · rintro i v σ H4 hv ⟨x3, x4, x5, x6, x7, fp4, rfl, bk4, n4, nl4, el4, e4, T4⟩
      obtain ⟨t, e, rfl, he, ht⟩ := pick_at hts' hv
      have ht4 := e4 _ _ (show H t = some (.tup [.str (kindS e.mv), .int e.kn, .str e.who, .int e.day, e.w]) from ht) nofun
      have hi : i < L'.length := (List.getElem?_eq_some_iff.mp he).1
      have oke := ok' e (List.mem_of_getElem? he)
      have kle : ∀ x ∈ L'.take i, x.kn ≤ e.kn := fun x hx => by
        obtain ⟨j, hj⟩ := List.getElem?_of_mem hx
        rw [List.getElem?_take] at hj
        split at hj
        · have h1 := List.getElem?_eq_some_iff.mp hj
          have h2 := List.getElem?_eq_some_iff.mp he
          have := List.pairwise_iff_getElem.mp up j i h1.1 h2.1 (by omega)
          rw [h1.2, h2.2] at this
          exact this
        · cases hj
      have tl : (L'.take i).length < 60 := by
        rw [List.length_take]
        omega
      have after : ∀ (fp' : List Addr) (H' : Hp), Bk D.C_Book D.C_History H' b rk (L'.take i ++ [e]) fp' → (∀ c ∈ fp', c ∈ fp4 ∨ H4 c = none) → SameL fp4 H4 H' →
          Bk D.C_Book D.C_History H' b rk (L'.take (i + 1)) fp' ∧ (∀ c ∈ fp', NewN H c) ∧ l2 ∉ fp' ∧ H' l2 = some (.lst (ts'.map V.ref)) ∧ ExtN H H' ∧ Tabs (TLs D) H' := fun fp' H' W' fr s => by
        refine ⟨by rw [take_snoc he]; exact W', fun c hc => ?_, fun h => ?_, s _ _ nl4 el4, extN_L e4 n4 s, tabs_L T4 bk4.pl s⟩
        · rcases fr c hc with h | h
          · exact n4 c h
          · exact newN_of e4 h
        · rcases fr _ h with h | h
          · exact nl4 h
          · rw [el4] at h
            cases h
      obtain ⟨dxb, Rb, Mb, Lb, vb, ix⟩ := bk4.ix
      refine ⟨t, _, rfl, SqT.of ht4, rfl, _, _, rfl, _, _, rfl, _, _, rfl, _, _, rfl, _, _, rfl, rfl, ?_⟩
      refine ⟨_, rfl, rfl, _, rfl, ?_⟩
      rw [kind_land]
      obtain ⟨mv, kn, z, d, w⟩ := e
      cases mv with
      | true =>
        refine iteF ⟨_, rfl, b, dxb, _, rfl, ix, rfl, _, rfl, _, rfl, _, rfl, _, rfl, b, rk, _, fp4, kn, d, z, w, rfl, bk4, oke, kle, tl, fun fp' H' W' fr s => ?_⟩
        exact ⟨_, _, _, _, _, fp', rfl, after fp' H' W' fr s⟩
      | false =>
        refine iteT ⟨_, rfl, b, dxb, _, rfl, ix, rfl, _, rfl, _, rfl, _, rfl, _, rfl, b, rk, _, fp4, kn, d, z, w, rfl, bk4, oke, kle, tl, fun fp' H' W' fr s => ?_⟩
        exact ⟨_, _, _, _, _, fp', rfl, after fp' H' W' fr s⟩
    · rintro σ H4 ⟨x3, x4, x5, x6, x7, fp4, rfl, bk4, n4, nl4, el4, e4, T4⟩
      have tl : (ts'.map V.ref).length = L'.length := by rw [List.length_map]; exact Paired.length hts'
      rw [tl, List.take_length] at bk4
      exact ⟨_, rfl, q b fp4 H4 bk4 n4 e4 T4⟩
theorem sc_Book___len__ : FnScope ["self"] ["self"] (defScope s_Book___len__) := ⟨rfl, rfl, rfl, by decide +kernel, rfl, by decide +kernel, by decide +kernel⟩
theorem ok_Book___len__ (D : All K P mg) (TB : TBs D base) : FnOk P w K mg base CX0 10 D.f_Book___len__ D.d_Book___len__ ["self"] (spLen D.C_Book D.C_History (TLs D)) := by
  refine D.h_Book___len__.fn.ok sc_Book___len__ (fun vs H Q E h => ?_) (fun cdv A outer s H vs Q E hr h => ?_)
  · first | (obtain ⟨_, rfl, _⟩ := h; rfl) | (obtain ⟨_, _, rfl, _⟩ := h; rfl) | (obtain ⟨_, _, _, rfl, _⟩ := h; rfl) | (obtain ⟨_, _, _, _, rfl, _⟩ := h; rfl) | (obtain ⟨_, _, _, _, _, rfl, _⟩ := h; rfl) | (obtain ⟨_, _, _, _, _, _, rfl, _⟩ := h; rfl) | (obtain ⟨_, _, _, _, _, _, _, rfl, _⟩ := h; rfl) | (obtain ⟨_, _, _, _, _, _, _, _, rfl, _⟩ := h; rfl) | (obtain ⟨_, _, _, _, _, _, _, _, _, rfl, _⟩ := h; rfl) | (obtain ⟨_, _, _, _, _, _, _, _, _, _, rfl, _⟩ := h; rfl) | (obtain ⟨_, _, _, _, _, _, _, _, _, _, _, rfl, _⟩ := h; rfl) | (obtain ⟨_, _, _, _, _, _, _, _, _, _, _, _, rfl, _⟩ := h; rfl) | (obtain ⟨_, _, _, _, _, _, _, _, _, _, _, _, _, rfl, _⟩ := h; rfl) | (obtain ⟨_, _, _, _, _, _, _, _, _, _, _, _, _, _, rfl, _⟩ := h; rfl) | (obtain ⟨_, _, _, _, _, _, _, _, _, _, _, _, _, _, _, rfl, _⟩ := h; rfl)
  · have T := D.T
    have nd := sc_Book___len__.nd
    have hu := hr.units
    have hu1 := hu_of hr
    have hu0 := hr.units0
    obtain ⟨b, rk, es, fp, rfl, W, hl, hT, q⟩ := h
    refine ⟨_, pss_one (ps_ret (pe_callB call_len_seq (by rfl) T.len PySem.boot_len (pa_cons (pe_meth0 (pv 0) D.Z_Book.cl D.me_Book_entries (ok_Book_entries D TB) (hr.mono (by decide)) D.lb_Book_entries .nil pass0) pa_nil))), ?_⟩
    obtain ⟨dxb, Rb, Mb, Lb, vb, ix⟩ := W.ix
    refine ⟨_, rfl, b, dxb, _, rfl, ix, rfl, b, rk, es, fp, rfl, W, hl, hT, fun l ts L H' nl e T' el hts hL => ?_⟩
    have tl : (ts.map V.ref).length = L.length := by rw [List.length_map]; exact Paired.length hts
    have := q L H' hL e T'
    rw [← tl] at this
    exact ⟨_, _, rfl, .inl (SqL.of el), this⟩
theorem sc_Book_last_known : FnScope ["self"] ["self"] (defScope s_Book_last_known) := ⟨rfl, rfl, rfl, by decide +kernel, rfl, by decide +kernel, by decide +kernel⟩
theorem ok_Book_last_known (D : All K P mg) : FnOk P w K mg base CX0 1 D.f_Book_last_known D.d_Book_last_known ["self"] (spLastKn D.C_Book D.C_History) := by
  refine D.h_Book_last_known.fn.ok sc_Book_last_known (fun vs H Q E h => ?_) (fun cdv A outer s H vs Q E hr h => ?_)
  · first | (obtain ⟨_, rfl, _⟩ := h; rfl) | (obtain ⟨_, _, rfl, _⟩ := h; rfl) | (obtain ⟨_, _, _, rfl, _⟩ := h; rfl) | (obtain ⟨_, _, _, _, rfl, _⟩ := h; rfl) | (obtain ⟨_, _, _, _, _, rfl, _⟩ := h; rfl) | (obtain ⟨_, _, _, _, _, _, rfl, _⟩ := h; rfl) | (obtain ⟨_, _, _, _, _, _, _, rfl, _⟩ := h; rfl) | (obtain ⟨_, _, _, _, _, _, _, _, rfl, _⟩ := h; rfl) | (obtain ⟨_, _, _, _, _, _, _, _, _, rfl, _⟩ := h; rfl) | (obtain ⟨_, _, _, _, _, _, _, _, _, _, rfl, _⟩ := h; rfl) | (obtain ⟨_, _, _, _, _, _, _, _, _, _, _, rfl, _⟩ := h; rfl) | (obtain ⟨_, _, _, _, _, _, _, _, _, _, _, _, rfl, _⟩ := h; rfl) | (obtain ⟨_, _, _, _, _, _, _, _, _, _, _, _, _, rfl, _⟩ := h; rfl) | (obtain ⟨_, _, _, _, _, _, _, _, _, _, _, _, _, _, rfl, _⟩ := h; rfl) | (obtain ⟨_, _, _, _, _, _, _, _, _, _, _, _, _, _, _, rfl, _⟩ := h; rfl)
  · have T := D.T
    have nd := sc_Book_last_known.nd
    have hu := hr.units
    have hu1 := hu_of hr
    have hu0 := hr.units0
    obtain ⟨_, rk, es, fp, rfl, ⟨B, rfl, rfl, rfl, rfl, bh, bp, bl⟩, q⟩ := h
    refine ⟨_, pss_one (ps_ret (pe_fld (pv 0) rfl)), ?_⟩
    exact ⟨_, rfl, B.b, _, B.dx, _, _, rfl, bh.ix, D.Z_Book.cl, D.n_Book_latest_known, rfl, q⟩
theorem sc_Book_twin : FnScope ["self"] ["self"] (defScope s_Book_twin) := ⟨rfl, rfl, rfl, by decide +kernel, rfl, by decide +kernel, by decide +kernel⟩
theorem ok_Book_twin (D : All K P mg) (TB : TBs D base) : FnOk P w K mg base CX0 10 D.f_Book_twin D.d_Book_twin ["self"] (spTwin D.C_Book D.C_History (TLs D)) := by
  refine D.h_Book_twin.fn.ok sc_Book_twin (fun vs H Q E h => ?_) (fun cdv A outer s H vs Q E hr h => ?_)
  · first | (obtain ⟨_, rfl, _⟩ := h; rfl) | (obtain ⟨_, _, rfl, _⟩ := h; rfl) | (obtain ⟨_, _, _, rfl, _⟩ := h; rfl) | (obtain ⟨_, _, _, _, rfl, _⟩ := h; rfl) | (obtain ⟨_, _, _, _, _, rfl, _⟩ := h; rfl) | (obtain ⟨_, _, _, _, _, _, rfl, _⟩ := h; rfl) | (obtain ⟨_, _, _, _, _, _, _, rfl, _⟩ := h; rfl) | (obtain ⟨_, _, _, _, _, _, _, _, rfl, _⟩ := h; rfl) | (obtain ⟨_, _, _, _, _, _, _, _, _, rfl, _⟩ := h; rfl) | (obtain ⟨_, _, _, _, _, _, _, _, _, _, rfl, _⟩ := h; rfl) | (obtain ⟨_, _, _, _, _, _, _, _, _, _, _, rfl, _⟩ := h; rfl) | (obtain ⟨_, _, _, _, _, _, _, _, _, _, _, _, rfl, _⟩ := h; rfl) | (obtain ⟨_, _, _, _, _, _, _, _, _, _, _, _, _, rfl, _⟩ := h; rfl) | (obtain ⟨_, _, _, _, _, _, _, _, _, _, _, _, _, _, rfl, _⟩ := h; rfl) | (obtain ⟨_, _, _, _, _, _, _, _, _, _, _, _, _, _, _, rfl, _⟩ := h; rfl)
  · have T := D.T
    have nd := sc_Book_twin.nd
    have hu := hr.units
    have hu1 := hu_of hr
    have hu0 := hr.units0
    obtain ⟨_, rk, es, fp, rfl, W, hl, hT, q⟩ := h
    refine ⟨_, pss_one (ps_ret (pe_call (ok_book_of D TB) (hr.mono (by decide)) (by rfl) D.gl_book_of D.L_book_of.kp D.lb_book_of .nil pass0 (pa_cons (pe_fld (pv 0) rfl) (pa_cons (pe_meth0 (pv 0) D.Z_Book.cl D.me_Book_entries (ok_Book_entries D TB) (hr.mono (by decide)) D.lb_Book_entries .nil pass0) pa_nil)))), ?_⟩
    have W0 := W
    obtain ⟨B, rfl, rfl, rfl, rfl, bh, bp, bl⟩ := W0
    refine ⟨_, rfl, B.b, _, B.dx, _, _, rfl, bh.ix, D.Z_Book.cl, D.n_Book_rank_of, rfl, ?_⟩
    refine ⟨_, rfl, B.b, B.dx, _, rfl, bh.ix, rfl, B.b, B.rk, B.es, B.fp, rfl, W, hl, hT, fun l ts L H1 nl e T1 el hts hL => ?_⟩
    refine ⟨B.R, l, B.rk, ts, L, rfl, e _ _ bh.rd nofun, bp.rk, el, hts, fun x hx => bp.ev x (hL.sub x hx), Nat.le_trans hL.len hl, T1, fun b2 fp2 H2 bk2 n2 e2 T2 => ?_⟩
    exact q L b2 fp2 H2 hL bk2 (fun c hc => (n2 c hc).back e) (e.trans e2) T2
end
end K63
set_option Elab.async false
set_option linter.all false
set_option maxRecDepth 100000
set_option maxHeartbeats 1600000
/-! Own layer: sorted of a list of tuples of whole numbers, texts, None. -/
namespace LT
open PySem PySem.Spec PyProof.Rows L2
/-! ### a walk over the items of a dict that has just been made -/
end LT
set_option Elab.async false
set_option linter.all false
set_option maxRecDepth 100000
set_option maxHeartbeats 1600000
/-! Own layer: sorted of a dict whose keys are tuples. -/
namespace LT
open PySem PySem.Spec PyProof.Rows L2
theorem flt_reads {h : Heap} {v : V} {u : Value} (f : Flt v) (r : RelV v u) : Reads h u (fltD v) [] := by
  cases v with
  | int i =>
    obtain ⟨t, rfl⟩ := r
    exact Reads.int i t
  | str z =>
    obtain ⟨t, rfl⟩ := r
    exact Reads.str z t
  | non =>
    cases r
    exact Reads.none
  | _ => exact f.elim
theorem flt_readsAll {h : Heap} {ys : List V} {us : List Value} (r : Vals ys us) : (∀ y ∈ ys, Flt y) → ReadsAll h us (ys.map fltD) [] := by
  induction r with
  | nil => exact fun _ => ReadsAll.nil
  | cons a _ ih => exact fun hf => ReadsAll.cons (as := []) (bs := []) (flt_reads (hf _ List.mem_cons_self) a) (ih fun y hy => hf y (List.mem_cons_of_mem _ hy))
theorem kV_flt (k : Key) : Flt (kV k) := by
  cases k <;> exact trivial
section
variable {X : Cx}
def rSortedTD : List V → Hp → VK → Prop := fun vs H Q => ∃ (d : Addr) (kvs : List (List Key × V)) (key : V → List V), vs = [V.ref d] ∧ Rd H d (.dT kvs) ∧ (∀ (b : Addr) (k : List Key), H b = some (.tup (k.map kV)) → (∃ p ∈ kvs, p.1 = k) → key (.ref b) = k.map kV) ∧
  PySem.W.AllAlike (kvs.map fun p => keyD (p.1.map kV)) ∧ PySem.W.Sortable (kvs.map fun p => keyD (p.1.map kV)) ∧
  ∀ p bs, H p = none → IsKeys H kvs bs → Q (.ref p) (upd H p (.lst ((bs.map V.ref).mergeSort (PySem.W.dataLe false fun v => keyD (key v)))))
theorem cr_sortedTD (hcalm : X.calm = true) (hu : X.A.units + 64 < cLine) : CallR X (.builtin "sorted") rSortedTD := by
  intro pins s σ H xs us Q I r h
  obtain ⟨d, kvs, key, rfl, hd, hkey, hal, hso, q⟩ := h
  obtain ⟨u, rfl, rx⟩ := vals1 r
  cases rx
  obtain ⟨z, hs, ks, pr, o, es, ep, ho, hx, hdt, he, hn⟩ := (show ObjOk X.prog X.w H s.heap d (.dT kvs) from hd.ok I.hok)
  have l1 : es.size = ks.length := size_of_entries he
  have l2 : kvs.length = ks.length := Paired.length pr
  refine Calls.call_function_entry PyProof.Rows.kind_sorted PyProof.Rows.plain_sorted PyProof.Rows.entry_sorted (PyProof.Rows.args_sorted1 _) ?_
  unfold Builtin.«sorted»
  refine wpAny_bind (m := checkCount "sorted" 1 1 _) (wpAny_pure ?_)
  refine wpAny_bind (PySem.W.kdu_collect (A := X.A.in1) (kdl_raw hs hx hdt) (I.ok.hd hcalm) ho (by omega) fun h' tk acc hk it => ?_)
  have ea : acc.toList = ks.map fun x => Value.ref x.2.1 := by
    have hl : acc.toList.length = ks.length := by rw [Array.length_toList, it.1]; exact l1
    apply List.ext_getElem?
    intro j
    rw [List.getElem?_map]
    cases hj : acc.toList[j]? with
    | none =>
      have h1 := List.getElem?_eq_none_iff.mp hj
      rw [List.getElem?_eq_none (by omega)]
      all_goals rfl
    | some v =>
      obtain ⟨en, hen, hv⟩ := it.2 j v (by rw [← Array.getElem?_toList]; exact hj)
      have qe := entry_at he j
      rw [hen] at qe
      cases hb : ks[j]? with
      | none =>
        rw [hb] at qe
        exact nomatch (show some en = none from qe)
      | some b =>
        rw [hb] at qe
        have e2 : en = entryOfKey (tupleKind (mixKind X.prog X.w)) b := Option.some.inj qe
        rw [hv, e2]
        all_goals rfl
  have hkeys := isKeys_of pr
  obtain ⟨bs, ebs⟩ : ∃ bs : List Addr, bs = ks.map fun x => x.2.1 := ⟨_, rfl⟩
  rw [← ebs] at hkeys
  have eb : acc.toList = bs.map Value.ref := by rw [ea, ebs, List.map_map]; all_goals rfl
  have bl : bs.length = kvs.length := by rw [ebs, List.length_map]; omega
  have I1 : Inv X pins σ H { s with heap := h', toks := tk } := I.kept hk
  have hR : PySem.W.EachIs (fun (u : Value) (v : V) => RelV v u) acc.toList (bs.map V.ref) := by
    rw [eb]
    clear eb ebs hkeys bl
    induction bs with
    | nil => exact .nil
    | cons b bs ih => exact .cons rfl ih
  have eK : (bs.map V.ref).map (fun v => keyD (key v)) = kvs.map fun p => keyD (p.1.map kV) := by
    have h2 : ∀ (ws : List (List Key × V)) (cs : List Addr), (∀ p ∈ ws, p ∈ kvs) → IsKeys H ws cs → (cs.map V.ref).map (fun v => keyD (key v)) = ws.map fun p => keyD (p.1.map kV) := by
      intro ws cs hm h
      unfold IsKeys at h
      induction h with
      | nil => rfl
      | @cons a b _ _ hab _ ih =>
        rw [List.map_cons, List.map_cons, List.map_cons, ih fun p hp => hm p (List.mem_cons_of_mem _ hp), hkey _ _ hab ⟨a, hm a List.mem_cons_self, rfl⟩]
    exact h2 kvs bs (fun p hp => hp) hkeys
  refine wpAny_bind (wpAny_newList ?_ (by rw [Array.length_toList, it.1, l1]; omega))
  have hoL : (h'.push (seqObj "list" acc.toList.toArray 0)).get? h'.objs.size = some (seqObj "list" acc.toList.toArray 0) := Heap.get?_push_size _ rfl
  have hE : PySem.W.EachIs (fun (u : Value) (v : V) => ∃ as, Reads (h'.push (seqObj "list" acc.toList.toArray 0)) u (keyD (key v)) as ∧ h'.objs.size ∉ as) acc.toList (bs.map V.ref) := by
    rw [eb]
    have h2 : ∀ (ws : List (List Key × V)) (cs : List Addr), (∀ p ∈ ws, p ∈ kvs) → IsKeys H ws cs → PySem.W.EachIs (fun (u : Value) (v : V) => ∃ as, Reads (h'.push (seqObj "list" (bs.map Value.ref).toArray 0)) u (keyD (key v)) as ∧ h'.objs.size ∉ as) (cs.map Value.ref) (cs.map V.ref) := by
      intro ws cs hm h
      unfold IsKeys at h
      induction h with
      | nil => exact .nil
      | @cons a b _ _ hab _ ih =>
        refine .cons ⟨[], ?_, nofun⟩ (ih fun p hp => hm p (List.mem_cons_of_mem _ hp))
        rw [hkey _ _ hab ⟨a, hm a List.mem_cons_self, rfl⟩]
        obtain ⟨z2, its, rv, o2, ho2, hcl, n2, hd2⟩ := (show ObjOk X.prog X.w H h' b (.tup (a.1.map kV)) from I1.hok b _ hab)
        refine Reads.tuple (Heap.get?_push_of_some _ ho2) hcl hd2 ?_
        exact flt_readsAll rv fun y hy => by
          obtain ⟨k, _, rfl⟩ := List.mem_map.mp hy
          exact kV_flt k
    exact h2 kvs bs (fun p hp => hp) hkeys
  show wpAny _ _ _ _ _ { s with heap := h'.push (seqObj "list" acc.toList.toArray 0), toks := tk }
  refine wpAny_bind (wpAny_holding (PySem.W.list_sort_data (s := { s with heap := h'.push (seqObj "list" acc.toList.toArray 0), toks := tk }) hoL hR hE (by rw [eK]; exact hal) (by rw [eK]; exact hso) (by rw [List.length_map]; omega) (fun b hb => ?_) fun out ho eo => ?_))
  · have := keyD_depth (key b)
    show X.A.units + 1 + 1 + _ < cLine
    omega
  · obtain ⟨e', he'⟩ := PyProof.Rows.sortedHeap_at (vs := acc.toList) (out := out.toArray) hoL
    have hV : Vals ((bs.map V.ref).mergeSort (PySem.W.dataLe false fun v => keyD (key v))) out := by
      have h2 : ∀ (us : List Value) (xs : List V), PySem.W.EachIs (fun (u : Value) (v : V) => RelV v u) us xs → Vals xs us := by
        intro us xs h
        induction h with
        | nil => exact .nil
        | cons a _ ih => exact .cons a ih
      exact h2 _ _ eo
    refine wpAny_pure ⟨_, rfl, .ref h'.objs.size, upd H h'.objs.size (.lst _), I1.laid (t' := tk) (fun b u e => ?_) (Nat.le_refl _)
      (show ObjOk X.prog X.w _ _ _ (.lst _) from ⟨by rw [List.length_mergeSort, List.length_map]; omega, out, e', hV, he'⟩), rfl, q _ bs (I1.hok.fresh (Nat.le_refl _)) hkeys⟩
    have hb : b < h'.objs.size := Heap.lt_size e
    rw [PyProof.Rows.sortedHeap_old (Nat.ne_of_lt hb) (by rw [size_push']; exact Nat.lt_succ_of_lt hb)]
    exact Heap.get?_push_of_some _ e
end
end LT
set_option Elab.async false
set_option linter.all false
set_option maxRecDepth 100000
set_option maxHeartbeats 1600000
/-! Own layer: entries as a law makes them: a dict by kind, known, name, day; sorted. -/
namespace LT
open PySem PySem.Spec PyProof.Rows L2 NdefX
abbrev EvK := Bool × Int × Str × Int
def evK (e : Evt) : EvK := (e.mv, e.kn, e.who, e.day)
def kT (k : EvK) : List Key := [Sum.inr (kindS k.1), Sum.inl k.2.1, Sum.inr k.2.2.1, Sum.inl k.2.2.2]
theorem kT_inj {a b : EvK} (h : kT a = kT b) : a = b := by
  obtain ⟨a1, a2, a3, a4⟩ := a
  obtain ⟨b1, b2, b3, b4⟩ := b
  unfold kT at h
  injection h with h1 h
  injection h with h2 h
  injection h with h3 h
  injection h with h4 h
  have h1 := kindS_inj (Sum.inr.inj h1)
  have h2 := Sum.inl.inj h2
  have h3 := Sum.inr.inj h3
  have h4 := Sum.inl.inj h4
  simp only at h1 h2 h3 h4
  rw [h1, h2, h3, h4]
def enT (t : List (EvK × V)) : List (List Key × V) := t.map fun p => (kT p.1, p.2)
theorem val_enT (k : EvK) : ∀ t : List (EvK × V), valV (enT t) (kT k) = getA t k
  | [] => rfl
  | p :: r => by
    show valV ((kT p.1, p.2) :: enT r) (kT k) = _
    by_cases e : p.1 = k
    · rw [valV_pos (by rw [e]), getA_pos e]
    · rw [valV_neg (fun z => e (kT_inj z)), getA_neg e, val_enT k r]
theorem put_enT (t : List (EvK × V)) (k : EvK) (v : V) : putK (enT t) (kT k) v = enT (putA t k v) := by
  have e : ((enT t).any fun kv => decide (kv.1 = kT k)) = (t.any fun p => decide (p.1 = k)) := by
    rw [valV_any, val_enT, getA_any]
  unfold putK putA
  rw [e]
  split
  · unfold enT
    rw [List.map_map, List.map_map]
    refine List.map_congr_left fun p _ => ?_
    show (if kT p.1 = kT k then (kT p.1, v) else (kT p.1, p.2)) = (kT (if p.1 = k then (p.1, v) else p).1, (if p.1 = k then (p.1, v) else p).2)
    by_cases h : p.1 = k
    · rw [if_pos (by rw [h]), if_pos h]
    · rw [if_neg (fun z => h (kT_inj z)), if_neg h]
  · unfold enT
    rw [List.map_append]
    rfl
def tellD (es : List Evt) : List (EvK × V) := es.foldl (fun t e => putA t (evK e) e.w) []
theorem tellD_snoc (es : List Evt) (e : Evt) : tellD (es ++ [e]) = putA (tellD es) (evK e) e.w := by
  unfold tellD
  rw [List.foldl_append]
  rfl
theorem tellD_nd : ∀ es : List Evt, ((tellD es).map (·.1)).Nodup ∧ (tellD es).length ≤ es.length := by
  refine snoc_ind ⟨List.nodup_nil, Nat.le_refl _⟩ fun es e ih => ?_
  rw [tellD_snoc]
  refine ⟨nodup_put ih.1, ?_⟩
  have h2 : (putA (tellD es) (evK e) e.w).length ≤ (tellD es).length + 1 := by
    unfold putA
    split
    · rw [List.length_map]
      omega
    · rw [List.length_append]
      exact Nat.le_refl _
  have := ih.2
  rw [List.length_append]
  show _ ≤ es.length + 1
  omega
theorem entA_snoc (es : List Evt) (e : Evt) (mv : Bool) (who : Str) (d kn : Int) : entA (es ++ [e]) mv who d kn = if (mv, kn, who, d) = evK e then some e.w else entA es mv who d kn := by
  unfold entA
  rw [histE_snoc]
  unfold stepH
  by_cases ho : ofE mv who e = true
  · obtain ⟨h1, h2⟩ := ofE_iff.mp ho
    rw [if_pos ho, getA_note]
    by_cases hd : d = e.day
    · rw [if_pos hd]
      show getA (putA ((getA (histE es mv who) e.day).getD []) e.kn e.w) kn = _
      rw [getA_put]
      by_cases hk : kn = e.kn
      · rw [if_pos hk, if_pos (by unfold evK; rw [h1, h2, hd, hk])]
      · rw [if_neg hk, if_neg (fun z => hk (congrArg (fun p : EvK => p.2.1) z)), hd]
    · rw [if_neg hd, if_neg (fun z => hd (congrArg (fun p : EvK => p.2.2.2) z))]
  · rw [if_neg ho, if_neg (fun z => ho (ofE_iff.mpr ⟨(congrArg (fun p : EvK => p.1) z).symm, (congrArg (fun p : EvK => p.2.2.1) z).symm⟩))]
theorem tellD_val : ∀ es : List Evt, ∀ (mv : Bool) (kn : Int) (who : Str) (d : Int), getA (tellD es) (mv, kn, who, d) = entA es mv who d kn := by
  refine snoc_ind (fun _ _ _ _ => rfl) fun es e ih mv kn who d => ?_
  rw [tellD_snoc, getA_put, entA_snoc, ih]
def evOfK (p : EvK × V) : Evt := ⟨p.1.1, p.1.2.1, p.1.2.2.1, p.1.2.2.2, p.2⟩
def entW (es : List Evt) : List Evt := ((tellD es).map evOfK).mergeSort evLe
theorem entW_is (es : List Evt) : IsEnts es (entW es) := by
  have nd := (tellD_nd es).1
  refine ents_of ?_ fun e => ?_
  · rw [List.pairwise_map]
    have : (tellD es).Pairwise fun a b => a.1 ≠ b.1 := List.pairwise_map.mp nd
    refine this.imp fun {a b} h s => h ?_
    obtain ⟨h1, h2, h3, h4⟩ := s
    obtain ⟨⟨a1, a2, a3, a4⟩, a5⟩ := a
    obtain ⟨⟨b1, b2, b3, b4⟩, b5⟩ := b
    simp only [evOfK] at h1 h2 h3 h4
    simp only [h1, h2, h3, h4]
  · rw [← tellD_val]
    constructor
    · intro h
      obtain ⟨p, hp, rfl⟩ := List.mem_map.mp h
      exact getA_of_mem nd hp
    · intro h
      exact List.mem_map.mpr ⟨_, getA_mem h, rfl⟩
theorem entW_len (es : List Evt) : (entW es).length ≤ es.length := by
  unfold entW
  rw [List.length_mergeSort, List.length_map]
  exact (tellD_nd es).2
/-! ### the keys in the heap -/
def fKO (es : List Evt) : Option HO → Evt
  | some (.tup [.str k, .int kn, .str who, .int d]) => ⟨decide (k = kindS true), kn, who, d, (entA es (decide (k = kindS true)) who d kn).getD .non⟩
  | _ => ⟨true, 0, Str.empty, 0, .non⟩
def fK (es : List Evt) (H : Hp) : V → Evt
  | .ref b => fKO es (H b)
  | _ => fKO es none
def KyT (H : Hp) (b : Addr) (e : Evt) : Prop := H b = some (.tup (evKey e))
theorem fK_is {es : List Evt} {H : Hp} {b : Addr} {k : EvK} (h : H b = some (.tup ((kT k).map kV))) : fK es H (.ref b) = evOfK (k, (entA es k.1 k.2.2.1 k.2.2.2 k.2.1).getD .non) := by
  obtain ⟨mv, kn, who, d⟩ := k
  have h : H b = some (.tup [.str (kindS mv), .int kn, .str who, .int d]) := h
  show fKO es (H b) = _
  rw [h]
  have : decide (kindS mv = kindS true) = mv := by cases mv <;> decide +kernel
  show (⟨decide (kindS mv = kindS true), kn, who, d, (entA es (decide (kindS mv = kindS true)) who d kn).getD .non⟩ : Evt) = _
  rw [this]
  rfl
theorem keys_sorted {es : List Evt} {H : Hp} {bs : List Addr} (h : IsKeys H (enT (tellD es)) bs) : ∃ bs' : List Addr, (bs.map V.ref).mergeSort (PySem.W.dataLe false fun v => keyD (evKey (fK es H v))) = bs'.map V.ref ∧ Paired (KyT H) bs' (entW es) := by
  have nd := (tellD_nd es).1
  have eL : (bs.map V.ref).map (fK es H) = (tellD es).map evOfK := by
    have h2 : ∀ (t : List (EvK × V)) (cs : List Addr), (∀ p ∈ t, p ∈ tellD es) → IsKeys H (enT t) cs → (cs.map V.ref).map (fK es H) = t.map evOfK := by
      intro t
      induction t with
      | nil =>
        intro cs _ h
        unfold IsKeys enT at h
        cases h
        rfl
      | cons p t ih =>
        intro cs hm h
        unfold IsKeys enT at h
        rw [List.map_cons] at h
        cases h with
        | cons a r =>
          rw [List.map_cons, List.map_cons, List.map_cons, ih _ (fun q hq => hm q (List.mem_cons_of_mem _ hq)) r, fK_is a]
          have := getA_of_mem nd (show (p.1, p.2) ∈ tellD es from hm p List.mem_cons_self)
          rw [← tellD_val]
          show evOfK (p.1, (getA (tellD es) p.1).getD .non) :: _ = _
          rw [this]
          rfl
    exact h2 _ bs (fun p hp => hp) h
  have all : ∀ v ∈ bs.map V.ref, ∃ t, v = V.ref t ∧ KyT H t (fK es H v) := fun v hv => by
    obtain ⟨b, hb, rfl⟩ := List.mem_map.mp hv
    obtain ⟨i, hi⟩ := List.getElem?_of_mem hb
    have hl := Paired.length h
    have il := (List.getElem?_eq_some_iff.mp hi).1
    obtain ⟨p, hp⟩ : ∃ p, (tellD es)[i]? = some p := ⟨_, List.getElem?_eq_getElem (by unfold enT at hl; rw [List.length_map] at hl; omega)⟩
    have h1 : (enT (tellD es))[i]? = some (kT p.1, p.2) := by
      unfold enT
      rw [List.getElem?_map, hp]
      rfl
    obtain ⟨b', hb', r⟩ := L2.paired_get h h1
    rw [hi] at hb'
    cases hb'
    refine ⟨b, rfl, ?_⟩
    rw [fK_is r]
    exact r
  have em := List.map_mergeSort (r := PySem.W.dataLe false fun v => keyD (evKey (fK es H v))) (s := evLe) (f := fK es H) (l := bs.map V.ref) fun a _ b _ => rfl
  rw [eL] at em
  have p := List.mergeSort_perm (bs.map V.ref) (PySem.W.dataLe false fun v => keyD (evKey (fK es H v)))
  unfold entW
  rw [← em]
  generalize (bs.map V.ref).mergeSort (PySem.W.dataLe false fun v => keyD (evKey (fK es H v))) = M at *
  have all2 : ∀ v ∈ M, ∃ t, v = V.ref t ∧ KyT H t (fK es H v) := fun v hv => all v (p.mem_iff.mp hv)
  clear em p
  induction M with
  | nil => exact ⟨[], rfl, .nil⟩
  | cons v M ih =>
    obtain ⟨t, rfl, r⟩ := all2 v List.mem_cons_self
    obtain ⟨ts', e1, e2⟩ := ih fun w hw => all2 w (List.mem_cons_of_mem _ hw)
    exact ⟨t :: ts', by rw [e1]; rfl, .cons r e2⟩
theorem keys_alike (es : List Evt) : PySem.W.AllAlike ((enT (tellD es)).map fun p => keyD (p.1.map kV)) ∧ PySem.W.Sortable ((enT (tellD es)).map fun p => keyD (p.1.map kV)) := by
  have e : ((enT (tellD es)).map fun p => keyD (p.1.map kV)) = (tellD es).map fun p => keyD (evKey (evOfK p)) := by
    unfold enT
    rw [List.map_map]
    rfl
  rw [e]
  exact ⟨PySem.W.AllAlike.of fun _ _ => alike_ev _ _, PySem.W.Sortable.tuples fun _ => ⟨_, _, rfl⟩⟩
/-- entries out of a list of things told -/
def spEntsL : Sp := fun vs H Q _ => ∃ (E : Addr) (es : List Evt), vs = [.ref E] ∧ EvsAt H H E es ∧ es.length ≤ 100 ∧ ∀ (l : Addr) (ts : List Addr) (H' : Hp), H l = none → H' l = some (.lst (ts.map V.ref)) → Paired (EvT H') ts (entW es) → Same H H' → Q (.ref l) H'
end LT
set_option Elab.async false
set_option linter.all false
set_option maxRecDepth 100000
set_option maxHeartbeats 1600000
/-! Own layer: == of two dicts, alike or not; == of entries, alike or not. -/
namespace LT
open PySem PySem.Spec PyProof.Rows L2 NdefX
noncomputable instance evDec : DecidableEq Evt := fun _ _ => Classical.propDecidable _
theorem valV_mem2 {k : Key} {v : V} : ∀ {ls : List (Key × V)}, valV ls k = some v → ∃ p ∈ ls, p.2 = v
  | [], h => by cases h
  | p :: r, h => by
    by_cases e : p.1 = k
    · rw [valV_pos e] at h
      exact ⟨p, List.mem_cons_self, Option.some.inj h⟩
    · rw [valV_neg e] at h
      obtain ⟨q, hq, e2⟩ := valV_mem2 h
      exact ⟨q, List.mem_cons_of_mem _ hq, e2⟩
def hitB (ls : List (Key × V)) (p : Key × V) : Bool := match valV ls p.1 with
  | none => false
  | some w => eqV p.2 w
def dkEq (ks ls : List (Key × V)) : Bool := ks.length == ls.length && ks.all (hitB ls)
theorem hits_gen {A : Around} {s : Shared} {ls : List (Key × V)} {vb : List (Key × Value)} (rb : KV ls vb) {ks : List (Key × V)} {va : List (Key × Value)} (ra : KV ks va) :
    (∀ p ∈ ks, flatV p.2 = true) → (∀ p ∈ ls, flatV p.2 = true) → PySem.W.KeqHits A s vb va (ks.all (hitB ls)) := by
  unfold KV at ra
  induction ra with
  | nil => intro _ _; exact .nil
  | @cons p q ps qs h t ih =>
    intro hp hl
    obtain ⟨h1, h2⟩ := h
    obtain ⟨k, v⟩ := q
    have h1' : p.1 = k := h1
    have rr : RelO (valV ls p.1) (valueAt vb p.1) := rb.val p.1
    rw [List.all_cons]
    unfold hitB
    cases e : valV ls p.1 with
    | none =>
      rw [e] at rr
      have hn : valueAt vb k = none := by
        rw [← h1']
        cases e2 : valueAt vb p.1 with
        | none => rfl
        | some y =>
          rw [e2] at rr
          cases rr
      show PySem.W.KeqHits A s vb ((k, v) :: qs) false
      exact .miss hn
    | some w =>
      rw [e] at rr
      obtain ⟨y, hy, ry⟩ := rr.some_of
      rw [h1'] at hy
      have fw : flatV w = true := by
        obtain ⟨p', hp', e2⟩ := valV_mem2 e
        rw [← e2]
        exact hl _ hp'
      exact .hit hy (eqAt_V h2 ry (hp p List.mem_cons_self) fw) (ih (fun p' hm => hp p' (List.mem_cons_of_mem _ hm)) hl)
def rEqDG : R2 := fun x y H Q => ∃ a b ks ls, x = .ref a ∧ y = .ref b ∧ H a = some (.dK ks) ∧ H b = some (.dK ls) ∧ (∀ p ∈ ks, flatV p.2 = true) ∧ (∀ p ∈ ls, flatV p.2 = true) ∧ Q (.bl (dkEq ks ls)) H
section
variable {X : Cx}
theorem op_eqDG (hu : X.A.units < cLine) : OpR X (compareOp .Eq) rEqDG := by
  intro pins s σ H x y v u Q I rx ry h
  obtain ⟨a, b, ks, ls, rfl, rfl, ea, eb, h1, h2, q⟩ := h
  obtain rfl : v = Value.ref a := rx
  obtain rfl : u = Value.ref b := ry
  obtain ⟨_, ya, va, ra, da⟩ := (show ObjOk X.prog X.w H s.heap a (.dK ks) from I.hok a _ ea)
  obtain ⟨_, yb, vb, rb, db⟩ := (show ObjOk X.prog X.w H s.heap b (.dK ls) from I.hok b _ eb)
  exact PySem.W.keq_eq (knd := mixKind X.prog X.w) (r := ks.all (hitB ls)) ya yb da db hu (fun _ => hits_gen rb ra h1 h2) (fin_bl I q (by unfold dkEq; rw [ra.length, rb.length]))
end
/-! ### ranks -/
theorem sd_flat (rk : List (Str × Int)) : ∀ p ∈ sd rk, flatV p.2 = true := fun p hp => by
  obtain ⟨x, _, rfl⟩ := List.mem_map.mp hp
  rfl
def rkEq (rk rk' : List (Str × Int)) : Bool := dkEq (sd rk) (sd rk')
theorem sd_val (rk : List (Str × Int)) (nd : (rk.map (·.1)).Nodup) {p : Str × Int} (hp : p ∈ rk) : valV (sd rk) (.inr p.1) = some (.int p.2) := by
  induction rk with
  | nil => cases hp
  | cons a r ih =>
    have nd' := List.nodup_cons.mp (show (a.1 :: r.map (·.1)).Nodup from nd)
    rcases List.mem_cons.mp hp with rfl | hp
    · exact valV_pos rfl
    · have h : ¬ (Sum.inr a.1 : Key) = Sum.inr p.1 := fun e => nd'.1 (by rw [Sum.inr.inj e]; exact List.mem_map.mpr ⟨p, hp, rfl⟩)
      show valV ((Sum.inr a.1, V.int a.2) :: sd r) _ = _
      rw [valV_neg h]
      exact ih nd'.2 hp
theorem rkEq_perm {rk rk' : List (Str × Int)} (nd : (rk.map (·.1)).Nodup) (p : rk.Perm rk') : rkEq rk rk' = true := by
  have nd' : (rk'.map (·.1)).Nodup := (p.map (·.1)).nodup nd
  unfold rkEq dkEq
  rw [Bool.and_eq_true]
  refine ⟨by simp [sd_len, p.length_eq], List.all_eq_true.mpr fun q hq => ?_⟩
  obtain ⟨x, hx, rfl⟩ := List.mem_map.mp hq
  unfold hitB
  show (match valV (sd rk') (Sum.inr x.1) with | none => false | some w => eqV (V.int x.2) w) = true
  rw [sd_val rk' nd' (p.mem_iff.mp hx)]
  show (x.2 == x.2) = true
  simp
theorem rkEq_diff {rk rk' : List (Str × Int)} (nd' : (rk'.map (·.1)).Nodup) {z : Str} {i j : Int} (h : (z, i) ∈ rk) (h' : (z, j) ∈ rk') (ne : i ≠ j) : rkEq rk rk' = false := by
  unfold rkEq dkEq
  rw [Bool.and_eq_false_iff]
  refine .inr (Bool.eq_false_iff.mpr fun ha => ?_)
  have := List.all_eq_true.mp ha (Sum.inr z, V.int i) (List.mem_map.mpr ⟨_, h, rfl⟩)
  unfold hitB at this
  rw [show valV (sd rk') (Sum.inr z, V.int i).1 = some (V.int j) from sd_val rk' nd' h'] at this
  have this : (i == j) = true := this
  exact ne (by simpa using this)
/-! ### entries -/
theorem eqv_wD {w w' : V} (h : WOK w) (h' : WOK w') : PyData.eqv (wD w) (wD w') = decide (w = w') := by
  rcases h with rfl | ⟨i, rfl⟩ | ⟨z, rfl, _⟩ <;> rcases h' with rfl | ⟨j, rfl⟩ | ⟨y, rfl, _⟩ <;> simp [wD, PyData.eqv]
  · by_cases e : i = j <;> simp [e]
  · by_cases e : z = y <;> simp [e]
theorem eqv_evD {a b : Evt} (ha : EvSt a) (hb : EvSt b) : PyData.eqv (evD a) (evD b) = decide (a = b) := by
  obtain ⟨m, k, z, d, w⟩ := a
  obtain ⟨m', k', z', d', w'⟩ := b
  have hw := eqv_wD ha.w hb.w
  simp only at hw
  simp only [evD, PyData.eqv, PyData.eqvAll, Bool.and_true, hw]
  rw [Bool.eq_iff_iff]
  simp only [Bool.and_eq_true, beq_iff_eq, decide_eq_true_eq, Evt.mk.injEq]
  constructor
  · rintro ⟨h1, h2, h3, h4, h5⟩
    exact ⟨kindS_inj h1, h2, h3, h4, h5⟩
  · rintro ⟨h1, h2, h3, h4, h5⟩
    exact ⟨by rw [h1], h2, h3, h4, h5⟩
theorem eqv_entD : ∀ {L L' : List Evt}, (∀ e ∈ L, EvSt e) → (∀ e ∈ L', EvSt e) → PyData.eqv (entD L) (entD L') = decide (L = L')
  | [], [], _, _ => by simp [entD, PyData.eqv, PyData.eqvAll]
  | [], b :: r, _, _ => by simp [entD, PyData.eqv, PyData.eqvAll]
  | a :: r, [], _, _ => by simp [entD, PyData.eqv, PyData.eqvAll]
  | a :: r, b :: r', h, h' => by
    have ih := eqv_entD (L := r) (L' := r') (fun e he => h e (List.mem_cons_of_mem _ he)) (fun e he => h' e (List.mem_cons_of_mem _ he))
    have hd := eqv_evD (h a List.mem_cons_self) (h' b List.mem_cons_self)
    simp only [entD, PyData.eqv] at ih
    simp only [entD, PyData.eqv, List.map_cons, PyData.eqvAll, ih, hd]
    rw [Bool.eq_iff_iff]
    simp
theorem shaped_ents {L : List Evt} (h : ∀ e ∈ L, EvSt e) : SeqAt.shaped (entD L) = true := by
  obtain ⟨a, b⟩ := entD_lay h
  show (PyData.canLay0 (entD L) && decide (PyData.depth (entD L) ≤ 64)) = true
  rw [Bool.and_eq_true]
  exact ⟨a, decide_eq_true (by omega)⟩
/-- a book against another -/
def spBookEqG (CB CH : Addr) (T : List (Addr × Str)) : Sp := fun vs H Q _ => ∃ (b c : Addr) (rk rk' : List (Str × Int)) (es es' : List Evt) (fp fp' : List Addr), vs = [.ref b, .ref c] ∧ Bk CB CH H b rk es fp ∧ Bk CB CH H c rk' es' fp' ∧ es.length ≤ 60 ∧ es'.length ≤ 60 ∧ LamX.Tabs T H ∧
  ∀ (H' : Hp), LamX.ExtN H H' → LamX.Tabs T H' → Q (.bl (rkEq rk rk' && decide (entW es = entW es'))) H'
end LT
set_option Elab.async false
set_option linter.all false
set_option maxRecDepth 100000
set_option maxHeartbeats 1600000
/-! Own layer: books held against one another, where that makes things; what a book stands for. -/
namespace LT
open PySem PySem.Spec PyProof.Rows L2 NdefX LamX
section
variable {X : Cx} {C f : Addr} {fd : FuncData} {ps : List Str} {sp : Sp} {n : Nat}
theorem op_in_rG (EC : EqC X.K C f) (F : FnOk X.prog X.w X.K X.mg X.base CX0 n f fd ps sp) (hr : Room (n + 1) X.A) (hb : L2.Binds X.K fd ps []) :
    OpR X (compareOp .In) (fun x y H Q => ∃ (r : Bool) (l a b dx dy : Addr) (fs gs : List (Str × V)), x = .ref a ∧ y = .ref l ∧ H l = some (.lst [.ref b]) ∧ H a = some (.ins C dx fs) ∧ H b = some (.ins C dy gs) ∧
      b ≠ a ∧ sp [.ref b, .ref a] H (fun z H' => ∃ k, z = .bl k ∧ z = .bl r ∧ H' l = some (.lst [.ref b]) ∧ Q (.bl r) H') E0) := by
  intro pins s σ H x y v u Q I rx ry h
  obtain ⟨r, l, a, b, dx, dy, fs, gs, rfl, rfl, hl, ha, hb', ne, h2⟩ := h
  cases rx
  cases ry
  refine in_one (one_at I hl) (wpAny_mono (eqb_own (Q := fun z H' => z = .bl r ∧ H' l = some (.lst [.ref b]) ∧ Q (.bl r) H') EC F ⟨hr.in1, rfl⟩ hb I hb' ha (fun e => absurd e ne) fun _ => h2) (fun k s' hz => ?_) fun _ _ x => x)
  obtain ⟨H', I', e, hl', q⟩ := hz
  cases e
  exact ⟨one_at I' hl', .bl _, _, I', rfl, q⟩
end
theorem paired_rev63 {α β : Type} {R : α → β → Prop} : ∀ {xs : List α} {ys : List β}, Paired R xs ys → Paired R xs.reverse ys.reverse
  | _, _, .nil => .nil
  | _, _, .cons a r => by
    rw [List.reverse_cons, List.reverse_cons]
    exact paired_snoc' (paired_rev63 r) a
def KnB (es : List Evt) : Prop := ∀ e ∈ es, e.kn < 10 ^ 55
structure RelE (rk : List (Str × Int)) (ev es : List Evt) : Prop where
  en : entW ev = entW es
  hd : SameHd ev es
  lt : lateV ev = lateV es
  ok : ∀ e ∈ ev, EvOK rk e
  kb : KnB ev
  l1 : ev.length ≤ 40
  l2 : es.length ≤ 40
def spSame63 (CB CH : Addr) (T : List (Addr × Str)) : Sp := fun vs H Q _ => ∃ (b c : Addr) (rk rk' : List (Str × Int)) (es es' : List Evt) (fp fp' : List Addr) (due : Bool), vs = [.ref b, .ref c, .bl due] ∧ Bk CB CH H b rk es fp ∧ Bk CB CH H c rk' es' fp' ∧ b ≠ c ∧ es.length ≤ 60 ∧ es'.length ≤ 60 ∧
  (rkEq rk rk' && decide (entW es = entW es')) = due ∧ (rkEq rk' rk && decide (entW es' = entW es)) = due ∧ Tabs T H ∧ ∀ (H' : Hp), ExtN H H' → Tabs T H' → Q (.bl true) H'
def spStands (CB CH : Addr) (T : List (Addr × Str)) : Sp := fun vs H Q _ => ∃ (b r E : Addr) (rk : List (Str × Int)) (ev es : List Evt) (fp : List Addr), vs = [.ref b, .ref r, .ref E] ∧ Bk CB CH H b rk es fp ∧ H r = some (.dK (sd rk)) ∧ EvsAt H H E ev ∧ RelE rk ev es ∧ Tabs T H ∧
  ∀ (H' : Hp), ExtN H H' → Tabs T H' → Q (.bl true) H'
def spRoad (CB CH : Addr) (T : List (Addr × Str)) : Sp := fun vs H Q _ => ∃ (r E : Addr) (rk : List (Str × Int)) (ev : List Evt), vs = [.ref r, .ref E] ∧ H r = some (.dK (sd rk)) ∧ Rk rk ∧ EvsAt H H E ev ∧ ev.length ≤ 60 ∧ (∀ e ∈ ev, EvOK rk e) ∧ Tabs T H ∧
  ∀ (b : Addr) (fp : List Addr) (H' : Hp), Bk CB CH H' b rk.reverse ((entW ev).mergeSort knLe) fp → (∀ c ∈ fp, NewN H c) → ExtN H H' → Tabs T H' → Q (.ref b) H'
def spPlanK : Sp := fun vs H Q _ => ∃ (p : Addr) (m : Int), vs = [.ref p, .int m] ∧ Pot H p ∧ 0 ≤ m ∧ m ≤ 29 ∧
  ∀ (P la : Addr) (D : PlanD) (kn : Int) (H' : Hp), H P = none → PlanG D → (0 ≤ kn ∧ kn < 10 ^ 54) → PlanI (Ho [P] (new H H')) D → LastAt (Ho [P] (new H H')) la none → H' P = some (.dK (planK D kn la)) → Pot H' p → SameB p H H' → Q (.ref P) H'
def spEventK : Sp := fun vs H Q _ => ∃ (p P la : Addr) (D : PlanD) (kn : Int) (o : Option Evt), vs = [.ref p, .ref P] ∧ Pot H p ∧ H P = some (.dK (planK D kn la)) ∧ PlanI H D ∧ PlanG D ∧ 0 ≤ kn ∧ LastAt H la o ∧ (∀ e, o = some e → EvOK D.rk e) ∧
  ∀ (T la' : Addr) (e : Evt) (H' : Hp), (kn ≤ e.kn ∧ e.kn ≤ kn + 9) → EvOK D.rk e → EvT (new H H') T e → LastAt (new H H') la' (some e) → H' P = some (.dK (planK D e.kn la')) → Pot H' p → SameL [p, P] H H' → Q (.ref T) H'
/-! ### how entries show -/
theorem evD_show {rk : List (Str × Int)} {e : Evt} (h : EvOK rk e) (hk : e.kn < 10 ^ 55) (hn : ∀ z ∈ rk.map (·.1), Nm z) : (evD e).showable = true ∧ (evD e).hasDict = false ∧ (evD e).shown.length ≤ 1000 := by
  have k0 := h.k0
  have d0 := h.d0
  have d1 := h.d1
  have nw : Nm e.who := by
    cases hm : e.mv with
    | true => exact hn _ (h.mw hm).1
    | false => exact (h.lw hm).1
  have hw : (wD e.w).showable = true ∧ (wD e.w).hasDict = false ∧ (wD e.w).shown.length ≤ 210 := by
    cases hm : e.mv with
    | true =>
      rcases (h.mw hm).2 with h2 | ⟨z, h2, hz⟩
      · rw [h2]
        exact ⟨by simp [wD, PyData.showable], by simp [wD, PyData.hasDict], by simp only [wD, PyData.shown]; decide +kernel⟩
      · rw [h2]
        have := pl_repr hz
        exact ⟨by simp [wD, PyData.showable], by simp [wD, PyData.hasDict], by simp only [wD, PyData.shown]; omega⟩
    | false =>
      obtain ⟨_, n, h2, n0, n1⟩ := h.lw hm
      rw [h2]
      have hb : n.natAbs ≤ 10 ^ 61 := by omega
      have := tlen61 hb
      exact ⟨by simp only [wD, PyData.showable]; exact decide_eq_true (lg61 hb), by simp [wD, PyData.hasDict], by simp only [wD, PyData.shown]; omega⟩
  have bk : e.kn.natAbs ≤ 10 ^ 61 := by omega
  have bd : e.day.natAbs ≤ 10 ^ 61 := by omega
  have t1 := tlen61 bk
  have t2 := tlen61 bd
  have t3 := nm_repr nw
  have t4 : (reprText (kindS e.mv)).length ≤ 10 := by cases e.mv <;> decide +kernel
  refine ⟨?_, ?_, ?_⟩
  · simp only [evD, PyData.showable, PyData.showableAll, hw.1, decide_eq_true (lg61 bk), decide_eq_true (lg61 bd), Bool.and_self]
  · simp only [evD, PyData.hasDict, PyData.hasDictAll, hw.2.1, Bool.or_self]
  · have e1 := tupleText_len_le [reprText (kindS e.mv), Str.ofString (toString e.kn), reprText e.who, Str.ofString (toString e.day), (wD e.w).shown]
    have e2 : (evD e).shown = tupleText [reprText (kindS e.mv), Str.ofString (toString e.kn), reprText e.who, Str.ofString (toString e.day), (wD e.w).shown] := by simp only [evD, PyData.shown, PyData.shownAll]
    rw [e2]
    simp only [List.map_cons, List.map_nil, List.sum_cons, List.sum_nil, List.length_cons, List.length_nil] at e1
    omega
/-- a list of entries, and maybe a word behind them, shows -/
theorem ents_show {rk : List (Str × Int)} (hn : ∀ z ∈ rk.map (·.1), Nm z) : ∀ {L : List Evt}, (∀ e ∈ L, EvOK rk e ∧ e.kn < 10 ^ 55) → PyData.showableAll (L.map evD) = true ∧ (∀ d ∈ L.map evD, d.hasDict = false) ∧ (∀ t ∈ PyData.shownAll (L.map evD), t.length ≤ 1000) ∧ (PyData.shownAll (L.map evD)).length = L.length
  | [], _ => ⟨by simp [PyData.showableAll], nofun, by simp [PyData.shownAll], by simp [PyData.shownAll]⟩
  | e :: L, h => by
    obtain ⟨a1, a2, a3, a4⟩ := ents_show hn (L := L) fun x hx => h x (List.mem_cons_of_mem _ hx)
    obtain ⟨b1, b2, b3⟩ := evD_show (h e List.mem_cons_self).1 (h e List.mem_cons_self).2 hn
    refine ⟨by simp only [List.map_cons, PyData.showableAll, a1, b1, Bool.and_self], fun d hd => ?_, fun t ht => ?_, by simp only [List.map_cons, PyData.shownAll, List.length_cons, a4]⟩
    · rcases List.mem_cons.mp hd with rfl | hd
      · exact b2
      · exact a2 d hd
    · simp only [List.map_cons, PyData.shownAll] at ht
      rcases List.mem_cons.mp ht with rfl | ht
      · exact b3
      · exact a3 t ht
end LT
set_option Elab.async false
set_option linter.all false
set_option maxRecDepth 100000
set_option maxHeartbeats 1600000
/-! Own layer: != of two dicts; a strange key put into ranks and taken out again; lists of entries that show. -/
namespace LT
open PySem PySem.Spec PyProof.Rows L2 NdefX LamX
def rNeDG : R2 := fun x y H Q => ∃ a b ks ls, x = .ref a ∧ y = .ref b ∧ H a = some (.dK ks) ∧ H b = some (.dK ls) ∧ (∀ p ∈ ks, flatV p.2 = true) ∧ (∀ p ∈ ls, flatV p.2 = true) ∧ Q (.bl (!dkEq ks ls)) H
section
variable {X : Cx}
theorem op_neDG (hu : X.A.units < cLine) : OpR X (compareOp .NotEq) rNeDG := by
  intro pins s σ H x y v u Q I rx ry h
  obtain ⟨a, b, ks, ls, rfl, rfl, ea, eb, h1, h2, q⟩ := h
  obtain rfl : v = Value.ref a := rx
  obtain rfl : u = Value.ref b := ry
  obtain ⟨_, ya, va, ra, da⟩ := (show ObjOk X.prog X.w H s.heap a (.dK ks) from I.hok a _ ea)
  obtain ⟨_, yb, vb, rb, db⟩ := (show ObjOk X.prog X.w H s.heap b (.dK ls) from I.hok b _ eb)
  exact PySem.W.keq_ne (knd := mixKind X.prog X.w) (r := ks.all (hitB ls)) ya yb da db hu (fun _ => hits_gen rb ra h1 h2) (fin_bl I q (by unfold dkEq; rw [ra.length, rb.length]))
end
theorem rkEq_refl {rk : List (Str × Int)} (k : Rk rk) : rkEq rk rk = true := rkEq_perm k.nd (List.Perm.refl _)
/-- a key that no rank has -/
theorem zz_not {rk : List (Str × Int)} (k : Rk rk) : (Str.ofString "Zz") ∉ rk.map (·.1) := fun h => by
  obtain ⟨p, hp, e⟩ := List.mem_map.mp h
  have := (k.nm p hp).al 90 (by rw [e]; decide +kernel)
  exact absurd this (by decide)
theorem sd_no {rk : List (Str × Int)} {z : Str} (h : z ∉ rk.map (·.1)) : valV (sd rk) (.inr z) = none := by
  cases e : valV (sd rk) (.inr z) with
  | none => rfl
  | some v =>
    exfalso
    induction rk with
    | nil => cases e
    | cons a r ih =>
      have h' : z ≠ a.1 ∧ z ∉ r.map (·.1) := by simpa using h
      have e : valV ((Sum.inr a.1, V.int a.2) :: sd r) (.inr z) = some v := e
      rw [valV_neg (by intro c; exact h'.1 (Sum.inr.inj c).symm)] at e
      exact ih h'.2 e
theorem zz_put {rk : List (Str × Int)} (k : Rk rk) (n : Int) : putK (sd rk) (.inr (Str.ofString "Zz")) (.int n) = sd rk ++ [(.inr (Str.ofString "Zz"), .int n)] := putK_new _ (sd_no (zz_not k))
theorem zz_val {rk : List (Str × Int)} (k : Rk rk) (n : Int) : valV (sd rk ++ [(.inr (Str.ofString "Zz"), .int n)]) (.inr (Str.ofString "Zz")) = some (.int n) := by
  rw [valV_snoc _ _ _ _ (sd_no (zz_not k)), if_pos rfl]
theorem zz_drop {rk : List (Str × Int)} (k : Rk rk) (n : Int) : dropK (sd rk ++ [(.inr (Str.ofString "Zz"), .int n)]) (.inr (Str.ofString "Zz")) = sd rk := by
  unfold dropK
  rw [List.filter_append, List.filter_eq_self.mpr, List.filter_cons_of_neg (by simp), List.filter_nil, List.append_nil]
  intro p hp
  obtain ⟨x, hx, rfl⟩ := List.mem_map.mp hp
  refine decide_eq_true fun e => zz_not k ?_
  rw [← Sum.inr.inj e]
  exact List.mem_map.mpr ⟨x, hx, rfl⟩
end LT
namespace LT
open PySem PySem.Spec PyProof.Rows L2 NdefX LamX
theorem sd_all {K : PySem.W.Frag} {H : Hp} {vs : List V} {ds : List PyData} (h : DpAll K H vs ds) : (∀ d ∈ ds, d.hasDict = false) → Paired (Sd K H) vs ds := by
  induction ds generalizing vs with
  | nil =>
    cases h
    exact fun _ => .nil
  | cons d r ih =>
    cases h with
    | cons a b => exact fun k => .cons (.dp a (k d List.mem_cons_self)) (ih b fun d hd => k d (List.mem_cons_of_mem _ hd))
theorem sum_lenK (n : Nat) : ∀ ts : List Str, (∀ t ∈ ts, t.length ≤ n) → (ts.map (·.length)).sum ≤ n * ts.length
  | [], _ => Nat.zero_le _
  | t :: r, h => by
    have h1 := sum_lenK n r fun x hx => h x (List.mem_cons_of_mem _ hx)
    have h2 := h t List.mem_cons_self
    rw [List.map_cons, List.sum_cons, List.length_cons, Nat.mul_add, Nat.mul_one]
    omega
theorem list_shows {ds : List PyData} (h1 : PyData.showableAll ds = true) (h2 : PyData.depthAll ds ≤ 50) (h3 : ∀ t ∈ PyData.shownAll ds, t.length ≤ 1000) (h4 : (PyData.shownAll ds).length ≤ 100) :
    (PyData.list ds).showable = true ∧ (PyData.list ds).depth ≤ 60 ∧ (PyData.list ds).shown.length ≤ sizeLine := by
  refine ⟨by simpa only [PyData.showable] using h1, by simp only [PyData.depth]; omega, ?_⟩
  have a := listText_len_le (PyData.shownAll ds)
  have b := sum_lenK 1000 _ h3
  have e : (PyData.list ds).shown = listText (PyData.shownAll ds) := by simp only [PyData.shown]
  rw [e, sizeLine_eq]
  omega
theorem shAll_app : ∀ (ds es : List PyData), PyData.showableAll (ds ++ es) = (PyData.showableAll ds && PyData.showableAll es)
  | [], es => by simp [PyData.showableAll]
  | d :: r, es => by rw [List.cons_append]; simp only [PyData.showableAll, shAll_app r es, Bool.and_assoc]
theorem shown_app : ∀ (ds es : List PyData), PyData.shownAll (ds ++ es) = PyData.shownAll ds ++ PyData.shownAll es
  | [], es => by simp [PyData.shownAll]
  | d :: r, es => by rw [List.cons_append]; simp only [PyData.shownAll, shown_app r es, List.cons_append]
theorem depth_app : ∀ (ds es : List PyData) (n : Nat), PyData.depthAll ds ≤ n → PyData.depthAll es ≤ n → PyData.depthAll (ds ++ es) ≤ n
  | [], es, n, _, h => h
  | d :: r, es, n, h, k => by
    simp only [List.cons_append, PyData.depthAll] at h ⊢
    have := depth_app r es n (by omega) k
    omega
/-- entries: what repr wants, alone and with a word behind them -/
theorem ents63 {K : PySem.W.Frag} {H : Hp} {rk : List (Str × Int)} {us : List Addr} {L : List Evt} (k : Rk rk) (h : ∀ e ∈ L, EvOK rk e ∧ e.kn < 10 ^ 55) (hl : L.length ≤ 60) (p : Paired (EvT H) us L) :
    (Paired (Sd K H) (us.map V.ref) (L.map evD) ∧ (PyData.list (L.map evD)).showable = true ∧ (PyData.list (L.map evD)).depth ≤ 60 ∧ (PyData.list (L.map evD)).shown.length ≤ sizeLine) ∧
    (Paired (Sd K H) (us.map V.ref ++ [.str (Str.ofString "more")]) (L.map evD ++ [.str (Str.ofString "more")]) ∧ (PyData.list (L.map evD ++ [.str (Str.ofString "more")])).showable = true ∧ (PyData.list (L.map evD ++ [.str (Str.ofString "more")])).depth ≤ 60 ∧ (PyData.list (L.map evD ++ [.str (Str.ofString "more")])).shown.length ≤ sizeLine) := by
  have hn : ∀ z ∈ rk.map (·.1), Nm z := fun z hz => by
    obtain ⟨p, hp, rfl⟩ := List.mem_map.mp hz
    exact k.nm p hp
  obtain ⟨a1, a2, a3, a4⟩ := ents_show hn h
  have st : ∀ e ∈ L, EvSt e := fun e he => evSt_of hn (h e he).1
  have ps := sd_all (ev_dp (K := K) p st) a2
  obtain ⟨_, dl⟩ := evD_lay st
  refine ⟨⟨ps, list_shows a1 (by omega) a3 (by omega)⟩, paired_snoc' ps (.dp (.str _) (by simp [PyData.hasDict])), list_shows ?_ ?_ ?_ ?_⟩
  · rw [shAll_app, a1]
    simp only [PyData.showableAll, PyData.showable]
    decide +kernel
  · refine depth_app _ _ _ (by omega) ?_
    simp only [PyData.depthAll, PyData.depth]
    omega
  · intro t ht
    rw [shown_app] at ht
    rcases List.mem_append.mp ht with ht | ht
    · exact a3 t ht
    · simp only [PyData.shownAll, PyData.shown, List.mem_singleton] at ht
      rw [ht]
      decide +kernel
  · rw [shown_app, List.length_append, a4]
    simp only [PyData.shownAll, List.length_cons, List.length_nil]
    omega
end LT
namespace LT
open PySem PySem.Spec PyProof.Rows L2 NdefX LamX
/-- what stands while a book is held against its law -/
structure St63 (CB CH : Addr) (T : List (Addr × Str)) (b r E dl tl : Addr) (us ts ts0 : List Addr) (rk : List (Str × Int)) (ev es : List Evt) (fp : List Addr) (m : List V) (H : Hp) : Prop where
  W : Bk CB CH H b rk es fp
  er : H r = some (.dK (sd rk))
  el : H tl = some (.lst (ts.map V.ref ++ m))
  hts : Paired (EvT H) ts (entW ev)
  ed : H dl = some (.lst (us.map V.ref))
  hus : Paired (EvT H) us (entW ev)
  eE : H E = some (.lst (ts0.map V.ref))
  h0 : Paired (EvT H) ts0 ev
  TT : Tabs T H
section
variable {CB CH : Addr} {T : List (Addr × Str)} {b r E dl tl : Addr} {us ts ts0 : List Addr} {rk : List (Str × Int)} {ev es : List Evt} {fp : List Addr} {m : List V} {H H' : Hp}
theorem St63.ext (k : St63 CB CH T b r E dl tl us ts ts0 rk ev es fp m H) (e : ExtN H H') (t : Tabs T H') : St63 CB CH T b r E dl tl us ts ts0 rk ev es fp m H' :=
  ⟨k.W.extN e, e _ _ k.er nofun, e _ _ k.el nofun, paired_imp (fun _ _ h => evT_extN e h) k.hts, e _ _ k.ed nofun, paired_imp (fun _ _ h => evT_extN e h) k.hus, e _ _ k.eE nofun, paired_imp (fun _ _ h => evT_extN e h) k.h0, t⟩
theorem St63.own {o : Addr} {ks : List (Key × V)} (k : St63 CB CH T b r E dl tl us ts ts0 rk ev es fp m H) (ho : H o = some (.dK ks)) (nf : o ∉ fp) (nr : o ≠ r) (s : SameL [o] H H') : St63 CB CH T b r E dl tl us ts ts0 rk ev es fp m H' := by
  have n1 : ∀ {a : Addr} {x : HO}, H a = some x → x ≠ .dK ks → a ∉ [o] := fun {a x} e h m => by
    rw [List.mem_singleton.mp m, ho] at e
    exact h (Option.some.inj e).symm
  have tp : ∀ (a : Addr) (x : Evt), EvT H a x → EvT H' a x := fun a x e => s a (.tup [.str (kindS x.mv), .int x.kn, .str x.who, .int x.day, x.w]) (n1 e nofun) e
  exact ⟨k.W.monoL s fun c hc m => nf (by rw [← List.mem_singleton.mp m]; exact hc), s _ _ (fun m => nr (List.mem_singleton.mp m).symm) k.er, s _ _ (n1 k.el nofun) k.el, paired_imp tp k.hts, s _ _ (n1 k.ed nofun) k.ed, paired_imp tp k.hus, s _ _ (n1 k.eE nofun) k.eE, paired_imp tp k.h0,
    tabs_L k.TT (fun c hc x e => by
      rw [List.mem_singleton.mp hc, ho] at e
      cases e
      exact ⟨nofun, nofun⟩) s⟩
theorem St63.more (k : St63 CB CH T b r E dl tl us ts ts0 rk ev es fp [] H) (x : V) (n1 : tl ≠ dl) (n2 : tl ≠ E) : St63 CB CH T b r E dl tl us ts ts0 rk ev es fp [x] (upd H tl (.lst (ts.map V.ref ++ [x]))) := by
  have el := k.el
  have s : SameL [tl] H (upd H tl (.lst (ts.map V.ref ++ [x]))) := SameL.upd List.mem_cons_self (SameL.of (Same.refl _))
  have ne : ∀ {a : Addr} {y : HO}, H a = some y → (∀ zs, y ≠ .lst zs) → a ∉ [tl] := fun {a y} e h m => by
    rw [List.mem_singleton.mp m, el] at e
    exact h _ (Option.some.inj e).symm
  have tp : ∀ (a : Addr) (z : Evt), EvT H a z → EvT (upd H tl (.lst (ts.map V.ref ++ [x]))) a z := fun a z e => s a (.tup [.str (kindS z.mv), .int z.kn, .str z.who, .int z.day, z.w]) (ne e nofun) e
  exact ⟨k.W.monoL s fun c hc m => k.W.nl el (by rw [← List.mem_singleton.mp m]; exact hc), s _ _ (ne k.er nofun) k.er, upd_same, paired_imp tp k.hts, s _ _ (fun m => n1 (List.mem_singleton.mp m).symm) k.ed, paired_imp tp k.hus, s _ _ (fun m => n2 (List.mem_singleton.mp m).symm) k.eE, paired_imp tp k.h0,
    tabs_updG k.TT el⟩
theorem ExtN.over {H H1 : Hp} {a : Addr} {o : HO} (e : ExtN H H1) (n : NewN H a) : ExtN H (upd H1 a o) := extN_L (fp := [a]) e (fun c hc => by rw [List.mem_singleton.mp hc]; exact n) (SameL.upd List.mem_cons_self (SameL.of (Same.refl _)))
theorem lateV_last {ev : List Evt} (h : ev ≠ []) : ∃ e, ev[ev.length - 1]? = some e ∧ lateV ev = .int e.kn := by
  obtain ⟨e, he⟩ : ∃ e, ev.getLast? = some e := by
    cases h2 : ev.getLast? with
    | none => exact absurd (List.getLast?_eq_none_iff.mp h2) h
    | some e => exact ⟨e, rfl⟩
  refine ⟨e, by rw [← List.getLast?_eq_getElem?]; exact he, ?_⟩
  unfold lateV
  rw [he]
end
end LT
namespace LT
open PySem PySem.Spec PyProof.Rows L2 NdefX LamX
theorem lateV_or (ev : List Evt) : lateV ev = .non ∨ ∃ k, lateV ev = .int k := by
  unfold lateV
  cases ev.getLast? with
  | none => exact .inl rfl
  | some e => exact .inr ⟨_, rfl⟩
theorem atI_end63 {xs : List V} {v : V} (h : xs[xs.length - 1]? = some v) : atI xs (-1) = some v := by
  have hl := (List.getElem?_eq_some_iff.mp h).1
  unfold atI ixN
  rw [if_neg (by decide), if_pos (by omega)]
  show xs[((xs.length : Int) + -1).toNat]? = _
  rw [show ((xs.length : Int) + -1).toNat = xs.length - 1 by omega]
  exact h
end LT
namespace LT
open PySem PySem.Spec PyProof.Rows L2 NdefX LamX
/-- Book.__eq__: another book, or a thing that is none -/
def spBookEqA (CB CH : Addr) (T : List (Addr × Str)) : Sp := fun vs H Q E => ∃ (b : Addr) (y : V), vs = [.ref b, y] ∧ (spBookEqG CB CH T [.ref b, y] H Q E ∨ (Odd H y ∧ Q (.bl false) H))
end LT
namespace LT
open PySem PySem.Spec PyProof.Rows L2 NdefX LamX
theorem entW_new {es : List Evt} {e : Evt} : e ∈ entW (es ++ [e]) := ((entW_is _).mem e).mpr (by rw [entA_snoc]; exact if_pos rfl)
theorem entW_ne {es es' : List Evt} {e : Evt} (h : ∀ x ∈ es, x.kn ≠ e.kn) : entW es ≠ entW (es' ++ [e]) := fun q => by
  have := entW_new (es := es') (e := e)
  rw [← q] at this
  exact h e ((entW_is es).sub e this) rfl
theorem entW_again (es : List Evt) : entW ((entW es).mergeSort knLe) = entW es := (entW_is _).uniq (entW_is es).again
theorem Bk.inf {CB CH : Addr} {H : Hp} {b : Addr} {rk : List (Str × Int)} {es : List Evt} {fp : List Addr} (h : Bk CB CH H b rk es fp) : b ∈ fp := by
  obtain ⟨B, rfl, rfl, rfl, rfl, _⟩ := h
  exact List.mem_cons_self
theorem NewN.ne {H : Hp} {a b : Addr} {C dx : Addr} {fs : List (Str × V)} (n : NewN H a) (h : H b = some (.ins C dx fs)) : b ≠ a := fun e => by
  obtain ⟨ps, z⟩ := n _ (by rw [← e]; exact h)
  cases z
/-- known days are told up to a bound -/
def spUnlike63 (CB CH : Addr) (T : List (Addr × Str)) : Sp := fun vs H Q _ => ∃ (b P E la : Addr) (D : PlanD) (kn : Int) (ev es : List Evt) (fp : List Addr), vs = [.ref b, .ref P, .ref E] ∧ Bk CB CH H b D.rk es fp ∧ H P = some (.dK (planK D kn la)) ∧ PlanI H D ∧ PlanG D ∧ EvsAt H H E ev ∧ RelE D.rk ev es ∧
  0 ≤ kn ∧ (∀ e ∈ ev, e.kn ≤ kn) ∧ (∀ e ∈ es, e.kn ≤ kn) ∧ Tabs T H ∧ ∀ (H' : Hp), ExtN H H' → Tabs T H' → Q (.bl true) H'
/-- the first one's rank another -/
def chg : List (Str × Int) → List (Str × Int)
  | [] => []
  | (z, v) :: r => (z, v % 9 + 1) :: r
theorem chg_keys (rk : List (Str × Int)) : (chg rk).map (·.1) = rk.map (·.1) := by
  cases rk <;> rfl
theorem chg_rk {rk : List (Str × Int)} (k : Rk rk) : Rk (chg rk) := by
  cases rk with
  | nil => exact k
  | cons a r =>
    obtain ⟨z, v⟩ := a
    have nm := k.nm
    have b1 := k.b1
    refine ⟨k.nd, fun p hp => ?_, fun p hp => ?_, k.ln⟩
    · rcases List.mem_cons.mp hp with rfl | hp
      · exact nm (z, v) List.mem_cons_self
      · exact nm p (List.mem_cons_of_mem _ hp)
    · rcases List.mem_cons.mp hp with rfl | hp
      · have := Int.emod_nonneg v (show (9 : Int) ≠ 0 by decide)
        have := Int.emod_lt_of_pos v (show (0 : Int) < 9 by decide)
        exact ⟨by show 1 ≤ v % 9 + 1; omega, by show v % 9 + 1 ≤ 9; omega⟩
      · exact b1 p (List.mem_cons_of_mem _ hp)
theorem rev_nd {rk : List (Str × Int)} (k : Rk rk) : (rk.reverse.map (·.1)).Nodup := by
  rw [List.map_reverse]
  exact (List.reverse_perm _).nodup_iff.mpr k.nd
theorem chg_eq {rk : List (Str × Int)} (k : Rk rk) : rkEq rk (chg rk).reverse = rk.isEmpty ∧ rkEq (chg rk).reverse rk = rk.isEmpty := by
  cases rk with
  | nil => exact ⟨by decide +kernel, by decide +kernel⟩
  | cons a r =>
    obtain ⟨z, v⟩ := a
    have b := k.b1 (z, v) List.mem_cons_self
    have b1 : 1 ≤ v ∧ v ≤ 9 := b
    have ne : v ≠ v % 9 + 1 := by omega
    have m1 : (z, v) ∈ (z, v) :: r := List.mem_cons_self
    have m2 : (z, v % 9 + 1) ∈ (chg ((z, v) :: r)).reverse := List.mem_reverse.mpr List.mem_cons_self
    exact ⟨rkEq_diff (rev_nd (chg_rk k)) m1 m2 ne, rkEq_diff k.nd m2 m1 (Ne.symm ne)⟩
theorem chg_put {z : Str} {v : Int} {r : List (Str × Int)} (k : Rk ((z, v) :: r)) : putK (sd ((z, v) :: r)) (.inr z) (.int (v % 9 + 1)) = sd (chg ((z, v) :: r)) := by
  rw [put_sd]
  have nd := List.nodup_cons.mp (show (z :: r.map (·.1)).Nodup from k.nd)
  have e : putS ((z, v) :: r) z (v % 9 + 1) = chg ((z, v) :: r) := by
    unfold putS
    rw [if_pos (by simp)]
    show (if z = z then (z, v % 9 + 1) else (z, v)) :: r.map (fun p => if p.1 = z then (p.1, v % 9 + 1) else p) = _
    rw [if_pos rfl]
    show _ = (z, v % 9 + 1) :: r
    congr 1
    conv => rhs; rw [← List.map_id r]
    refine List.map_congr_left fun p hp => ?_
    rw [if_neg fun e => nd.1 (by rw [← e]; exact List.mem_map.mpr ⟨p, hp, rfl⟩)]
    rfl
  rw [e]
theorem ok_chg {rk rk' : List (Str × Int)} {e : Evt} (ek : rk'.map (·.1) = rk.map (·.1)) (h : EvOK rk e) : EvOK rk' e := ⟨h.k0, h.d0, h.d1, fun m => ⟨by rw [ek]; exact (h.mw m).1, (h.mw m).2⟩, h.lw⟩
theorem evs_ext {H H' : Hp} {E : Addr} {es : List Evt} (h : EvsAt H H E es) (e : ExtN H H') : EvsAt H' H' E es := by
  obtain ⟨ts, h1, h2⟩ := h
  exact ⟨ts, e _ _ h1 nofun, paired_imp (fun _ _ h => evT_extN e h) h2⟩
theorem cut1 (xs : List V) : cutV xs none (some 1) = xs.take 1 := by
  unfold cutV HT.sIx
  simp only [show ¬ ((1 : Int) < 0) by decide, if_false, List.drop_zero, Nat.sub_zero]
  show xs.take (min 1 xs.length) = xs.take 1
  cases xs with
  | nil => rfl
  | cons a r =>
    rw [show min 1 (a :: r).length = 1 by rw [List.length_cons]; omega]
end LT
set_option Elab.async false
set_option linter.all false
set_option maxRecDepth 100000
set_option maxHeartbeats 1600000
set_option pp.maxSteps 300
namespace K63
open PySem PySem.Spec PyProof.Rows L2 LT NdefX LamX
section
variable {P : Program} {w : World} {K : PySem.W.Frag} {mg : Str → Option Value} {base : Heap}
theorem sc_Book___eq__ : FnScope ["self", "other"] ["self", "other"] (defScope s_Book___eq__) := ⟨rfl, rfl, rfl, by decide +kernel, rfl, by decide +kernel, by decide +kernel⟩
theorem ok_Book___eq__ (D : All K P mg) (TB : TBs D base) : FnOk P w K mg base CX0 10 D.f_Book___eq__ D.d_Book___eq__ ["self", "other"] (spBookEqA D.C_Book D.C_History (TLs D)) := by
  refine D.h_Book___eq__.fn.ok sc_Book___eq__ (fun vs H Q E h => ?_) (fun cdv A outer s H vs Q E hr h => ?_)
  · first | (obtain ⟨_, rfl, _⟩ := h; rfl) | (obtain ⟨_, _, rfl, _⟩ := h; rfl) | (obtain ⟨_, _, _, rfl, _⟩ := h; rfl) | (obtain ⟨_, _, _, _, rfl, _⟩ := h; rfl) | (obtain ⟨_, _, _, _, _, rfl, _⟩ := h; rfl) | (obtain ⟨_, _, _, _, _, _, rfl, _⟩ := h; rfl) | (obtain ⟨_, _, _, _, _, _, _, rfl, _⟩ := h; rfl) | (obtain ⟨_, _, _, _, _, _, _, _, rfl, _⟩ := h; rfl) | (obtain ⟨_, _, _, _, _, _, _, _, _, rfl, _⟩ := h; rfl) | (obtain ⟨_, _, _, _, _, _, _, _, _, _, rfl, _⟩ := h; rfl) | (obtain ⟨_, _, _, _, _, _, _, _, _, _, _, rfl, _⟩ := h; rfl) | (obtain ⟨_, _, _, _, _, _, _, _, _, _, _, _, rfl, _⟩ := h; rfl) | (obtain ⟨_, _, _, _, _, _, _, _, _, _, _, _, _, rfl, _⟩ := h; rfl) | (obtain ⟨_, _, _, _, _, _, _, _, _, _, _, _, _, _, rfl, _⟩ := h; rfl) | (obtain ⟨_, _, _, _, _, _, _, _, _, _, _, _, _, _, _, rfl, _⟩ := h; rfl)
  · have T := D.T
    have nd := sc_Book___eq__.nd
    have hu := hr.units
    have hu1 := hu_of hr
    have hu0 := hr.units0
    obtain ⟨b0, y0, rfl, h⟩ := h
    have I := D.I_Book
    refine ⟨_, pss_one (ps_ret (pe_and (pe_callB call_isi (by rfl) T.isi (by decide +kernel) (pa_cons (pv 1) (pa_cons (pe_glob (v := .ref D.C_Book) (by rfl) D.Z_Book.gl rfl) pa_nil))) (pe_and (pe_cmpR (op_eqDG hr.units0) (pe_fld (pv 0) rfl) (pe_fld (pv 1) rfl) (nomark _)) (pe_one (pe_cmpR (op_eqD hr.units) (pe_meth0 (pv 0) D.Z_Book.cl D.me_Book_entries (ok_Book_entries D TB) (hr.mono (by decide)) D.lb_Book_entries .nil pass0) (pe_meth0 (pv 1) D.Z_Book.cl D.me_Book_entries (ok_Book_entries D TB) (hr.mono (by decide)) D.lb_Book_entries .nil pass0) (nomark _)))))), ?_⟩
    rcases h with h | ⟨ho, q⟩
    rotate_left
    · obtain ⟨t, ht, hk⟩ := ho.kit I
      exact ⟨_, rfl, y0, .ref D.C_Book, t, _, false, rfl, .own _, ht, hk, _, rfl, iteF q⟩
    obtain ⟨b, c, rk, rk', es, es', fp, fp', e, W, W', hl, hl', TT, q⟩ := h
    cases e
    obtain ⟨dx, R, M, L, v, ix⟩ := W.ix
    obtain ⟨B, rfl, rfl, rfl, rfl, k1, _⟩ := id W
    obtain ⟨B', rfl, rfl, rfl, rfl, k1', _⟩ := id W'
    refine ⟨_, rfl, _, .ref D.C_Book, _, _, true, rfl, .own _, .base (.ins k1'.ix D.Z_Book.cl I.ha I.hn I.ht I.hm), I.own, _, rfl, ?_⟩
    refine iteT ⟨_, rfl, _, _, _, _, _, rfl, k1.ix, D.Z_Book.cl, D.n_Book_rank_of, rfl, _, rfl, _, _, _, _, _, rfl, k1'.ix, D.Z_Book.cl, D.n_Book_rank_of, rfl, ?_⟩
    refine ⟨_, _, _, _, rfl, rfl, k1.rd, k1'.rd, sd_flat _, sd_flat _, ?_⟩
    refine ⟨_, rfl, ?_⟩
    have q := q
    cases hr' : rkEq B.rk B'.rk with
    | false =>
      rw [hr'] at q
      rw [show dkEq (sd B.rk) (sd B'.rk) = false from hr']
      exact iteF (q H (ExtN.of (Same.refl _)) TT)
    | true =>
      rw [hr'] at q
      rw [show dkEq (sd B.rk) (sd B'.rk) = true from hr']
      refine iteT ?_
      refine ⟨_, rfl, B.b, B.dx, _, rfl, k1.ix, rfl, B.b, _, _, _, rfl, W, hl, TT, fun l ts L1 H1 new1 e1 T1 el1 p1 I1 => ?_⟩
      have W1 := W'.extN e1
      refine ⟨_, rfl, B'.b, B'.dx, _, rfl, e1 _ _ k1'.ix nofun, rfl, B'.b, _, _, _, rfl, W1, hl', T1, fun l2 ts2 L2' H2 new2 e2 T2 el2 p2 I2 => ?_⟩
      obtain rfl := I1.uniq (entW_is _)
      obtain rfl := I2.uniq (entW_is _)
      have st1 : ∀ e ∈ entW B.es, EvSt e := fun e he => evSt_of (fun z hz => by obtain ⟨p, hp, rfl⟩ := List.mem_map.mp hz; exact W.ev.1.nm p hp) (W.ev.2.2 e ((entW_is _).sub e he))
      have st2 : ∀ e ∈ entW B'.es, EvSt e := fun e he => evSt_of (fun z hz => by obtain ⟨p, hp, rfl⟩ := List.mem_map.mp hz; exact W'.ev.1.nm p hp) (W'.ev.2.2 e ((entW_is _).sub e he))
      refine ⟨_, _, .lst (SqL.of (e2 _ _ el1 nofun)) (ev_dp (paired_imp (fun _ _ k => evT_extN e2 k) p1) st1), .lst (SqL.of el2) (ev_dp p2 st2), shaped_ents st1, shaped_ents st2, ?_⟩
      have ee := eqv_entD st1 st2
      unfold entD at ee
      rw [ee]
      exact q H2 (e1.trans e2) T2
end
end K63
set_option Elab.async false
set_option linter.all false
set_option maxRecDepth 100000
set_option maxHeartbeats 1600000
set_option pp.maxSteps 300
namespace K63
open PySem PySem.Spec PyProof.Rows L2 LT NdefX LamX
section
variable {P : Program} {w : World} {K : PySem.W.Frag} {mg : Str → Option Value} {base : Heap}
theorem sc__law_pot : FnScope ["_law_script", "_law_k", "_law_cell"] ["_law_script", "_law_k"] (defScope s__law_pot) := ⟨rfl, rfl, rfl, by decide +kernel, rfl, by decide +kernel, by decide +kernel⟩
theorem ok__law_pot (D : All K P mg) : FnOk P w K mg base CX0 1 D.f__law_pot D.d__law_pot ["_law_script", "_law_k"] (spPot K) := by
  refine D.h__law_pot.fn.ok sc__law_pot (fun vs H Q E h => ?_) (fun cdv A outer s H vs Q E hr h => ?_)
  · first | (obtain ⟨_, rfl, _⟩ := h; rfl) | (obtain ⟨_, _, rfl, _⟩ := h; rfl) | (obtain ⟨_, _, _, rfl, _⟩ := h; rfl) | (obtain ⟨_, _, _, _, rfl, _⟩ := h; rfl) | (obtain ⟨_, _, _, _, _, rfl, _⟩ := h; rfl) | (obtain ⟨_, _, _, _, _, _, rfl, _⟩ := h; rfl) | (obtain ⟨_, _, _, _, _, _, _, rfl, _⟩ := h; rfl) | (obtain ⟨_, _, _, _, _, _, _, _, rfl, _⟩ := h; rfl) | (obtain ⟨_, _, _, _, _, _, _, _, _, rfl, _⟩ := h; rfl) | (obtain ⟨_, _, _, _, _, _, _, _, _, _, rfl, _⟩ := h; rfl) | (obtain ⟨_, _, _, _, _, _, _, _, _, _, _, rfl, _⟩ := h; rfl) | (obtain ⟨_, _, _, _, _, _, _, _, _, _, _, _, rfl, _⟩ := h; rfl) | (obtain ⟨_, _, _, _, _, _, _, _, _, _, _, _, _, rfl, _⟩ := h; rfl) | (obtain ⟨_, _, _, _, _, _, _, _, _, _, _, _, _, _, rfl, _⟩ := h; rfl) | (obtain ⟨_, _, _, _, _, _, _, _, _, _, _, _, _, _, _, rfl, _⟩ := h; rfl)
  · have T := D.T
    have nd := sc__law_pot.nd
    have hu := hr.units
    have hu1 := hu_of hr
    have hu0 := hr.units0
    obtain ⟨a, ns, k, rfl, hS, hk, q⟩ := h
    refine ⟨_, pss_cons (ps_set (i := 2) nd rfl (.inl rfl) (pe_op op_add (pe_op op_mul pe_int (pv 1)) pe_int))
      (pss_cons (ps_if (pt_cmpR op_lt (pv 1) (pe_callB call_len_seq (by rfl) T.len PySem.boot_len (pa_cons (pv 0) pa_nil)) (nomark _)) (pss_one (ps_set (i := 2) nd rfl (.inl rfl) (pe_ix ix_list (pv 0) (pv 1) (fun _ _ => rfl)))) pss_nil)
      (pss_one (ps_ret (pe_lst (pa_cons (pe_callB (call_max2 rfl) (by rfl) T.max (by decide +kernel) (pa_cons pe_int (pa_cons (pe_op op_sub (pe_callB call_abs (by rfl) T.abs (by decide +kernel) (pa_cons (pv 2) pa_nil)) (pe_op op_pow pe_int pe_int)) pa_nil))) (pa_cons (pe_op op_add (pe_op op_mod (pe_op op_mul (pe_op op_add (pe_op op_mod (pe_callB call_abs (by rfl) T.abs (by decide +kernel) (pa_cons (pv 2) pa_nil)) pe_int) pe_int) (pe_op op_pow (pe_op op_add (pv 1) pe_int) pe_int)) pe_int) pe_int) pa_nil)))))), ?_⟩
    refine ⟨_, rfl, _, _, rfl, rfl, .inl ⟨by decide, by decide⟩, _, _, rfl, rfl, ?_⟩
    refine ⟨_, rfl, _, rfl, a, _, rfl, .inl hS, _, _, rfl, rfl, _, rfl, ?_⟩
    apply joinA (α := Int) (J := fun z Hx => Hx = H) (sl := fun z => [some (.ref a), some (.int (k : Nat)), some (.int z)])
    · intro h
      refine ite2 (fun hlt => ?_) (fun _ => h _ H rfl)
      have hlt := of_decide_eq_true hlt
      rw [List.length_map] at hlt
      have hlt : k < ns.length := by omega
      refine ⟨_, rfl, _, rfl, a, _, (k : Nat), .int ns[k], rfl, rfl, hS, atI_nat (by rw [List.getElem?_map, List.getElem?_eq_getElem hlt]; rfl), ?_⟩
      exact h _ H rfl
    rintro z Hx rfl
    refine ⟨_, rfl, z, rfl, _, _, rfl, rfl, ⟨by decide, by decide, by decide⟩, _, _, rfl, rfl, 0, _, rfl, ?_⟩
    refine ⟨_, rfl, z, rfl, _, _, rfl, rfl, by show (0 : Int) < 2147483587; decide, _, _, rfl, rfl, ?_⟩
    generalize hA : (if z < 0 then -z else z) = za
    have m0 := Int.emod_nonneg za (show (2147483587 : Int) ≠ 0 by decide)
    have m1 := Int.emod_lt_of_pos za (show (0 : Int) < 2147483587 by decide)
    refine ⟨_, rfl, _, _, rfl, rfl, _, _, rfl, rfl, ⟨by decide, by decide, by omega⟩, _, _, rfl, rfl, .inl ⟨by omega, by omega⟩, _, _, rfl, rfl, by show (0 : Int) < 2147483563; decide, _, _, rfl, rfl, by show 2 ≤ sizeLine; decide, fun l nl => ?_⟩
    refine q l _ nl (same_upd nl) ⟨_, _, upd_same, by split <;> omega, ?_, ?_⟩
    · have := Int.emod_nonneg ((za % 2147483587 + 1) * ((k : Nat) + 2) ^ (5 : Int).toNat) (show (2147483563 : Int) ≠ 0 by decide)
      omega
    · have := Int.emod_lt_of_pos ((za % 2147483587 + 1) * ((k : Nat) + 2) ^ (5 : Int).toNat) (show (0 : Int) < 2147483563 by decide)
      omega
theorem sc__law_take : FnScope ["_law_pot_here", "_law_many", "_law_digit"] ["_law_pot_here", "_law_many"] (defScope s__law_take) := ⟨rfl, rfl, rfl, by decide +kernel, rfl, by decide +kernel, by decide +kernel⟩
theorem ok__law_take (D : All K P mg) : FnOk P w K mg base CX0 1 D.f__law_take D.d__law_take ["_law_pot_here", "_law_many"] spTakeW := by
  refine D.h__law_take.fn.ok sc__law_take (fun vs H Q E h => ?_) (fun cdv A outer s H vs Q E hr h => ?_)
  · first | (obtain ⟨_, rfl, _⟩ := h; rfl) | (obtain ⟨_, _, rfl, _⟩ := h; rfl) | (obtain ⟨_, _, _, rfl, _⟩ := h; rfl) | (obtain ⟨_, _, _, _, rfl, _⟩ := h; rfl) | (obtain ⟨_, _, _, _, _, rfl, _⟩ := h; rfl) | (obtain ⟨_, _, _, _, _, _, rfl, _⟩ := h; rfl) | (obtain ⟨_, _, _, _, _, _, _, rfl, _⟩ := h; rfl) | (obtain ⟨_, _, _, _, _, _, _, _, rfl, _⟩ := h; rfl) | (obtain ⟨_, _, _, _, _, _, _, _, _, rfl, _⟩ := h; rfl) | (obtain ⟨_, _, _, _, _, _, _, _, _, _, rfl, _⟩ := h; rfl) | (obtain ⟨_, _, _, _, _, _, _, _, _, _, _, rfl, _⟩ := h; rfl) | (obtain ⟨_, _, _, _, _, _, _, _, _, _, _, _, rfl, _⟩ := h; rfl) | (obtain ⟨_, _, _, _, _, _, _, _, _, _, _, _, _, rfl, _⟩ := h; rfl) | (obtain ⟨_, _, _, _, _, _, _, _, _, _, _, _, _, _, rfl, _⟩ := h; rfl) | (obtain ⟨_, _, _, _, _, _, _, _, _, _, _, _, _, _, _, rfl, _⟩ := h; rfl)
  · have T := D.T
    have nd := sc__law_take.nd
    have hu := hr.units
    have hu1 := hu_of hr
    have hu0 := hr.units0
    obtain ⟨p, r, rfl, ⟨a, b, hp, a0, b0, bB⟩, r0, r1, q⟩ := h
    refine ⟨_, pss_cons (ps_if (pt_cmpR op_gt (pe_ix ix_list (pv 0) pe_int (fun _ _ => rfl)) pe_int (nomark _)) (pss_cons (ps_asg (pe_callB call_divmodW (by rfl) T.divmod (by decide +kernel) (pa_cons (pe_ix ix_list (pv 0) pe_int (fun _ _ => rfl)) (pa_cons (pv 1) pa_nil))) (pg_tup rfl (pgs_cons (pg_sub (pv 0) pe_int set_list) (pgs_cons (pg_name (i := 2) nd rfl (Or.inl rfl)) pgs_nil))))
      (pss_one (ps_ret (pv 2)))) pss_nil)
      (pss_cons (ps_asg (pe_op op_mod (pe_op op_add (pe_op op_mul (pe_ix ix_list (pv 0) pe_int (fun _ _ => rfl)) pe_int) pe_int) pe_int) (pg_sub (pv 0) pe_int set_list))
      (pss_one (ps_ret (pe_op op_mod (pe_op op_fdiv (pe_op op_mod (pe_op op_mul (pe_ix ix_list (pv 0) pe_int (fun _ _ => rfl)) (pe_ix ix_list (pv 0) pe_int (fun _ _ => rfl))) pe_int) pe_int) (pv 1))))), ?_⟩
    refine ⟨_, rfl, p, _, 0, _, rfl, rfl, SqL.of hp, atI_nat (j := 0) rfl, _, _, rfl, rfl, _, rfl, ite2 (fun h => ?_) (fun h => ?_)⟩
    · have ha : 0 < a := of_decide_eq_true h
      refine ⟨_, rfl, p, _, 0, _, rfl, rfl, SqL.of hp, atI_nat (j := 0) rfl, _, rfl, a, r, rfl, ⟨r0, nopy61 r0 r1⟩, fun t nt => ?_⟩
      have npt : p ≠ t := ne_of_none hp nt
      have hp2 : (upd H t (.tup [.int (a / r), .int (a % r)])) p = some (.lst [.int a, .int b]) := by
        rw [upd_ne npt]
        exact hp
      refine ⟨t, _, rfl, SqT.of upd_same, rfl, _, _, rfl, ?_⟩
      refine ⟨_, rfl, p, _, 0, 0, rfl, rfl, hp2, rfl, _, _, rfl, rfl, ?_⟩
      refine ⟨_, rfl, q _ _ (Int.emod_nonneg _ (by omega)) (Int.emod_lt_of_pos _ r0) ⟨_, _, upd_same, Int.ediv_nonneg a0 (by omega), b0, bB⟩ (SameB.upd (SameB.new nt (SameB.of (Same.refl H))))⟩
    · refine ⟨_, rfl, p, _, 1, _, rfl, rfl, SqL.of hp, atI_nat (j := 1) rfl, _, _, rfl, rfl, .inl ⟨by omega, by omega⟩, _, _, rfl, rfl, _, _, rfl, rfl, by show (0 : Int) < 2147483579; decide, ?_⟩
      refine ⟨_, rfl, p, _, 1, 1, rfl, rfl, hp, rfl, ?_⟩
      have n0 := Int.emod_nonneg (b * 48271 + 12347) (show (2147483579 : Int) ≠ 0 by decide)
      have n1 := Int.emod_lt_of_pos (b * 48271 + 12347) (show (0 : Int) < 2147483579 by decide)
      refine ⟨_, rfl, p, _, 1, _, rfl, rfl, SqL.of upd_same, atI_nat (j := 1) rfl, _, rfl, p, _, 1, _, rfl, rfl, SqL.of upd_same, atI_nat (j := 1) rfl, _, _, rfl, rfl, .inl ⟨by omega, by omega⟩, ?_⟩
      refine ⟨_, _, rfl, rfl, by show (0 : Int) < 2147483549; decide, _, _, rfl, rfl, ⟨by decide, by decide⟩, _, rfl, _, _, rfl, rfl, r0, ?_⟩
      exact q _ _ (Int.emod_nonneg _ (by omega)) (Int.emod_lt_of_pos _ r0) ⟨_, _, upd_same, a0, n0, by omega⟩ (SameB.upd (SameB.of (Same.refl H)))
theorem sc__law_far : FnScope ["_law_pot_here", "_law_found", "_law_k"] ["_law_pot_here"] (defScope s__law_far) := ⟨rfl, rfl, rfl, by decide +kernel, rfl, by decide +kernel, by decide +kernel⟩
theorem ok__law_far (D : All K P mg) : FnOk P w K mg base CX0 2 D.f__law_far D.d__law_far ["_law_pot_here"] spFarB := by
  refine D.h__law_far.fn.ok sc__law_far (fun vs H Q E h => ?_) (fun cdv A outer s H vs Q E hr h => ?_)
  · first | (obtain ⟨_, rfl, _⟩ := h; rfl) | (obtain ⟨_, _, rfl, _⟩ := h; rfl) | (obtain ⟨_, _, _, rfl, _⟩ := h; rfl) | (obtain ⟨_, _, _, _, rfl, _⟩ := h; rfl) | (obtain ⟨_, _, _, _, _, rfl, _⟩ := h; rfl) | (obtain ⟨_, _, _, _, _, _, rfl, _⟩ := h; rfl) | (obtain ⟨_, _, _, _, _, _, _, rfl, _⟩ := h; rfl) | (obtain ⟨_, _, _, _, _, _, _, _, rfl, _⟩ := h; rfl) | (obtain ⟨_, _, _, _, _, _, _, _, _, rfl, _⟩ := h; rfl) | (obtain ⟨_, _, _, _, _, _, _, _, _, _, rfl, _⟩ := h; rfl) | (obtain ⟨_, _, _, _, _, _, _, _, _, _, _, rfl, _⟩ := h; rfl) | (obtain ⟨_, _, _, _, _, _, _, _, _, _, _, _, rfl, _⟩ := h; rfl) | (obtain ⟨_, _, _, _, _, _, _, _, _, _, _, _, _, rfl, _⟩ := h; rfl) | (obtain ⟨_, _, _, _, _, _, _, _, _, _, _, _, _, _, rfl, _⟩ := h; rfl) | (obtain ⟨_, _, _, _, _, _, _, _, _, _, _, _, _, _, _, rfl, _⟩ := h; rfl)
  · have T := D.T
    have nd := sc__law_far.nd
    have hu := hr.units
    have hu1 := hu_of hr
    have hu0 := hr.units0
    obtain ⟨p, rfl, hp, q⟩ := h
    refine ⟨_, pss_cons (ps_if (pt_cmpR op_gt (pe_call (ok__law_take D) (hr.mono (by decide)) (by rfl) D.h__law_take.gl D.h__law_take.fn.kp D.h__law_take.bd .nil pass0 (pa_cons (pv 0) (pa_cons pe_int pa_nil))) pe_int (nomark _)) (pss_one (ps_ret pe_int)) pss_nil)
      (pss_cons (ps_set (i := 1) nd rfl (.inl rfl) pe_int)
      (pss_cons (ps_for PassesOwn.never rfl (pi_range1 (by rfl) T.range (pa_cons pe_int pa_nil)) (pg_name (i := 2) nd rfl (Or.inl rfl)) (pss_one (ps_set (i := 1) nd rfl (.inl rfl) (pe_op op_add (pe_op op_mul (pv 1) (pe_op op_pow pe_int pe_int)) (pe_call (ok__law_take D) (hr.mono (by decide)) (by rfl) D.h__law_take.gl D.h__law_take.fn.kp D.h__law_take.bd .nil pass0 (pa_cons (pv 0) (pa_cons (pe_op op_pow pe_int pe_int) pa_nil)))))))
      (pss_one (ps_ret (pv 1))))), ?_⟩
    refine ⟨_, rfl, p, 3, rfl, hp, by decide, by decide, fun d H1 d0 d1 hp1 s1 => ⟨_, _, rfl, rfl, _, rfl, ite2 (fun h => q 0 H1 (by decide) (by decide) hp1 s1) (fun h => ?_)⟩⟩
    refine ⟨_, rfl, by decide, by decide, for_range (lo := 0) (n := 6) (fun i σ H' => ∃ (m : Int) (x2 : Option V), σ = [some (.ref p), some (.int m), x2] ∧ 0 ≤ m ∧ m < 10 ^ (9 * i) ∧ Pot H' p ∧ SameB p H H') ⟨0, none, rfl, by decide, by decide, hp1, s1⟩ ?_ ?_⟩
    · rintro i σ H2 hi ⟨m, x2, rfl, m0, m1, hp2, s2⟩
      refine ⟨_, rfl, _, _, rfl, rfl, ⟨by decide, by decide, by decide⟩, _, _, rfl, rfl, .inr ⟨by decide, by decide⟩, ?_⟩
      refine ⟨_, rfl, _, _, rfl, rfl, ⟨by decide, by decide, by decide⟩, p, _, rfl, hp2, by decide, by decide, fun e H3 e0 e1 hp3 s3 => ?_⟩
      have e1 : e < 1000000000 := e1
      refine ⟨_, _, rfl, rfl, _, _, rfl, ?_, ?_, hp3, s2.trans s3⟩
      · show 0 ≤ m * 1000000000 + e
        omega
      · show m * 1000000000 + e < 10 ^ (9 * (i + 1))
        rw [Nat.mul_add, Int.pow_add]
        show m * 1000000000 + e < 10 ^ (9 * i) * 1000000000
        omega
    · rintro σ H2 ⟨m, x2, rfl, m0, m1, hp2, s2⟩
      exact ⟨_, rfl, q m H2 m0 m1 hp2 s2⟩
theorem sc__law_names : FnScope ["_law_pot_here", "_law_many", "_law_letters", "_law_found", "_law_k", "_law_name", "_law_at", "_law_j"] ["_law_pot_here", "_law_many"] (defScope s__law_names) := ⟨rfl, rfl, rfl, by decide +kernel, rfl, by decide +kernel, by decide +kernel⟩
theorem ok__law_names (D : All K P mg) : FnOk P w K mg base CX0 2 D.f__law_names D.d__law_names ["_law_pot_here", "_law_many"] spNamesD := by
  refine D.h__law_names.fn.ok sc__law_names (fun vs H Q E h => ?_) (fun cdv A outer s H vs Q E hr h => ?_)
  · first | (obtain ⟨_, rfl, _⟩ := h; rfl) | (obtain ⟨_, _, rfl, _⟩ := h; rfl) | (obtain ⟨_, _, _, rfl, _⟩ := h; rfl) | (obtain ⟨_, _, _, _, rfl, _⟩ := h; rfl) | (obtain ⟨_, _, _, _, _, rfl, _⟩ := h; rfl) | (obtain ⟨_, _, _, _, _, _, rfl, _⟩ := h; rfl) | (obtain ⟨_, _, _, _, _, _, _, rfl, _⟩ := h; rfl) | (obtain ⟨_, _, _, _, _, _, _, _, rfl, _⟩ := h; rfl) | (obtain ⟨_, _, _, _, _, _, _, _, _, rfl, _⟩ := h; rfl) | (obtain ⟨_, _, _, _, _, _, _, _, _, _, rfl, _⟩ := h; rfl) | (obtain ⟨_, _, _, _, _, _, _, _, _, _, _, rfl, _⟩ := h; rfl) | (obtain ⟨_, _, _, _, _, _, _, _, _, _, _, _, rfl, _⟩ := h; rfl) | (obtain ⟨_, _, _, _, _, _, _, _, _, _, _, _, _, rfl, _⟩ := h; rfl) | (obtain ⟨_, _, _, _, _, _, _, _, _, _, _, _, _, _, rfl, _⟩ := h; rfl) | (obtain ⟨_, _, _, _, _, _, _, _, _, _, _, _, _, _, _, rfl, _⟩ := h; rfl)
  · have T := D.T
    have nd := sc__law_names.nd
    have hu := hr.units
    have hu1 := hu_of hr
    have hu0 := hr.units0
    obtain ⟨p, m, rfl, hp, m0, m1, q⟩ := h
    refine ⟨_, pss_cons (ps_set (i := 2) nd rfl (.inr rfl) pe_str)
      (pss_cons (ps_set (i := 3) nd rfl (.inl rfl) (pe_lst pa_nil))
      (pss_cons (ps_for PassesOwn.never rfl (pi_range1 (by rfl) T.range (pa_cons (pv 1) pa_nil)) (pg_name (i := 4) nd rfl (Or.inl rfl)) (pss_cons (ps_set (i := 5) nd rfl (.inl rfl) (pe_join pe_str (pe_lc (own := [("_law_j", 7)]) (g := gName 7) (tt := tYes) rfl nd (pi_range1 (by rfl) T.range (pa_cons (pe_op op_add pe_int (pe_call (ok__law_take D) (hr.mono (by decide)) (by rfl) D.h__law_take.gl D.h__law_take.fn.kp D.h__law_take.bd .nil pass0 (pa_cons (pv 0) (pa_cons pe_int pa_nil)))) pa_nil)) (blkOk_by (N := ["_law_pot_here", "_law_many", "_law_letters", "_law_found", "_law_k", "_law_name", "_law_at", "_law_j"]) (sc := defScope s__law_names) (by decide +kernel)) (fun _ _ _ _ _ => (pg_name (i := 7) nd rfl (Or.inl rfl))) (fun _ _ _ _ _ => pts_nil) (fun _ _ _ _ _ => (pe_ix ix_str (pv 2) (pe_call (ok__law_take D) (hr.mono (by decide)) (by rfl) D.h__law_take.gl D.h__law_take.fn.kp D.h__law_take.bd .nil pass0 (pa_cons (pv 0) (pa_cons pe_int pa_nil))) (fun _ _ => rfl))))))
      (pss_cons (ps_if (PW.pt (pw_and (pt_cmpR (op_neNil hu) (pv 3) (pe_lst pa_nil) (nomark _)) (pw_and1 (pt_cmpR op_eq (pe_call (ok__law_take D) (hr.mono (by decide)) (by rfl) D.h__law_take.gl D.h__law_take.fn.kp D.h__law_take.bd .nil pass0 (pa_cons (pv 0) (pa_cons pe_int pa_nil))) pe_int (nomark _))))) (pss_cons (ps_set (i := 6) nd rfl (.inl rfl) (pe_call (ok__law_take D) (hr.mono (by decide)) (by rfl) D.h__law_take.gl D.h__law_take.fn.kp D.h__law_take.bd .nil pass0 (pa_cons (pv 0) (pa_cons (pe_callB call_len_str (by rfl) T.len PySem.boot_len (pa_cons (pe_ix ix_list (pv 3) pe_int (fun _ _ => rfl)) pa_nil)) pa_nil))))
      (pss_one (ps_set (i := 5) nd rfl (.inl rfl) (pe_op op_add_str (pe_op op_add_str (pe_slice sl_str (pe_ix ix_list (pv 3) pe_int (fun _ _ => rfl)) po_none (po_some (pv 6))) (pe_ix ix_str (pv 2) (pe_call (ok__law_take D) (hr.mono (by decide)) (by rfl) D.h__law_take.gl D.h__law_take.fn.kp D.h__law_take.bd .nil pass0 (pa_cons (pv 0) (pa_cons pe_int pa_nil))) (fun _ _ => rfl))) (pe_slice sl_str (pe_ix ix_list (pv 3) pe_int (fun _ _ => rfl)) (po_some (pe_op op_add (pv 6) pe_int)) po_none))))) pss_nil)
      (pss_cons (ps_for PassesOwn.never rfl (pi_range1 (by rfl) T.range (pa_cons pe_int pa_nil)) (pg_name (i := 7) nd rfl (Or.inl rfl)) (pss_one (ps_if (pt_cmpR op_in_seq (pv 5) (pv 3) (by rfl)) (pss_one (ps_set (i := 5) nd rfl (.inl rfl) (pe_op op_add_str (pe_op op_add_str pe_str (pe_ix ix_str (pv 2) (pe_op op_fdiv (pv 7) pe_int) (fun _ _ => rfl))) (pe_ix ix_str (pv 2) (pe_op op_mod (pv 7) pe_int) (fun _ _ => rfl))))) pss_nil)))
      (pss_one (ps_expr (pe_bm PySem.F.plainAttrs_list PySem.F.slot_list_append PySem.F.type_list_append mt_append (pv 3) (pa_cons (pv 5) pa_nil))))))))
      (pss_one (ps_ret (pv 3))))), ?_⟩
    have le0 : (Str.ofString "").length = 0 := by decide +kernel
    refine ⟨by show 0 ≤ sizeLine; decide, fun L nL => ?_⟩
    have nLp := hp.ne nL
    have hp1 := hp.upd (o := .lst []) nLp
    have eL1 := upd_same (H := H) (a := L) (o := .lst [])
    have s1 : SameB p H (L2.upd H L (.lst [])) := SameB.of (same_upd nL)
    generalize L2.upd H L (.lst []) = H1 at *
    refine ⟨_, rfl, m, rfl, by omega, by omega, for_range (lo := 0) (n := m.toNat) (fun i σ H' => ∃ (zs : List Str) (x4 x5 x6 x7 : Option V), σ = [some (.ref p), some (.int m), some (.str (Str.ofString "abcdefghijklmnopqrstuvwxyz")), some (.ref L), x4, x5, x6, x7] ∧ zs.length = i ∧ Names zs ∧ H' L = some (.lst (zs.map V.str)) ∧ Pot H' p ∧ SameB p H H')
      ⟨[], none, none, none, none, rfl, rfl, Names.nil, eL1, hp1, s1⟩ ?_ ?_⟩
    · rintro i σ H2 hi ⟨zs, x4, x5, x6, x7, rfl, hzl, hzs, eL2, hp2, s2⟩
      refine ⟨⟨_, rfl⟩, _, rfl, p, 8, rfl, hp2, by decide, by decide, fun d H3 d0 d1 hp3 s3 => ?_⟩
      refine ⟨1, d, rfl, rfl, 1 + d, rfl, by omega, by omega, fun F nF => ?_⟩
      have nFp := hp3.ne nF
      have eL3 := s3 L _ nLp eL2
      have nLF : L ≠ F := ne_of_none eL3 nF
      have s23 := s2.trans s3
      refine lc_range (lo := 0) (n := (1 + d).toNat) (fun i H' => Pot H' p ∧ SameB p H H' ∧ H' L = some (.lst (zs.map V.str)) ∧ ∃ ys : List Str, ys.length = i ∧ (∀ y ∈ ys, y.length = 1 ∧ ∀ c ∈ y.cps.toList, small c = true) ∧ H' F = some (.lst (ys.map V.str)))
        ⟨hp3.upd nFp, SameB.new (s23.none hp3 nF) s23, by rw [upd_ne nLF]; exact eL3, [], rfl, fun y hy => absurd hy List.not_mem_nil, upd_same⟩ ?_ ?_
      · rintro j H4 hj ⟨hp4, s4, eL4, ys, hl, hy, eF⟩
        refine ⟨rfl, ?_⟩
        refine ⟨_, rfl, _, rfl, p, 26, rfl, hp4, by decide, by decide, fun e H5 e0 e1 hp5 s5 => ?_⟩
        obtain ⟨c, hc, lc, _⟩ := at_small26 e0 e1
        have eF5 := s5 F _ nFp eF
        refine ⟨_, e, c, rfl, rfl, by decide +kernel, hc, _, eF5, ?_, hp5.upd nFp, SameB.new (s23.none hp3 nF) (s4.trans s5), ?_, ys ++ [⟨#[c]⟩], ?_, ?_, ?_⟩
        · rw [List.length_map, hl]
          exact small2k (by omega)
        · rw [upd_ne nLF]
          exact s5 _ _ nLp eL4
        · rw [List.length_append, hl]
          rfl
        · intro y hm
          rcases List.mem_append.mp hm with h | h
          · exact hy y h
          · obtain rfl := List.mem_singleton.mp h
            refine ⟨rfl, fun x hx => ?_⟩
            obtain rfl : x = c := by simpa using hx
            exact lc
        · rw [upd_same, List.map_append]
          rfl
      · rintro H4 ⟨hp4, s4, eL4, ys, hl, hy, eF⟩
        have h1 : ∀ y ∈ ys, y.length = 1 := fun y h => (hy y h).1
        have ec := join_codes ys
        have el : (Txt.join (Str.ofString "") ys).length = (1 + d).toNat := by
          show (Txt.join (Str.ofString "") ys).cps.size = _
          rw [← Array.length_toList, ec, flat_len ys h1, hl]
        have hnm : Nm (Txt.join (Str.ofString "") ys) := by
          refine ⟨by omega, by omega, fun c hc => ?_⟩
          rw [ec] at hc
          obtain ⟨l, h2, h3⟩ := List.mem_flatten.mp hc
          obtain ⟨y, h4, rfl⟩ := List.mem_map.mp h2
          exact (hy y h4).2 c h3
        refine ⟨_, F, ys, rfl, rfl, .inl (SqL.of eF), ?_, ?_⟩
        · rw [sum_len ys h1, hl, le0]
          omega
        generalize Txt.join (Str.ofString "") ys = z at hnm
        apply joinA (α := Str × Option V) (J := fun a Hx => Nm a.1 ∧ Pot Hx p ∧ SameB p H Hx ∧ Hx L = some (.lst (zs.map V.str)))
          (sl := fun a => [some (.ref p), some (.int m), some (.str (Str.ofString "abcdefghijklmnopqrstuvwxyz")), some (.ref L), some (.int (0 + (i : Nat))), some (.str a.1), a.2, x7])
        · intro h
          refine ⟨_, rfl, by show 0 ≤ sizeLine; decide, fun k nk => ?_⟩
          have nkp := hp4.ne nk
          have nLk : L ≠ k := ne_of_none eL4 nk
          have hp5 := hp4.upd (o := .lst []) nkp
          have s5 : SameB p H (L2.upd H4 k (.lst [])) := SameB.new (s4.none hp4 nk) s4
          have eL5 : L2.upd H4 k (.lst []) L = some (.lst (zs.map V.str)) := by rw [upd_ne nLk]; exact eL4
          have ek5 := upd_same (H := H4) (a := k) (o := .lst [])
          generalize L2.upd H4 k (.lst []) = H5 at *
          refine ⟨L, k, _, rfl, rfl, eL5, ek5, _, rfl, ?_⟩
          cases hz0l : zs[0]? with
          | none =>
            have e : (!(zs.map V.str).isEmpty) = false := by
              rw [List.getElem?_eq_none_iff] at hz0l
              rw [List.length_eq_zero_iff.mp (Nat.le_zero.mp hz0l)]
              rfl
            rw [e]
            exact iteF (iteF (h (z, x6) H5 ⟨hnm, hp5, s5, eL5⟩))
          | some z0 =>
            have e : (!(zs.map V.str).isEmpty) = true := by
              have := (List.getElem?_eq_some_iff.mp hz0l).1
              rw [Bool.not_eq_true', List.isEmpty_eq_false_iff]
              intro e
              rw [List.map_eq_nil_iff] at e
              rw [e] at this
              cases this
            rw [e]
            refine iteT ⟨_, rfl, p, 3, rfl, hp5, by decide, by decide, fun e H6 e0 e1 hp6 s6 => ⟨rfl, _, rfl, ?_⟩⟩
            have eL6 := s6 L _ nLp eL5
            have s56 := s5.trans s6
            refine ite2 (fun _ => ?_) (fun _ => h (z, x6) H6 ⟨hnm, hp6, s56, eL6⟩)
            have hz0 := hzs.nm z0 (List.mem_of_getElem? hz0l)
            have z8 := hz0.l8
            have z1 := hz0.l1
            have hat : atI (zs.map V.str) 0 = some (.str z0) := atI_nat (j := 0) (by rw [List.getElem?_map, hz0l]; rfl)
            refine ⟨_, rfl, _, rfl, L, _, 0, .str z0, rfl, rfl, SqL.of eL6, hat, z0, rfl, small_txt (by omega), p, (z0.length : Nat), rfl, hp6, by omega, by omega, fun t H7 t0 t1 hp7 s7 => ?_⟩
            have eL7 := s7 L _ nLp eL6
            refine ⟨_, rfl, L, _, 0, .str z0, rfl, rfl, SqL.of eL7, hat, _, rfl, _, rfl, z0, rfl, small_txt (by omega), ?_⟩
            refine ⟨_, rfl, _, rfl, p, 26, rfl, hp7, by decide, by decide, fun e H8 e0 e1 hp8 s8 => ?_⟩
            have eL8 := s8 L _ nLp eL7
            obtain ⟨c, hc, lc, _⟩ := at_small26 e0 e1
            have c1 := cutS_length z0 none (some t)
            have c2 := cutS_length z0 (some (t + 1)) none
            have l1 : (⟨#[c]⟩ : Str).length = 1 := rfl
            refine ⟨_, e, c, rfl, rfl, by decide +kernel, hc, _, _, rfl, rfl, small_txt (by omega), ?_⟩
            refine ⟨_, rfl, L, _, 0, .str z0, rfl, rfl, SqL.of eL8, hat, _, rfl, _, _, rfl, rfl, _, rfl, z0, rfl, small_txt (by omega), _, _, rfl, rfl, small_txt (by rw [str_app_len]; omega), ?_⟩
            refine h (_, some (.int t)) H8 ⟨?_, hp8, s56.trans (s7.trans s8), eL8⟩
            show Nm (cutS z0 none (some t) ++ (⟨#[c]⟩ : Str) ++ cutS z0 (some (t + 1)) none)
            rw [turned_eq t0]
            exact nm_turned hz0 (by omega) lc
        rintro ⟨z', x6'⟩ H5 ⟨hnm5, hp5, s5, eL5⟩
        refine ⟨_, rfl, by decide, by decide, for_range (lo := 0) (n := 676) (fun j σ H' => H' = H5 ∧ ∃ (y : Str) (x7' : Option V), σ = [some (.ref p), some (.int m), some (.str (Str.ofString "abcdefghijklmnopqrstuvwxyz")), some (.ref L), some (.int (0 + (i : Nat))), some (.str y), x6', x7'] ∧ Nm y ∧ (y ∈ zs → ∀ k, k < j → cand k ∈ zs))
          ⟨rfl, z', x7, rfl, hnm5, fun _ k hk => absurd hk (Nat.not_lt_zero _)⟩ ?_ ?_⟩
        · rintro j σ H6 hj ⟨rfl, y, x7', rfl, hy, hc⟩
          refine ⟨_, rfl, _, rfl, L, _, rfl, .inl (SqL.of eL5), rfl, strs_flat zs, _, rfl, ?_⟩
          rw [inV_dec]
          refine ite2 (fun hm => ?_) (fun hm => ?_)
          · have hm := of_decide_eq_true hm
            have j0 : (0 : Int) + ((j : Nat) : Int) = (j : Nat) := by omega
            rw [j0]
            obtain ⟨c, hc1, _, hc3⟩ := at_small26 (d := ((j : Nat) : Int) / 26) (by omega) (by omega)
            obtain ⟨e, he1, _, he3⟩ := at_small26 (d := ((j : Nat) : Int) % 26) (by omega) (by omega)
            have q1 : (Str.ofString "q").length = 1 := by decide +kernel
            have l1 : (⟨#[c]⟩ : Str).length = 1 := rfl
            have l2 : (⟨#[e]⟩ : Str).length = 1 := rfl
            refine ⟨_, rfl, _, rfl, _, _, rfl, rfl, ⟨by decide, by decide⟩, _, _, c, rfl, rfl, by decide +kernel, hc1, _, _, rfl, rfl, small_txt (by omega), ?_⟩
            refine ⟨_, rfl, _, rfl, _, _, rfl, rfl, by show (0 : Int) < 26; decide, _, _, e, rfl, rfl, by decide +kernel, he1, _, _, rfl, rfl, small_txt (by rw [str_app_len]; omega), ?_⟩
            refine ⟨rfl, Str.ofString "q" ++ (⟨#[c]⟩ : Str) ++ (⟨#[e]⟩ : Str), _, rfl, ?_⟩
            rw [cand_eq hc3 he3]
            refine ⟨cand_nm (by omega), fun hin k hk => ?_⟩
            rcases Nat.lt_succ_iff_lt_or_eq.mp hk with h | h
            · exact hc hm k h
            · rw [h]
              exact hin
          · exact ⟨rfl, y, _, rfl, hy, fun h => absurd (decide_eq_true h) hm⟩
        · rintro σ H6 ⟨rfl, y, x7', rfl, hy, hc⟩
          have hout : y ∉ zs := fun h => by
            have := cand_few (hc h)
            omega
          refine ⟨_, rfl, .inl ⟨rfl, _, SqL.of eL5⟩, _, rfl, L, _, _, rfl, rfl, eL5, by rw [List.length_map]; exact small2k (by omega), ?_⟩
          refine ⟨zs ++ [y], _, _, _, _, rfl, by rw [List.length_append, hzl]; rfl, hzs.snoc hy hout, ?_, hp5.upd nLp, SameB.new nL s5⟩
          rw [upd_same, List.map_append]
          rfl
    · rintro σ H2 ⟨zs, x4, x5, x6, x7, rfl, hzl, hzs, eL2, hp2, s2⟩
      exact ⟨_, rfl, q L zs H2 nL eL2 hzs hzl hp2 s2⟩
theorem sc__law_plan : FnScope ["_law_pot_here", "_law_most", "_law_names_here", "_law_ranks", "_law_lights", "_law_far_here", "_law_first", "_law_name"] ["_law_pot_here", "_law_most"] (defScope s__law_plan) := ⟨rfl, rfl, rfl, by decide +kernel, rfl, by decide +kernel, by decide +kernel⟩
theorem ok__law_plan (D : All K P mg) : FnOk P w K mg base CX0 3 D.f__law_plan D.d__law_plan ["_law_pot_here", "_law_most"] (spPlanK) := by
  refine D.h__law_plan.fn.ok sc__law_plan (fun vs H Q E h => ?_) (fun cdv A outer s H vs Q E hr h => ?_)
  · first | (obtain ⟨_, rfl, _⟩ := h; rfl) | (obtain ⟨_, _, rfl, _⟩ := h; rfl) | (obtain ⟨_, _, _, rfl, _⟩ := h; rfl) | (obtain ⟨_, _, _, _, rfl, _⟩ := h; rfl) | (obtain ⟨_, _, _, _, _, rfl, _⟩ := h; rfl) | (obtain ⟨_, _, _, _, _, _, rfl, _⟩ := h; rfl) | (obtain ⟨_, _, _, _, _, _, _, rfl, _⟩ := h; rfl) | (obtain ⟨_, _, _, _, _, _, _, _, rfl, _⟩ := h; rfl) | (obtain ⟨_, _, _, _, _, _, _, _, _, rfl, _⟩ := h; rfl) | (obtain ⟨_, _, _, _, _, _, _, _, _, _, rfl, _⟩ := h; rfl) | (obtain ⟨_, _, _, _, _, _, _, _, _, _, _, rfl, _⟩ := h; rfl) | (obtain ⟨_, _, _, _, _, _, _, _, _, _, _, _, rfl, _⟩ := h; rfl) | (obtain ⟨_, _, _, _, _, _, _, _, _, _, _, _, _, rfl, _⟩ := h; rfl) | (obtain ⟨_, _, _, _, _, _, _, _, _, _, _, _, _, _, rfl, _⟩ := h; rfl) | (obtain ⟨_, _, _, _, _, _, _, _, _, _, _, _, _, _, _, rfl, _⟩ := h; rfl)
  · have T := D.T
    have nd := sc__law_plan.nd
    have hu := hr.units
    have hu1 := hu_of hr
    have hu0 := hr.units0
    obtain ⟨p, m, rfl, hp, m0, m1, q⟩ := h
    refine ⟨_, pss_cons (ps_set (i := 2) nd rfl (.inl rfl) (pe_call (ok__law_names D) (hr.mono (by decide)) (by rfl) D.h__law_names.gl D.h__law_names.fn.kp D.h__law_names.bd .nil pass0 (pa_cons (pv 0) (pa_cons (pe_call (ok__law_take D) (hr.mono (by decide)) (by rfl) D.h__law_take.gl D.h__law_take.fn.kp D.h__law_take.bd .nil pass0 (pa_cons (pv 0) (pa_cons (pe_op op_add (pv 1) pe_int) pa_nil))) pa_nil))))
      (pss_cons (ps_set (i := 3) nd rfl (.inl rfl) (pe_callTy (call_dictP rfl) (by rfl) T.dict (by decide +kernel) (pa_cons (pe_lc (own := [("_law_name", 7)]) (g := gName 7) (tt := tYes) rfl nd (pi_list (pv 2)) (blkOk_by (N := ["_law_pot_here", "_law_most", "_law_names_here", "_law_ranks", "_law_lights", "_law_far_here", "_law_first", "_law_name"]) (sc := defScope s__law_plan) (by decide +kernel)) (fun _ _ _ _ _ => (pg_name (i := 7) nd rfl (Or.inl rfl))) (fun _ _ _ _ _ => pts_nil) (fun _ _ _ _ _ => (pe_tup (pa_cons (pv 7) (pa_cons (pe_op op_add pe_int (pe_call (ok__law_take D) (hr.mono (by decide)) (by rfl) D.h__law_take.gl D.h__law_take.fn.kp D.h__law_take.bd .nil pass0 (pa_cons (pv 0) (pa_cons (pe_ix (show IxR _ (rIxL K) from ix_list) (pe_lst (pa_cons pe_int (pa_cons pe_int pa_nil))) (pe_call (ok__law_take D) (hr.mono (by decide)) (by rfl) D.h__law_take.gl D.h__law_take.fn.kp D.h__law_take.bd .nil pass0 (pa_cons (pv 0) (pa_cons pe_int pa_nil))) (fun _ _ => rfl)) pa_nil)))) pa_nil))))) pa_nil)))
      (pss_cons (ps_set (i := 4) nd rfl (.inl rfl) (pe_call (ok__law_names D) (hr.mono (by decide)) (by rfl) D.h__law_names.gl D.h__law_names.fn.kp D.h__law_names.bd .nil pass0 (pa_cons (pv 0) (pa_cons (pe_op op_add pe_int (pe_call (ok__law_take D) (hr.mono (by decide)) (by rfl) D.h__law_take.gl D.h__law_take.fn.kp D.h__law_take.bd .nil pass0 (pa_cons (pv 0) (pa_cons pe_int pa_nil)))) pa_nil))))
      (pss_cons (ps_par (i := 5) (j := 6) (by rfl) nd rfl rfl (by decide) rfl rfl (pa_cons (pe_call (ok__law_far D) (hr.mono (by decide)) (by rfl) D.h__law_far.gl D.h__law_far.fn.kp D.h__law_far.bd .nil pass0 (pa_cons (pv 0) pa_nil)) (pa_cons (pe_call (ok__law_far D) (hr.mono (by decide)) (by rfl) D.h__law_far.gl D.h__law_far.fn.kp D.h__law_far.bd .nil pass0 (pa_cons (pv 0) pa_nil)) pa_nil)) (by rfl))
      (pss_one (ps_ret (pe_disp (pps_cons pe_str (pv 2) (pps_cons pe_str (pv 3) (pps_cons pe_str (pv 4) (pps_cons pe_str (pv 5) (pps_cons pe_str (pv 6) (pps_cons pe_str (pe_lst pa_nil) pps_nil)))))) rfl rfl (by decide) (by decide))))))), ?_⟩
    refine ⟨_, rfl, _, rfl, _, rfl, _, _, rfl, rfl, p, m + 1, rfl, hp, by omega, by omega, fun d H1 d0 d1 hp1 s1 => ?_⟩
    refine ⟨p, d, rfl, hp1, d0, by omega, fun n zs H2 nn en hzs hzl hp2 s2 => ?_⟩
    have s12 := s1.trans s2
    have nnp := hp1.ne nn
    have nn0 := s1.none hp1 nn
    refine ⟨_, rfl, n, rfl, ⟨_, SqL.of en⟩, fun F nF => ?_⟩
    have nFp := hp2.ne nF
    have nF0 := s12.none hp2 nF
    have nnF : n ≠ F := ne_of_none en nF
    refine lc_list (K := K) (a := n) (xs := zs.map V.str) (fun i H' => Pot H' p ∧ SameB p H H' ∧ H' n = some (.lst (zs.map V.str)) ∧ ∃ (ts : List Addr) (rs : List (Str × Int)), H' F = some (.lst (ts.map V.ref)) ∧ PairsP H' ts rs ∧ rs.map (·.1) = zs.take i ∧ ∀ x ∈ rs, 1 ≤ x.2 ∧ x.2 ≤ 9)
      ⟨hp2.upd nFp, SameB.new nF0 s12, by rw [upd_ne nnF]; exact en, [], [], upd_same, .nil, rfl, nofun⟩ (fun i H' _ ⟨_, _, e, _⟩ => SqL.of e) ?_ ?_
    · rintro i x H3 hx ⟨hp3, s3, en3, ts, rs, eF, hpr, ek, hb⟩
      rw [List.getElem?_map, Option.map_eq_some_iff] at hx
      obtain ⟨z, hz, rfl⟩ := hx
      have il := (List.getElem?_eq_some_iff.mp hz).1
      refine ⟨rfl, _, rfl, _, rfl, by show 2 ≤ sizeLine; decide, fun k nk => ?_⟩
      have nkp := hp3.ne nk
      have ek3 := upd_same (H := H3) (a := k) (o := .lst [V.int 9, .int 2])
      have hp4 := hp3.upd (o := .lst [V.int 9, .int 2]) nkp
      have s4 := SameB.new (o := .lst [V.int 9, .int 2]) (s3.none hp3 nk) s3
      have en4 : L2.upd H3 k (.lst [V.int 9, .int 2]) n = some (.lst (zs.map V.str)) := by rw [upd_ne (ne_of_none en3 nk)]; exact en3
      have eF4 : L2.upd H3 k (.lst [V.int 9, .int 2]) F = some (.lst (ts.map V.ref)) := by rw [upd_ne (ne_of_none eF nk)]; exact eF
      have hpr4 := hpr.new (o := .lst [V.int 9, .int 2]) nk
      generalize L2.upd H3 k (.lst [V.int 9, .int 2]) = H4 at *
      refine ⟨_, rfl, p, 2, rfl, hp4, by decide, by decide, fun e H5 e0 e1 hp5 s5 => ?_⟩
      have pick : ∃ y : Int, 1 ≤ y ∧ y ≤ 9 ∧ atI [V.int 9, .int 2] e = some (.int y) := by
        have he : e = 0 ∨ e = 1 := by omega
        rcases he with rfl | rfl
        · exact ⟨9, by decide, by decide, atI_nat (j := 0) rfl⟩
        · exact ⟨2, by decide, by decide, atI_nat (j := 1) rfl⟩
      obtain ⟨y, y1, y9, ey⟩ := pick
      refine ⟨k, _, e, .int y, rfl, rfl, SqL.of (s5 _ _ nkp ek3), ey, p, y, rfl, hp5, by omega, by omega, fun g H6 g0 g1 hp6 s6 => ?_⟩
      refine ⟨_, _, rfl, rfl, by show 2 ≤ sizeLine; decide, fun t nt => ?_⟩
      have s456 := s5.trans s6
      have ntp := hp6.ne nt
      have en6 := s456 _ _ nnp en4
      have eF6 := s456 _ _ nFp eF4
      have hpr6 := hpr4.monoB hp4 s456
      have et := upd_same (H := H6) (a := t) (o := .tup [V.str z, .int (1 + g)])
      have hp7 := hp6.upd (o := .tup [V.str z, .int (1 + g)]) ntp
      have s7 := SameB.new (o := .tup [V.str z, .int (1 + g)]) ((s4.trans s456).none hp6 nt) (s4.trans s456)
      have en7 : L2.upd H6 t (.tup [V.str z, .int (1 + g)]) n = some (.lst (zs.map V.str)) := by rw [upd_ne (ne_of_none en6 nt)]; exact en6
      have eF7 : L2.upd H6 t (.tup [V.str z, .int (1 + g)]) F = some (.lst (ts.map V.ref)) := by rw [upd_ne (ne_of_none eF6 nt)]; exact eF6
      have hpr7 := (hpr6.new (o := .tup [V.str z, .int (1 + g)]) nt).snoc et
      generalize L2.upd H6 t (.tup [V.str z, .int (1 + g)]) = H7 at *
      have tl : ts.length = rs.length := Paired.length hpr
      have rl := congrArg List.length ek
      rw [List.length_map, List.length_take] at rl
      refine ⟨_, eF7, by rw [List.length_map]; exact small2k (by omega), hp7.upd nFp, SameB.new nF0 s7, by rw [upd_ne nnF]; exact en7, ts ++ [t], rs ++ [(z, 1 + g)], ?_, hpr7.upd eF7, ?_, ?_⟩
      · rw [upd_same, List.map_append]
        rfl
      · rw [List.map_append, ek, take_snoc hz]
        rfl
      · intro x hx
        rcases List.mem_append.mp hx with hx | hx
        · exact hb x hx
        · rw [List.mem_singleton.mp hx]
          exact ⟨by show 1 ≤ 1 + g; omega, by show 1 + g ≤ 9; omega⟩
    · rintro H3 ⟨hp3, s3, en3, ts, rs, eF, hpr, ek, hb⟩
      rw [List.length_map, List.take_length] at ek
      refine ⟨F, ts, sd rs, rfl, SqL.of eF, hpr.kv, fun r nr => ?_⟩
      rw [merge_nodup (by rw [ek]; exact hzs.nd)]
      have nrp := hp3.ne nr
      have nr0 := s3.none hp3 nr
      have er := upd_same (H := H3) (a := r) (o := .dK (sd rs))
      have hp4 := hp3.upd (o := .dK (sd rs)) nrp
      have s4 := SameB.new (o := .dK (sd rs)) nr0 s3
      have en4 : L2.upd H3 r (.dK (sd rs)) n = some (.lst (zs.map V.str)) := by rw [upd_ne (ne_of_none en3 nr)]; exact en3
      generalize L2.upd H3 r (.dK (sd rs)) = H4 at *
      refine ⟨_, rfl, _, rfl, p, 3, rfl, hp4, by decide, by decide, fun e H5 e0 e1 hp5 s5 => ?_⟩
      refine ⟨_, _, rfl, rfl, p, 1 + e, rfl, hp5, by omega, by omega, fun l ls H6 nl el hls hll hp6 s6 => ?_⟩
      have nlp := hp5.ne nl
      have s45 := s4.trans s5
      have nl0 := s45.none hp5 nl
      refine ⟨_, rfl, p, rfl, hp6, fun far H7 f0 f1 hp7 s7 => ?_⟩
      refine ⟨_, rfl, p, rfl, hp7, fun kn H8 k0 k1 hp8 s8 => ⟨_, _, rfl, ?_⟩⟩
      have s78 := s7.trans s8
      have s58 := s6.trans s78
      have s48 := s5.trans s58
      have s08 := s4.trans s48
      have en8 := s48 _ _ nnp en4
      have er8 := s48 _ _ nrp er
      have el8 := s78 _ _ nlp el
      refine fun P nP => ?_
      have nPp := hp8.ne nP
      have nP0 := s08.none hp8 nP
      have eP := upd_same (H := H8) (a := P) (o := .dK [])
      have hp9 := hp8.upd (o := .dK []) nPp
      have s9 := SameB.new (o := .dK []) nP0 s08
      have up9 : ∀ {c : Addr} {o : HO}, H8 c = some o → L2.upd H8 P (.dK []) c = some o := fun e => by rw [upd_ne (ne_of_none e nP)]; exact e
      have en9 := up9 en8
      have er9 := up9 er8
      have el9 := up9 el8
      generalize L2.upd H8 P (.dK []) = H9 at *
      refine ⟨_, rfl, _, rfl, _, rfl, _, rfl, _, rfl, by show 0 ≤ sizeLine; decide, fun la nla => ?_⟩
      have nlap := hp9.ne nla
      have nla0 := s9.none hp9 nla
      have ela := upd_same (H := H9) (a := la) (o := .lst [])
      have hpA := hp9.upd (o := .lst []) nlap
      have sA := SameB.new (o := .lst []) nla0 s9
      have upA : ∀ {c : Addr} {o : HO}, H9 c = some o → L2.upd H9 la (.lst []) c = some o := fun e => by rw [upd_ne (ne_of_none e nla)]; exact e
      have enA' := upA en9
      have erA := upA er9
      have elA := upA el9
      have ePA := upA eP
      generalize L2.upd H9 la (.lst []) = HA at *
      refine ⟨ePA, planK ⟨n, r, l, zs, rs, ls, far⟩ kn la, rfl, by show 6 ≤ 15; decide, ?_⟩
      rw [plan_merge]
      have nnP : n ≠ P := ne_of enA' ePA (by intro z; cases z)
      have nlP : l ≠ P := ne_of elA ePA (by intro z; cases z)
      have nlaP : la ≠ P := ne_of ela ePA (by intro z; cases z)
      have nrP : r ≠ P := fun z => by rw [z, nP] at er8; cases er8
      refine q P la ⟨n, r, l, zs, rs, ls, far⟩ kn _ nP0 ⟨hzs, hls, by show 0 < ls.length; omega, ek, ⟨by rw [ek]; exact hzs.nd, fun x hx => hzs.nm x.1 (by rw [← ek]; exact List.mem_map.mpr ⟨x, hx, rfl⟩), hb, ?_⟩, f0, f1, by show zs.length ≤ 30; omega, by show ls.length ≤ 3; omega⟩ ⟨k0, k1⟩ ⟨ho_in (fun h => nnP (List.mem_singleton.mp h)) (new_at nn0 ?_), ho_in (fun h => nrP (List.mem_singleton.mp h)) (new_at nr0 ?_), ho_in (fun h => nlP (List.mem_singleton.mp h)) (new_at nl0 ?_)⟩ (ho_in (fun h => nlaP (List.mem_singleton.mp h)) (new_at nla0 ?_)) upd_same (hpA.upd nPp) (SameB.new nP0 sA)
      · have := congrArg List.length ek
        rw [List.length_map] at this
        show rs.length ≤ 30
        omega
      · rw [upd_ne nnP]
        exact enA'
      · rw [upd_ne nrP]
        exact erA
      · rw [upd_ne nlP]
        exact elA
      · rw [upd_ne nlaP]
        exact ela
theorem sc__law_worth : FnScope ["_law_pot_here", "_law_kind", "_law_light"] ["_law_pot_here", "_law_kind", "_law_light"] (defScope s__law_worth) := ⟨rfl, rfl, rfl, by decide +kernel, rfl, by decide +kernel, by decide +kernel⟩
theorem ok__law_worth (D : All K P mg) : FnOk P w K mg base CX0 3 D.f__law_worth D.d__law_worth ["_law_pot_here", "_law_kind", "_law_light"] spWorth := by
  refine D.h__law_worth.fn.ok sc__law_worth (fun vs H Q E h => ?_) (fun cdv A outer s H vs Q E hr h => ?_)
  · first | (obtain ⟨_, rfl, _⟩ := h; rfl) | (obtain ⟨_, _, rfl, _⟩ := h; rfl) | (obtain ⟨_, _, _, rfl, _⟩ := h; rfl) | (obtain ⟨_, _, _, _, rfl, _⟩ := h; rfl) | (obtain ⟨_, _, _, _, _, rfl, _⟩ := h; rfl) | (obtain ⟨_, _, _, _, _, _, rfl, _⟩ := h; rfl) | (obtain ⟨_, _, _, _, _, _, _, rfl, _⟩ := h; rfl) | (obtain ⟨_, _, _, _, _, _, _, _, rfl, _⟩ := h; rfl) | (obtain ⟨_, _, _, _, _, _, _, _, _, rfl, _⟩ := h; rfl) | (obtain ⟨_, _, _, _, _, _, _, _, _, _, rfl, _⟩ := h; rfl) | (obtain ⟨_, _, _, _, _, _, _, _, _, _, _, rfl, _⟩ := h; rfl) | (obtain ⟨_, _, _, _, _, _, _, _, _, _, _, _, rfl, _⟩ := h; rfl) | (obtain ⟨_, _, _, _, _, _, _, _, _, _, _, _, _, rfl, _⟩ := h; rfl) | (obtain ⟨_, _, _, _, _, _, _, _, _, _, _, _, _, _, rfl, _⟩ := h; rfl) | (obtain ⟨_, _, _, _, _, _, _, _, _, _, _, _, _, _, _, rfl, _⟩ := h; rfl)
  · have T := D.T
    have nd := sc__law_worth.nd
    have hu := hr.units
    have hu1 := hu_of hr
    have hu0 := hr.units0
    obtain ⟨p, mv, z, rfl, hp, q⟩ := h
    refine ⟨_, pss_cons (ps_if (pt_cmpR op_eq (pv 1) pe_str (nomark _)) (pss_one (ps_ret (pe_ix ix_list (pe_lst (pa_cons pe_int (pa_cons (pe_call (ok__law_take D) (hr.mono (by decide)) (by rfl) D.h__law_take.gl D.h__law_take.fn.kp D.h__law_take.bd .nil pass0 (pa_cons (pv 0) (pa_cons pe_int pa_nil))) (pa_cons (pe_call (ok__law_far D) (hr.mono (by decide)) (by rfl) D.h__law_far.gl D.h__law_far.fn.kp D.h__law_far.bd .nil pass0 (pa_cons (pv 0) pa_nil)) pa_nil)))) (pe_call (ok__law_take D) (hr.mono (by decide)) (by rfl) D.h__law_take.gl D.h__law_take.fn.kp D.h__law_take.bd .nil pass0 (pa_cons (pv 0) (pa_cons pe_int pa_nil))) (fun _ _ => rfl)))) pss_nil)
      (pss_one (ps_ret (pe_ix ix_list (pe_lst (pa_cons (pv 2) (pa_cons (pv 2) (pa_cons (pv 2) (pa_cons pe_str (pa_cons pe_non pa_nil)))))) (pe_call (ok__law_take D) (hr.mono (by decide)) (by rfl) D.h__law_take.gl D.h__law_take.fn.kp D.h__law_take.bd .nil pass0 (pa_cons (pv 0) (pa_cons pe_int pa_nil))) (fun _ _ => rfl)))), ?_⟩
    refine ⟨_, rfl, rfl, _, rfl, ?_⟩
    rw [kind_land]
    cases mv with
    | false =>
      refine iteT ⟨_, rfl, p, 30, rfl, hp, by decide, by decide, fun d H1 d0 d1 hp1 s1 => ?_⟩
      refine ⟨_, rfl, p, rfl, hp1, fun far H2 f0 f1 hp2 s2 => ?_⟩
      refine ⟨by show 3 ≤ sizeLine; decide, fun k nk => ?_⟩
      have nkp := hp2.ne nk
      have ek := upd_same (H := H2) (a := k) (o := .lst [V.int 0, .int d, .int far])
      have hp3 := hp2.upd (o := .lst [V.int 0, .int d, .int far]) nkp
      have s3 := SameB.new (o := .lst [V.int 0, .int d, .int far]) ((s1.trans s2).none hp2 nk) (s1.trans s2)
      generalize L2.upd H2 k (.lst [V.int 0, .int d, .int far]) = H3 at *
      refine ⟨_, rfl, p, 3, rfl, hp3, by decide, by decide, fun e H4 e0 e1 hp4 s4 => ?_⟩
      obtain ⟨v, hv, ev⟩ := at_any (xs := [V.int 0, .int d, .int far]) e0 e1
      refine ⟨k, _, e, v, rfl, rfl, SqL.of (s4 _ _ nkp ek), ev, q v H4 (fun _ => ?_) nofun hp4 (s3.trans s4)⟩
      simp only [List.mem_cons, List.not_mem_nil, or_false] at hv
      rcases hv with rfl | rfl | rfl
      · exact ⟨0, rfl, by decide, by decide⟩
      · exact ⟨d, rfl, d0, by omega⟩
      · exact ⟨far, rfl, f0, by omega⟩
    | true =>
      refine iteF ⟨_, rfl, _, rfl, _, rfl, by show 5 ≤ sizeLine; decide, fun k nk => ?_⟩
      have nkp := hp.ne nk
      have ek := upd_same (H := H) (a := k) (o := .lst [V.str z, .str z, .str z, .str (Str.ofString ""), .non])
      have hp3 := hp.upd (o := .lst [V.str z, .str z, .str z, .str (Str.ofString ""), .non]) nkp
      have s3 : SameB p H _ := SameB.of (same_upd (o := .lst [V.str z, .str z, .str z, .str (Str.ofString ""), .non]) nk)
      generalize L2.upd H k (.lst [V.str z, .str z, .str z, .str (Str.ofString ""), .non]) = H3 at *
      refine ⟨_, rfl, p, 5, rfl, hp3, by decide, by decide, fun e H4 e0 e1 hp4 s4 => ?_⟩
      obtain ⟨v, hv, ev⟩ := at_any (xs := [V.str z, .str z, .str z, .str (Str.ofString ""), .non]) e0 e1
      refine ⟨k, _, e, v, rfl, rfl, SqL.of (s4 _ _ nkp ek), ev, q v H4 nofun (fun _ => ?_) hp4 (s3.trans s4)⟩
      simp only [List.mem_cons, List.not_mem_nil, or_false] at hv
      rcases hv with rfl | rfl | rfl | rfl | rfl
      · exact .inr ⟨z, rfl, .inl rfl⟩
      · exact .inr ⟨z, rfl, .inl rfl⟩
      · exact .inr ⟨z, rfl, .inl rfl⟩
      · exact .inr ⟨_, rfl, .inr rfl⟩
      · exact .inl rfl
theorem sc__law_event : FnScope ["_law_pot_here", "_law_plan_here", "_law_light", "_law_day", "_law_kind", "_law_name", "_law_way", "_law_last"] ["_law_pot_here", "_law_plan_here"] (defScope s__law_event) := ⟨rfl, rfl, rfl, by decide +kernel, rfl, by decide +kernel, by decide +kernel⟩
theorem ok__law_event (D : All K P mg) : FnOk P w K mg base CX0 4 D.f__law_event D.d__law_event ["_law_pot_here", "_law_plan_here"] spEventK := by
  refine D.h__law_event.fn.ok sc__law_event (fun vs H Q E h => ?_) (fun cdv A outer s H vs Q E hr h => ?_)
  · first | (obtain ⟨_, rfl, _⟩ := h; rfl) | (obtain ⟨_, _, rfl, _⟩ := h; rfl) | (obtain ⟨_, _, _, rfl, _⟩ := h; rfl) | (obtain ⟨_, _, _, _, rfl, _⟩ := h; rfl) | (obtain ⟨_, _, _, _, _, rfl, _⟩ := h; rfl) | (obtain ⟨_, _, _, _, _, _, rfl, _⟩ := h; rfl) | (obtain ⟨_, _, _, _, _, _, _, rfl, _⟩ := h; rfl) | (obtain ⟨_, _, _, _, _, _, _, _, rfl, _⟩ := h; rfl) | (obtain ⟨_, _, _, _, _, _, _, _, _, rfl, _⟩ := h; rfl) | (obtain ⟨_, _, _, _, _, _, _, _, _, _, rfl, _⟩ := h; rfl) | (obtain ⟨_, _, _, _, _, _, _, _, _, _, _, rfl, _⟩ := h; rfl) | (obtain ⟨_, _, _, _, _, _, _, _, _, _, _, _, rfl, _⟩ := h; rfl) | (obtain ⟨_, _, _, _, _, _, _, _, _, _, _, _, _, rfl, _⟩ := h; rfl) | (obtain ⟨_, _, _, _, _, _, _, _, _, _, _, _, _, _, rfl, _⟩ := h; rfl) | (obtain ⟨_, _, _, _, _, _, _, _, _, _, _, _, _, _, _, rfl, _⟩ := h; rfl)
  · have T := D.T
    have nd := sc__law_event.nd
    have hu := hr.units
    have hu1 := hu_of hr
    have hu0 := hr.units0
    obtain ⟨p, P, la, D0, kn, o, rfl, hp, hP, hI, hG, k0, hla, hoe, q⟩ := h
    refine ⟨_, pss_cons (ps_dput hu1 (pv 1) pe_str (pe_op op_add (pe_dget hu1 (pv 1) pe_str (fun _ _ => rfl)) (pe_ix ix_list (pe_lst (pa_cons pe_int (pa_cons pe_int (pa_cons pe_int (pa_cons (pe_op op_add pe_int (pe_call (ok__law_take D) (hr.mono (by decide)) (by rfl) D.h__law_take.gl D.h__law_take.fn.kp D.h__law_take.bd .nil pass0 (pa_cons (pv 0) (pa_cons pe_int pa_nil)))) pa_nil))))) (pe_call (ok__law_take D) (hr.mono (by decide)) (by rfl) D.h__law_take.gl D.h__law_take.fn.kp D.h__law_take.bd .nil pass0 (pa_cons (pv 0) (pa_cons pe_int pa_nil))) (fun _ _ => rfl))) rfl)
      (pss_cons (ps_set (i := 2) nd rfl (.inl rfl) (pe_ix ix_list (pe_dget hu1 (pv 1) pe_str (fun _ _ => rfl)) (pe_call (ok__law_take D) (hr.mono (by decide)) (by rfl) D.h__law_take.gl D.h__law_take.fn.kp D.h__law_take.bd .nil pass0 (pa_cons (pv 0) (pa_cons (pe_callB call_len_seq (by rfl) T.len PySem.boot_len (pa_cons (pe_dget hu1 (pv 1) pe_str (fun _ _ => rfl)) pa_nil)) pa_nil))) (fun _ _ => rfl)))
      (pss_cons (ps_set (i := 3) nd rfl (.inl rfl) (pe_op op_add (pe_op op_mul (pe_dget hu1 (pv 1) pe_str (fun _ _ => rfl)) (pe_call (ok__law_take D) (hr.mono (by decide)) (by rfl) D.h__law_take.gl D.h__law_take.fn.kp D.h__law_take.bd .nil pass0 (pa_cons (pv 0) (pa_cons pe_int pa_nil)))) (pe_call (ok__law_take D) (hr.mono (by decide)) (by rfl) D.h__law_take.gl D.h__law_take.fn.kp D.h__law_take.bd .nil pass0 (pa_cons (pv 0) (pa_cons pe_int pa_nil)))))
      (pss_cons (ps_par (i := 4) (j := 5) (by rfl) nd rfl rfl (by decide) rfl rfl (pa_cons pe_str (pa_cons (pv 2) pa_nil)) (by rfl))
      (pss_cons (ps_if (PW.pt (pw_and (pt_cmpR (op_neNil hu) (pe_dget hu1 (pv 1) pe_str (fun _ _ => rfl)) (pe_lst pa_nil) (nomark _)) (pw_and1 (pt_cmpR op_gt (pe_call (ok__law_take D) (hr.mono (by decide)) (by rfl) D.h__law_take.gl D.h__law_take.fn.kp D.h__law_take.bd .nil pass0 (pa_cons (pv 0) (pa_cons pe_int pa_nil))) pe_int (nomark _))))) (pss_one (ps_par (i := 4) (j := 5) (by rfl) nd rfl rfl (by decide) rfl rfl (pa_cons pe_str (pa_cons (pe_ix ix_list (pe_dget hu1 (pv 1) pe_str (fun _ _ => rfl)) (pe_call (ok__law_take D) (hr.mono (by decide)) (by rfl) D.h__law_take.gl D.h__law_take.fn.kp D.h__law_take.bd .nil pass0 (pa_cons (pv 0) (pa_cons (pe_callB call_len_seq (by rfl) T.len PySem.boot_len (pa_cons (pe_dget hu1 (pv 1) pe_str (fun _ _ => rfl)) pa_nil)) pa_nil))) (fun _ _ => rfl)) pa_nil)) (by rfl))) pss_nil)
      (pss_cons (ps_set (i := 6) nd rfl (.inl rfl) (pe_call (ok__law_take D) (hr.mono (by decide)) (by rfl) D.h__law_take.gl D.h__law_take.fn.kp D.h__law_take.bd .nil pass0 (pa_cons (pv 0) (pa_cons pe_int pa_nil))))
      (pss_cons (ps_for PassesOwn.never rfl (pi_list (pe_dget hu1 (pv 1) pe_str (fun _ _ => rfl))) (pg_name (i := 7) nd rfl (Or.inl rfl)) (pss_one (ps_if (pt_cmpR op_eq (pv 6) pe_int (nomark _)) (pss_one (ps_asg (pv 7) (pg_tup rfl (pgs_cons (pg_name (i := 4) nd rfl (Or.inl rfl)) (pgs_cons (pg_name (i := 5) nd rfl (Or.inl rfl)) (pgs_cons (pg_name (i := 3) nd rfl (Or.inl rfl)) pgs_nil)))))) (pss_one (ps_if (pt_cmpR op_eq (pv 6) pe_int (nomark _)) (pss_one (ps_set (i := 3) nd rfl (.inl rfl) (pe_ix ix_tup (pv 7) pe_int (fun _ _ => rfl)))) pss_nil)))))
      (pss_cons (ps_dput hu1 (pv 1) pe_str (pe_lst (pa_cons (pe_tup (pa_cons (pv 4) (pa_cons (pv 5) (pa_cons (pv 3) pa_nil)))) pa_nil)) rfl)
      (pss_one (ps_ret (pe_tup (pa_cons (pv 4) (pa_cons (pe_dget hu1 (pv 1) pe_str (fun _ _ => rfl)) (pa_cons (pv 5) (pa_cons (pv 3) (pa_cons (pe_call (ok__law_worth D) (hr.mono (by decide)) (by rfl) D.h__law_worth.gl D.h__law_worth.fn.kp D.h__law_worth.bd .nil pass0 (pa_cons (pv 0) (pa_cons (pv 4) (pa_cons (pv 2) pa_nil)))) pa_nil))))))))))))))), ?_⟩
    have pPne : P ≠ p := ne_of_pot hp hP
    have mp : p ∈ [p, P] := List.mem_cons_self
    have mP : P ∈ [p, P] := List.mem_cons_of_mem _ List.mem_cons_self
    refine ⟨_, rfl, P, _, rfl, pg_known hP, ?_⟩
    refine ⟨_, rfl, p, 9, rfl, hp, by decide, by decide, fun a H1 a0 a1 hp1 s1 => ⟨_, _, rfl, rfl, by show 4 ≤ sizeLine; decide, fun k nk => ?_⟩⟩
    have nkp := hp1.ne nk
    have ek := upd_same (H := H1) (a := k) (o := .lst [V.int 0, .int 0, .int 1, .int (1 + a)])
    have hp2 := hp1.upd (o := .lst [V.int 0, .int 0, .int 1, .int (1 + a)]) nkp
    have s2 := SameB.new (o := .lst [V.int 0, .int 0, .int 1, .int (1 + a)]) (s1.none hp1 nk) s1
    generalize L2.upd H1 k (.lst [V.int 0, .int 0, .int 1, .int (1 + a)]) = H2 at *
    refine ⟨_, rfl, p, 4, rfl, hp2, by decide, by decide, fun d H3 d0 d1 hp3 s3 => ?_⟩
    have pick : ∃ y : Int, 0 ≤ y ∧ y ≤ 9 ∧ atI [V.int 0, .int 0, .int 1, .int (1 + a)] d = some (.int y) := by
      obtain ⟨v, hv, ev⟩ := at_any (xs := [V.int 0, .int 0, .int 1, .int (1 + a)]) d0 d1
      simp only [List.mem_cons, List.not_mem_nil, or_false] at hv
      rcases hv with rfl | rfl | rfl | rfl
      · exact ⟨0, by decide, by decide, ev⟩
      · exact ⟨0, by decide, by decide, ev⟩
      · exact ⟨1, by decide, by decide, ev⟩
      · exact ⟨1 + a, by omega, by omega, ev⟩
    obtain ⟨y, y0, y9, ey⟩ := pick
    refine ⟨k, _, d, .int y, rfl, rfl, SqL.of (s3 _ _ nkp ek), ey, _, _, rfl, rfl, ?_⟩
    have s03 := s2.trans s3
    have hP3 := s03 _ _ pPne hP
    have hI3 := hI.monoB hp s03
    have hla3 := hla.monoB hp s03
    refine ⟨_, rfl, P, _, rfl, DPut.k (k := Sum.inr "known") hP3 (by show 6 < sizeLine; decide), ?_⟩
    rw [plan_put_known]
    generalize hkn : kn + y = kn'
    have kle : kn ≤ kn' ∧ kn' ≤ kn + 9 := by omega
    have nP := ne_of hI3.hn hP3 (by intro z; cases z)
    have lP := ne_of hI3.hl hP3 (by intro z; cases z)
    have hP4 := upd_same (H := H3) (a := P) (o := .dK (planK D0 kn' la))
    have hp4 := hp3.upd (o := .dK (planK D0 kn' la)) pPne
    have s4 : SameL [p, P] H (L2.upd H3 P (.dK (planK D0 kn' la))) := SameL.upd mP (SameL.ofB mp s03)
    have hn4 : L2.upd H3 P (.dK (planK D0 kn' la)) D0.n = some (.lst (D0.zs.map V.str)) := by rw [upd_ne nP]; exact hI3.hn
    have hl4 : L2.upd H3 P (.dK (planK D0 kn' la)) D0.l = some (.lst (D0.ls.map V.str)) := by rw [upd_ne lP]; exact hI3.hl
    have hla4 : LastAt (L2.upd H3 P (.dK (planK D0 kn' la))) la o := by
      cases o with
      | none =>
        show L2.upd H3 P _ la = _
        rw [upd_ne (ne_of hla3 hP3 (by intro z; cases z))]
        exact hla3
      | some e =>
        obtain ⟨t, e1, e2⟩ := hla3
        exact ⟨t, by rw [upd_ne (ne_of e1 hP3 (by intro z; cases z))]; exact e1, by rw [upd_ne (ne_of e2 hP3 (by intro z; cases z))]; exact e2⟩
    clear hP3 hI3 hla3 s03 s3 s2 s1 ek
    generalize L2.upd H3 P (.dK (planK D0 kn' la)) = H4 at *
    have ll := hG.l0
    have l8 := hG.l8
    have z8 := hG.z8
    refine ⟨_, rfl, P, _, rfl, pg_lights hP4, _, rfl, _, rfl, P, _, rfl, pg_lights hP4, D0.l, _, rfl, .inl (SqL.of hl4), p, _, rfl, hp4, by rw [List.length_map]; omega, by rw [List.length_map]; omega, fun d H5 d0 d1 hp5 s5 => ?_⟩
    have hlp : D0.l ≠ p := ne_of_pot hp4 hl4 strs_no_pot
    have hl5 := s5 _ _ hlp hl4
    rw [List.length_map] at d1
    obtain ⟨lz, hlz, hlm, hla'⟩ := str_at d0 d1
    refine ⟨D0.l, _, d, .str lz, rfl, rfl, SqL.of hl5, hla', ?_⟩
    have lnm := hG.ls.nm lz hlm
    have hP5 := s5 _ _ pPne hP4
    have hn5 := s5 _ _ (ne_of_pot hp4 hn4 strs_no_pot) hn4
    have hla5 := hla4.monoB hp4 s5
    have sL5 := s4.trans (SameL.ofB mp s5)
    have f0 := hG.f0
    refine ⟨_, rfl, P, _, rfl, pg_far hP5, _, rfl, p, 2, rfl, hp5, by decide, by decide, fun e H6 e0 e1 hp6 s6 => ⟨_, _, rfl, rfl, .inr ⟨by omega, by omega⟩, _, rfl, p, 24, rfl, hp6, by decide, by decide, fun g H7 g0 g1 hp7 s7 => ⟨_, _, rfl, rfl, ?_⟩⟩⟩
    have day0 : 0 ≤ D0.far * e + g ∧ D0.far * e + g < 10 ^ 55 := by
      refine ⟨Int.add_nonneg (Int.mul_nonneg f0 e0) g0, ?_⟩
      have f1 := hG.f1
      have : e = 0 ∨ e = 1 := by omega
      rcases this with rfl | rfl <;> omega
    show gName 3 (V.int (D0.far * e + g)) _ _ _
    generalize D0.far * e + g = day at day0 ⊢
    have s67 := s6.trans s7
    have hP7 := s67 _ _ pPne hP5
    have hn7 := s67 _ _ (ne_of_pot hp5 hn5 strs_no_pot) hn5
    have hla7 := hla5.monoB hp5 s67
    have sL7 := sL5.trans (SameL.ofB mp s67)
    refine ⟨_, rfl, _, _, rfl, ?_⟩
    clear hP5 hn5 hla5 hP4 hn4 hla4 hl4 hl5
    apply joinA (α := Bool × Str) (J := fun a Hx => (a.1 = true → a.2 ∈ D0.zs) ∧ Nm a.2 ∧ Pot Hx p ∧ Hx P = some (.dK (planK D0 kn' la)) ∧ Hx D0.n = some (.lst (D0.zs.map V.str)) ∧ LastAt Hx la o ∧ SameL [p, P] H Hx)
      (sl := fun a => [some (.ref p), some (.ref P), some (.str lz), some (.int day), some (.str (kindS a.1)), some (.str a.2), none, none])
    · intro h
      refine ⟨_, rfl, P, _, rfl, pg_names hP7, by show 0 ≤ sizeLine; decide, fun k nk => ?_⟩
      have nkp := hp7.ne nk
      have ek8 := upd_same (H := H7) (a := k) (o := .lst [])
      have hp8 := hp7.upd (o := .lst []) nkp
      have up8 : ∀ {c : Addr} {o : HO}, H7 c = some o → L2.upd H7 k (.lst []) c = some o := fun e => by rw [upd_ne (ne_of_none e nk)]; exact e
      have hP8 := up8 hP7
      have hn8 := up8 hn7
      have hla8 := hla7.mono (same_upd (o := .lst []) nk)
      have sL8 := SameL.new (o := .lst []) nk sL7
      generalize L2.upd H7 k (.lst []) = H8 at *
      refine ⟨D0.n, k, _, rfl, rfl, hn8, ek8, _, rfl, ?_⟩
      by_cases hz : D0.zs = []
      · have e : (!(D0.zs.map V.str).isEmpty) = false := by rw [hz]; rfl
        rw [e]
        exact iteF (iteF (h (false, lz) H8 ⟨nofun, lnm, hp8, hP8, hn8, hla8, sL8⟩))
      · have e : (!(D0.zs.map V.str).isEmpty) = true := by
          rw [Bool.not_eq_true', List.isEmpty_eq_false_iff]
          intro e
          rw [List.map_eq_nil_iff] at e
          exact hz e
        rw [e]
        have zl : 0 < D0.zs.length := List.length_pos_iff.mpr hz
        refine iteT ⟨_, rfl, p, 4, rfl, hp8, by decide, by decide, fun e H9 e0 e1 hp9 s9 => ⟨_, _, rfl, rfl, _, rfl, ?_⟩⟩
        have hP9 := s9 _ _ pPne hP8
        have hnp : D0.n ≠ p := ne_of_pot hp8 hn8 strs_no_pot
        have hn9 := s9 _ _ hnp hn8
        have hla9 := hla8.monoB hp8 s9
        have sL9 := sL8.trans (SameL.ofB mp s9)
        refine ite2 (fun _ => ?_) (fun _ => h (false, lz) H9 ⟨nofun, lnm, hp9, hP9, hn9, hla9, sL9⟩)
        refine ⟨_, rfl, P, _, rfl, pg_names hP9, _, rfl, _, rfl, P, _, rfl, pg_names hP9, D0.n, _, rfl, .inl (SqL.of hn9), p, _, rfl, hp9, by rw [List.length_map]; omega, by rw [List.length_map]; omega, fun d H10 d0 d1 hp10 s10 => ?_⟩
        have hn10 := s10 _ _ hnp hn9
        rw [List.length_map] at d1
        obtain ⟨z, hz1, hz2, hz3⟩ := str_at d0 d1
        refine ⟨D0.n, _, d, .str z, rfl, rfl, SqL.of hn10, hz3, _, _, rfl, ?_⟩
        exact h (true, z) H10 ⟨fun _ => hz2, hG.zs.nm z hz2, hp10, s10 _ _ pPne hP9, hn10, hla9.monoB hp9 s10, sL9.trans (SameL.ofB mp s10)⟩
    rintro ⟨mv, z⟩ H8 ⟨hmz, hnm, hp8, hP8, hn8, hla8, sL8⟩
    refine ⟨_, rfl, p, 5, rfl, hp8, by decide, by decide, fun way H9 w0 w1 hp9 s9 => ?_⟩
    have hP9 := s9 _ _ pPne hP8
    have hla9 := hla8.monoB hp8 s9
    have sL9 := sL8.trans (SameL.ofB mp s9)
    have lst : ∃ xs : List V, H9 la = some (.lst xs) ∧ ∀ y ∈ xs, ∃ t e0, y = .ref t ∧ o = some e0 ∧ H9 t = some (.tup [.str (kindS e0.mv), .str e0.who, .int e0.day]) := by
      cases o with
      | none => exact ⟨[], hla9, nofun⟩
      | some e0 =>
        obtain ⟨t, e1, e2⟩ := hla9
        refine ⟨[.ref t], e1, fun y hy => ⟨t, e0, List.mem_singleton.mp hy, rfl, e2⟩⟩
    obtain ⟨xs, exs, hxs⟩ := lst
    refine ⟨_, rfl, P, _, rfl, pg_last hP9, la, rfl, ⟨_, SqL.of exs⟩, for_list (xs := xs) (fun i σ H' => H' = H9 ∧ ∃ (mv : Bool) (z : Str) (day : Int) (x7 : Option V), σ = [some (.ref p), some (.ref P), some (.str lz), some (.int day), some (.str (kindS mv)), some (.str z), some (.int way), x7] ∧ (mv = true → z ∈ D0.zs) ∧ Nm z ∧ (0 ≤ day ∧ day < 10 ^ 55))
      ⟨rfl, mv, z, day, none, rfl, hmz, hnm, day0⟩ (fun i σ H' _ ⟨e, _⟩ => by rw [e]; exact SqL.of exs) ?_ ?_⟩
    · rintro i y σ H' hy ⟨rfl, mv, z, day, x7, rfl, hmz, hnm, day0⟩
      obtain ⟨t, e0, rfl, ho, ht⟩ := hxs y (List.mem_of_getElem? hy)
      have ok0 := hoe e0 ho
      have hz0 : (e0.mv = true → e0.who ∈ D0.zs) ∧ Nm e0.who := by
        cases hm : e0.mv with
        | true =>
          have h1 := (ok0.mw hm).1
          rw [hG.zk] at h1
          exact ⟨fun _ => h1, hG.zs.nm _ h1⟩
        | false => exact ⟨nofun, (ok0.lw hm).1⟩
      refine ⟨_, rfl, rfl, _, rfl, ite2 (fun _ => ?_) (fun _ => ?_)⟩
      · refine ⟨_, rfl, t, _, rfl, SqT.of ht, rfl, _, _, rfl, _, _, rfl, _, _, rfl, rfl, ?_⟩
        exact ⟨rfl, e0.mv, e0.who, e0.day, _, rfl, hz0.1, hz0.2, ok0.d0, ok0.d1⟩
      · refine ⟨_, rfl, rfl, _, rfl, ite2 (fun _ => ?_) (fun _ => ?_)⟩
        · refine ⟨_, rfl, t, _, 2, _, rfl, rfl, SqT.of ht, atI_nat (j := 2) rfl, ?_⟩
          exact ⟨rfl, mv, z, e0.day, _, rfl, hmz, hnm, ok0.d0, ok0.d1⟩
        · exact ⟨rfl, mv, z, day, _, rfl, hmz, hnm, day0⟩
    · rintro σ H' ⟨rfl, mv, z, day, x7, rfl, hmz, hnm, day0⟩
      refine ⟨_, rfl, _, rfl, _, rfl, by show 3 ≤ sizeLine; decide, fun t nt => ?_⟩
      have ntp := hp9.ne nt
      have et := upd_same (H := H') (a := t) (o := .tup [V.str (kindS mv), .str z, .int day])
      have hp10 := hp9.upd (o := .tup [V.str (kindS mv), .str z, .int day]) ntp
      have sL10 := SameL.new (o := .tup [V.str (kindS mv), .str z, .int day]) nt sL9
      have hP10 : L2.upd H' t (.tup [V.str (kindS mv), .str z, .int day]) P = some (.dK (planK D0 kn' la)) := by rw [upd_ne (ne_of_none hP9 nt)]; exact hP9
      have nt0 : H t = none := sL9.free nt (by
        intro h
        rcases List.mem_cons.mp h with h | h
        · exact ntp h
        · rw [List.mem_singleton.mp h, hP9] at nt
          cases nt)
      generalize L2.upd H' t (.tup [V.str (kindS mv), .str z, .int day]) = H10 at *
      refine ⟨by show 1 ≤ sizeLine; decide, fun la' nla => ?_⟩
      have nlap := hp10.ne nla
      have ela := upd_same (H := H10) (a := la') (o := .lst [V.ref t])
      have hp11 := hp10.upd (o := .lst [V.ref t]) nlap
      have sL11 := SameL.new (o := .lst [V.ref t]) nla sL10
      have hP11 : L2.upd H10 la' (.lst [V.ref t]) P = some (.dK (planK D0 kn' la)) := by rw [upd_ne (ne_of_none hP10 nla)]; exact hP10
      have et11 : L2.upd H10 la' (.lst [V.ref t]) t = some (.tup [V.str (kindS mv), .str z, .int day]) := by rw [upd_ne (ne_of_none et nla)]; exact et
      have nlaP : la' ≠ P := fun z => by rw [z, hP10] at nla; cases nla
      have nla0 : H la' = none := sL10.free nla (by
        intro h
        rcases List.mem_cons.mp h with h | h
        · exact nlap h
        · exact nlaP (List.mem_singleton.mp h))
      generalize L2.upd H10 la' (.lst [V.ref t]) = H11 at *
      refine ⟨_, rfl, P, _, rfl, DPut.k (k := Sum.inr "last") hP11 (by show 6 < sizeLine; decide), ?_⟩
      rw [plan_put_last]
      have hP12 := upd_same (H := H11) (a := P) (o := .dK (planK D0 kn' la'))
      have hp12 := hp11.upd (o := .dK (planK D0 kn' la')) pPne
      have sL12 : SameL [p, P] H (L2.upd H11 P (.dK (planK D0 kn' la'))) := SameL.upd mP sL11
      have ntP : t ≠ P := ne_of et11 hP11 (by intro z; cases z)
      have et12 : L2.upd H11 P (.dK (planK D0 kn' la')) t = some (.tup [V.str (kindS mv), .str z, .int day]) := by rw [upd_ne ntP]; exact et11
      have ela12 : L2.upd H11 P (.dK (planK D0 kn' la')) la' = some (.lst [V.ref t]) := by rw [upd_ne nlaP]; exact ela
      generalize L2.upd H11 P (.dK (planK D0 kn' la')) = H12 at *
      refine ⟨_, rfl, _, rfl, P, _, rfl, pg_known hP12, _, rfl, _, rfl, _, rfl, _, rfl, _, rfl, p, mv, lz, rfl, hp12, fun w H13 wl wm hp13 s13 => ?_⟩
      refine ⟨by show 5 ≤ sizeLine; decide, fun T nT => ?_⟩
      have hP13 := s13 _ _ pPne hP12
      have et13 := s13 _ _ (ne_of_pot hp12 et12) et12
      have ela13 := s13 _ _ (ne_of_pot hp12 ela12) ela12
      have sL13 := sL12.trans (SameL.ofB mp s13)
      have nTp := hp13.ne nT
      have nTP : T ≠ P := fun z => by rw [z, hP13] at nT; cases nT
      have nT0 : H T = none := sL13.free nT (by
        intro h
        rcases List.mem_cons.mp h with h | h
        · exact nTp h
        · exact nTP (List.mem_singleton.mp h))
      have up : ∀ {c : Addr} {o o' : HO}, H13 c = some o → L2.upd H13 T o' c = some o := fun e => by rw [upd_ne (ne_of_none e nT)]; exact e
      refine q T la' ⟨mv, kn', z, day, w⟩ _ kle ⟨by show 0 ≤ kn'; omega, day0.1, day0.2, fun hm => ⟨by rw [hG.zk]; exact hmz hm, ?_⟩, fun hm => ⟨hnm, (wl hm).imp fun n h => ⟨h.1, h.2.1, by have := h.2.2; omega⟩⟩⟩ (new_at nT0 upd_same) ⟨t, new_at nla0 (up ela13), new_at nt0 (up et13)⟩ (up hP13) (hp13.upd nTp) (SameL.new nT sL13)
      rcases wm hm with rfl | ⟨y, rfl, hy⟩
      · exact .inl rfl
      · refine .inr ⟨y, rfl, ?_⟩
        rcases hy with rfl | rfl
        · exact .inr lnm
        · exact .inl rfl
end
end K63
set_option Elab.async false
set_option linter.all false
set_option maxRecDepth 100000
set_option maxHeartbeats 1600000
set_option pp.maxSteps 300
namespace K63
open PySem PySem.Spec PyProof.Rows L2 LT NdefX LamX
section
variable {P : Program} {w : World} {K : PySem.W.Frag} {mg : Str → Option Value} {base : Heap}
theorem sc__law_tell : FnScope ["_law_book", "_law_event_here", "_law_kind", "_law_known", "_law_name", "_law_day", "_law_worth_here"] ["_law_book", "_law_event_here"] (defScope s__law_tell) := ⟨rfl, rfl, rfl, by decide +kernel, rfl, by decide +kernel, by decide +kernel⟩
theorem ok__law_tell (D : All K P mg) : FnOk P w K mg base CX0 6 D.f__law_tell D.d__law_tell ["_law_book", "_law_event_here"] (spTellE D.C_Book D.C_History (.bl true)) := by
  refine D.h__law_tell.fn.ok sc__law_tell (fun vs H Q E h => ?_) (fun cdv A outer s H vs Q E hr h => ?_)
  · first | (obtain ⟨_, rfl, _⟩ := h; rfl) | (obtain ⟨_, _, rfl, _⟩ := h; rfl) | (obtain ⟨_, _, _, rfl, _⟩ := h; rfl) | (obtain ⟨_, _, _, _, rfl, _⟩ := h; rfl) | (obtain ⟨_, _, _, _, _, rfl, _⟩ := h; rfl) | (obtain ⟨_, _, _, _, _, _, rfl, _⟩ := h; rfl) | (obtain ⟨_, _, _, _, _, _, _, rfl, _⟩ := h; rfl) | (obtain ⟨_, _, _, _, _, _, _, _, rfl, _⟩ := h; rfl) | (obtain ⟨_, _, _, _, _, _, _, _, _, rfl, _⟩ := h; rfl) | (obtain ⟨_, _, _, _, _, _, _, _, _, _, rfl, _⟩ := h; rfl) | (obtain ⟨_, _, _, _, _, _, _, _, _, _, _, rfl, _⟩ := h; rfl) | (obtain ⟨_, _, _, _, _, _, _, _, _, _, _, _, rfl, _⟩ := h; rfl) | (obtain ⟨_, _, _, _, _, _, _, _, _, _, _, _, _, rfl, _⟩ := h; rfl) | (obtain ⟨_, _, _, _, _, _, _, _, _, _, _, _, _, _, rfl, _⟩ := h; rfl) | (obtain ⟨_, _, _, _, _, _, _, _, _, _, _, _, _, _, _, rfl, _⟩ := h; rfl)
  · have T := D.T
    have nd := sc__law_tell.nd
    have hu := hr.units
    have hu1 := hu_of hr
    have hu0 := hr.units0
    obtain ⟨b, T, rk, es, fp, e, rfl, W, hT, ok, hk, hl, q⟩ := h
    refine ⟨_, pss_cons (ps_asg (pv 1) (pg_tup rfl (pgs_cons (pg_name (i := 2) nd rfl (Or.inl rfl)) (pgs_cons (pg_name (i := 3) nd rfl (Or.inl rfl)) (pgs_cons (pg_name (i := 4) nd rfl (Or.inl rfl)) (pgs_cons (pg_name (i := 5) nd rfl (Or.inl rfl)) (pgs_cons (pg_name (i := 6) nd rfl (Or.inl rfl)) pgs_nil)))))))
      (pss_cons (ps_if (pt_cmpR op_eq (pv 2) pe_str (nomark _)) (pss_one (ps_ret (pe_cmpR op_isN (pe_meth (pv 0) D.Z_Book.cl D.h_Book_tell.me (ok_Book_tell D) (hr.mono (by decide)) D.h_Book_tell.bd .nil pass0 (pa_cons (pv 3) (pa_cons (pv 4) (pa_cons (pv 5) (pa_cons (pv 6) pa_nil))))) pe_non (nomark _)))) pss_nil)
      (pss_one (ps_ret (pe_cmpR op_isN (pe_meth (pv 0) D.Z_Book.cl D.h_Book_land.me (ok_Book_land D) (hr.mono (by decide)) D.h_Book_land.bd .nil pass0 (pa_cons (pv 3) (pa_cons (pv 4) (pa_cons (pv 5) (pa_cons (pv 6) pa_nil))))) pe_non (nomark _))))), ?_⟩
    have W0 := W
    obtain ⟨B, rfl, rfl, rfl, rfl, bh, bp, bl⟩ := W0
    refine ⟨_, rfl, T, _, rfl, SqT.of hT, rfl, _, _, rfl, _, _, rfl, _, _, rfl, _, _, rfl, _, _, rfl, rfl, ?_⟩
    refine ⟨_, rfl, rfl, _, rfl, ?_⟩
    rw [kind_move]
    obtain ⟨mv, kn, z, d, w⟩ := e
    cases mv with
    | true =>
      refine iteT ⟨_, rfl, B.b, B.dx, _, rfl, bh.ix, rfl, _, rfl, _, rfl, _, rfl, _, rfl, B.b, B.rk, B.es, B.fp, kn, d, z, w, rfl, W, ok, hk, hl, fun fp' H' W' fr s => ⟨rfl, q fp' H' W' fr s⟩⟩
    | false =>
      refine iteF ⟨_, rfl, B.b, B.dx, _, rfl, bh.ix, rfl, _, rfl, _, rfl, _, rfl, _, rfl, B.b, B.rk, B.es, B.fp, kn, d, z, w, rfl, W, ok, hk, hl, fun fp' H' W' fr s => ⟨rfl, q fp' H' W' fr s⟩⟩
end
end K63
set_option Elab.async false
set_option linter.all false
set_option maxRecDepth 100000
set_option maxHeartbeats 1600000
set_option pp.maxSteps 300
namespace K63
open PySem PySem.Spec PyProof.Rows L2 LT NdefX LamX
section
variable {P : Program} {w : World} {K : PySem.W.Frag} {mg : Str → Option Value} {base : Heap}
theorem sc__law_entries : FnScope ["_law_events", "_law_found", "_law_kind", "_law_known", "_law_name", "_law_day", "_law_worth_here", "_law_row"] ["_law_events"] (defScope s__law_entries) := ⟨rfl, rfl, rfl, by decide +kernel, rfl, by decide +kernel, by decide +kernel⟩
theorem ok__law_entries (D : All K P mg) : FnOk P w K mg base CX0 1 D.f__law_entries D.d__law_entries ["_law_events"] spEntsL := by
  refine D.h__law_entries.fn.ok sc__law_entries (fun vs H Q E h => ?_) (fun cdv A outer s H vs Q E hr h => ?_)
  · first | (obtain ⟨_, rfl, _⟩ := h; rfl) | (obtain ⟨_, _, rfl, _⟩ := h; rfl) | (obtain ⟨_, _, _, rfl, _⟩ := h; rfl) | (obtain ⟨_, _, _, _, rfl, _⟩ := h; rfl) | (obtain ⟨_, _, _, _, _, rfl, _⟩ := h; rfl) | (obtain ⟨_, _, _, _, _, _, rfl, _⟩ := h; rfl) | (obtain ⟨_, _, _, _, _, _, _, rfl, _⟩ := h; rfl) | (obtain ⟨_, _, _, _, _, _, _, _, rfl, _⟩ := h; rfl) | (obtain ⟨_, _, _, _, _, _, _, _, _, rfl, _⟩ := h; rfl) | (obtain ⟨_, _, _, _, _, _, _, _, _, _, rfl, _⟩ := h; rfl) | (obtain ⟨_, _, _, _, _, _, _, _, _, _, _, rfl, _⟩ := h; rfl) | (obtain ⟨_, _, _, _, _, _, _, _, _, _, _, _, rfl, _⟩ := h; rfl) | (obtain ⟨_, _, _, _, _, _, _, _, _, _, _, _, _, rfl, _⟩ := h; rfl) | (obtain ⟨_, _, _, _, _, _, _, _, _, _, _, _, _, _, rfl, _⟩ := h; rfl) | (obtain ⟨_, _, _, _, _, _, _, _, _, _, _, _, _, _, _, rfl, _⟩ := h; rfl)
  · have T := D.T
    have nd := sc__law_entries.nd
    have hu := hr.units
    have hu1 := hu_of hr
    have hu0 := hr.units0
    obtain ⟨E1, es, rfl, ⟨ts, eE, hts⟩, hl, q⟩ := h
    refine ⟨_, pss_cons (ps_set (i := 1) nd rfl (.inr rfl) pe_dnewT)
      (pss_cons (ps_for PassesOwn.never rfl (pi_list (pv 0)) (pg_tup rfl (pgs_cons (pg_name (i := 2) nd rfl (Or.inl rfl)) (pgs_cons (pg_name (i := 3) nd rfl (Or.inl rfl)) (pgs_cons (pg_name (i := 4) nd rfl (Or.inl rfl)) (pgs_cons (pg_name (i := 5) nd rfl (Or.inl rfl)) (pgs_cons (pg_name (i := 6) nd rfl (Or.inl rfl)) pgs_nil)))))) (pss_one (ps_dput hu1 (pv 1) (pe_tup (pa_cons (pv 2) (pa_cons (pv 3) (pa_cons (pv 4) (pa_cons (pv 5) pa_nil))))) (pv 6) rfl)))
      (pss_one (ps_ret (pe_lc (own := [("_law_row", 7)]) (g := gName 7) (tt := tYes) rfl nd (pi_list (pe_callB (cr_sortedTD rfl hr.units) (by rfl) T.sorted (by decide +kernel) (pa_cons (pv 1) pa_nil))) (blkOk_by (N := ["_law_events", "_law_found", "_law_kind", "_law_known", "_law_name", "_law_day", "_law_worth_here", "_law_row"]) (sc := defScope s__law_entries) (by decide +kernel)) (fun _ _ _ _ _ => (pg_name (i := 7) nd rfl (Or.inl rfl))) (fun _ _ _ _ _ => pts_nil) (fun _ _ _ _ _ => (pe_op (show OpR _ (binaryOp .Add) (rCatT K) from op_catT) (pv 7) (pe_tup (pa_cons (pe_dget hu1 (pv 1) (pv 7) (fun _ _ => rfl)) pa_nil)))))))), ?_⟩
    refine fun F nF => ?_
    have s1 := same_upd (o := .dT []) nF
    have eF := upd_same (H := H) (a := F) (o := .dT [])
    generalize upd H F (.dT []) = H1 at *
    have eE1 := s1 _ _ eE
    have nEF : E1 ≠ F := ne_of eE1 eF (by intro z; cases z)
    have tl : ts.length = es.length := Paired.length hts
    refine ⟨_, rfl, E1, rfl, ⟨_, SqL.of eE1⟩, for_list (xs := ts.map V.ref) (fun i σ H' => (∃ x2 x3 x4 x5 x6 x7, σ = [some (.ref E1), some (.ref F), x2, x3, x4, x5, x6, x7]) ∧ Same H H' ∧ H' F = some (.dT (enT (tellD (es.take i)))))
      ⟨⟨none, none, none, none, none, none, rfl⟩, s1, eF⟩ (fun i σ H' _ ⟨_, s, _⟩ => SqL.of (s _ _ eE)) ?_ ?_⟩
    · rintro i y σ H2 hy ⟨⟨x2, x3, x4, x5, x6, x7, rfl⟩, s2, eF2⟩
      obtain ⟨t, e, rfl, he, ht⟩ := evs_at hts hy
      have il := (List.getElem?_eq_some_iff.mp he).1
      have hT := s2 _ _ ht
      refine ⟨t, _, rfl, SqT.of hT, rfl, _, _, rfl, _, _, rfl, _, _, rfl, _, _, rfl, _, _, rfl, rfl, ?_⟩
      refine ⟨_, rfl, _, rfl, _, rfl, _, rfl, _, rfl, _, rfl, by show 4 ≤ sizeLine; decide, fun T nT => ?_⟩
      have s3 := same_upd (o := .tup [V.str (kindS e.mv), .int e.kn, .str e.who, .int e.day]) nT
      have eT := upd_same (H := H2) (a := T) (o := .tup [V.str (kindS e.mv), .int e.kn, .str e.who, .int e.day])
      generalize L2.upd H2 T (.tup [V.str (kindS e.mv), .int e.kn, .str e.who, .int e.day]) = H3 at *
      have eF3 := s3 _ _ eF2
      have hk : (enT (tellD (es.take i))).length < sizeLine := by
        unfold enT
        rw [List.length_map]
        have := (tellD_nd (es.take i)).2
        rw [List.length_take] at this
        exact small2k (by omega)
      refine ⟨F, _, rfl, DPut.t (k := kT (evK e)) eF3 eT hk, ⟨_, _, _, _, _, _, rfl⟩, same_put nF (s2.trans s3), ?_⟩
      rw [upd_same, take_snoc he, tellD_snoc, put_enT]
    · rintro σ H2 ⟨⟨x2, x3, x4, x5, x6, x7, rfl⟩, s2, eF2⟩
      rw [List.length_map, tl, List.take_length] at eF2
      obtain ⟨al, so⟩ := keys_alike es
      refine ⟨_, rfl, F, _, fun v => evKey (fK es H2 v), rfl, .inl eF2, fun b k hb ⟨p, hp, hk⟩ => ?_, al, so, fun P bs nP hbs => ?_⟩
      · obtain ⟨p', _, rfl⟩ := List.mem_map.mp hp
        have hk : kT p'.1 = k := hk
        subst hk
        show evKey (fK es H2 (.ref b)) = _
        rw [fK_is hb]
        rfl
      obtain ⟨cs, ecs, hcs⟩ := keys_sorted hbs
      rw [ecs]
      have s3 := same_upd (o := .lst (cs.map V.ref)) nP
      have eP := upd_same (H := H2) (a := P) (o := .lst (cs.map V.ref))
      generalize L2.upd H2 P (.lst (cs.map V.ref)) = H3 at *
      have cl : cs.length = (entW es).length := Paired.length hcs
      have wl := entW_len es
      have eF3 := s3 _ _ eF2
      refine ⟨P, rfl, ⟨_, SqL.of eP⟩, fun L nL => ?_⟩
      have s03 := s2.trans s3
      refine lc_list (K := K) (a := P) (xs := cs.map V.ref) (fun j H' => Same H3 H' ∧ ∃ us : List Addr, H' L = some (.lst (us.map V.ref)) ∧ Paired (EvT (new H3 H')) us ((entW es).take j)) ⟨same_upd nL, [], upd_same, .nil⟩ (fun j H' _ ⟨s, _⟩ => SqL.of (s _ _ eP)) ?_ ?_
      · rintro j x H4 hx ⟨s4, us, eL, hus⟩
        obtain ⟨b, e, rfl, he, hb⟩ := pick_at hcs hx
        have ul : us.length = j := by
          have h1 := Paired.length hus
          have h2 := (List.getElem?_eq_some_iff.mp he).1
          rw [List.length_take] at h1
          omega
        have jl := (List.getElem?_eq_some_iff.mp he).1
        have hb4 : H4 b = some (.tup (evKey e)) := s4 _ _ (s3 _ _ hb)
        have eF4 := s4 _ _ eF3
        have hv : valV (enT (tellD es)) (kT (evK e)) = some e.w := by
          rw [val_enT]
          show getA (tellD es) (e.mv, e.kn, e.who, e.day) = _
          rw [tellD_val]
          exact ((entW_is es).mem e).mp (List.mem_of_getElem? he)
        have dg : DGet H4 F (.ref b) (some e.w) := by
          rw [← hv]
          exact DGet.t eF4 hb4
        refine ⟨rfl, _, rfl, _, rfl, _, rfl, F, _, rfl, dg, by show 1 ≤ sizeLine; decide, fun T nT => ?_⟩
        have s5 := same_upd (o := .tup [e.w]) nT
        have eT := upd_same (H := H4) (a := T) (o := .tup [e.w])
        generalize L2.upd H4 T (.tup [e.w]) = H5 at *
        refine ⟨b, T, _, _, rfl, rfl, SqT.of (s5 _ _ hb4), SqT.of eT, nofun, by show 4 + 1 ≤ sizeLine; decide, nofun, fun _ R nR => ?_⟩
        have s6 := same_upd (o := .tup (evKey e ++ [e.w])) nR
        have eR := upd_same (H := H5) (a := R) (o := .tup (evKey e ++ [e.w]))
        generalize L2.upd H5 R (.tup (evKey e ++ [e.w])) = H6 at *
        have s46 := s5.trans s6
        have eL6 := s46 _ _ eL
        refine ⟨_, eL6, by rw [List.length_map]; exact small2k (by omega), same_put nL (s4.trans s46), us ++ [R], ?_, ?_⟩
        · rw [upd_same, List.map_append]
          rfl
        · rw [take_snoc he]
          have nR3 : H3 R = none := (s4.trans s5).free nR
          have nRL : R ≠ L := (ne_of_none (s5 _ _ eL) nR).symm
          refine paired_snoc' (paired_imp (fun t e' k => by
            have k : new H3 H4 t = some (.tup _) := k
            obtain ⟨k0, k1⟩ := new_iff.mp k
            exact new_iff.mpr ⟨k0, by rw [upd_ne (ne_of k1 eL (by intro z; cases z))]; exact s46 _ _ k1⟩) hus) (new_iff.mpr ⟨nR3, ?_⟩)
          rw [upd_ne nRL]
          exact eR
      · rintro H4 ⟨s4, us, eL, hus⟩
        rw [List.length_map, cl, List.take_length] at hus
        exact q L us H4 (s03.free nL) eL (paired_imp (fun _ _ k => (new_iff.mp k).2) hus) (s03.trans s4)
end
end K63
set_option Elab.async false
set_option linter.all false
set_option maxRecDepth 100000
set_option maxHeartbeats 1600000
set_option pp.maxSteps 300
namespace K63
open PySem PySem.Spec PyProof.Rows L2 LT NdefX LamX
section
variable {P : Program} {w : World} {K : PySem.W.Frag} {mg : Str → Option Value} {base : Heap}
def spWhere63 (K : PySem.W.Frag) : Sp := fun vs H Q _ => ∃ (E : Addr) (es : List Evt) (z : Str) (d : Int), vs = [.ref E, .str z, .int d] ∧ EvsAt H H E es ∧ es.length ≤ 60 ∧ (∀ e ∈ es, 0 ≤ e.day) ∧ ∀ (r : V) (H' : Hp), IsWhere (heldE es true z none) d r → Same H H' → Q r H'
theorem sc__law_where : FnScope ["_law_events", "_law_name", "_law_day", "_law_held", "_law_kind", "_law_known", "_law_who", "_law_when", "_law_worth_here", "_law_found"] ["_law_events", "_law_name", "_law_day"] (defScope s__law_where) := ⟨rfl, rfl, rfl, by decide +kernel, rfl, by decide +kernel, by decide +kernel⟩
theorem ok__law_where (D : All K P mg) : FnOk P w K mg base CX0 1 D.f__law_where D.d__law_where ["_law_events", "_law_name", "_law_day"] (spWhere63 K) := by
  refine D.h__law_where.fn.ok sc__law_where (fun vs H Q E h => ?_) (fun cdv A outer s H vs Q E hr h => ?_)
  · first | (obtain ⟨_, rfl, _⟩ := h; rfl) | (obtain ⟨_, _, rfl, _⟩ := h; rfl) | (obtain ⟨_, _, _, rfl, _⟩ := h; rfl) | (obtain ⟨_, _, _, _, rfl, _⟩ := h; rfl) | (obtain ⟨_, _, _, _, _, rfl, _⟩ := h; rfl) | (obtain ⟨_, _, _, _, _, _, rfl, _⟩ := h; rfl) | (obtain ⟨_, _, _, _, _, _, _, rfl, _⟩ := h; rfl) | (obtain ⟨_, _, _, _, _, _, _, _, rfl, _⟩ := h; rfl) | (obtain ⟨_, _, _, _, _, _, _, _, _, rfl, _⟩ := h; rfl) | (obtain ⟨_, _, _, _, _, _, _, _, _, _, rfl, _⟩ := h; rfl) | (obtain ⟨_, _, _, _, _, _, _, _, _, _, _, rfl, _⟩ := h; rfl) | (obtain ⟨_, _, _, _, _, _, _, _, _, _, _, _, rfl, _⟩ := h; rfl) | (obtain ⟨_, _, _, _, _, _, _, _, _, _, _, _, _, rfl, _⟩ := h; rfl) | (obtain ⟨_, _, _, _, _, _, _, _, _, _, _, _, _, _, rfl, _⟩ := h; rfl) | (obtain ⟨_, _, _, _, _, _, _, _, _, _, _, _, _, _, _, rfl, _⟩ := h; rfl)
  · have T := D.T
    have nd := sc__law_where.nd
    have hu := hr.units
    have hu1 := hu_of hr
    have hu0 := hr.units0
    obtain ⟨E1, es, z, d, rfl, ⟨ts, eE, hts⟩, hl, h0, q⟩ := h
    refine ⟨_, pss_cons (ps_set (i := 3) nd rfl (.inl rfl) pe_dnewK)
      (pss_cons (ps_for PassesOwn.never rfl (pi_list (pv 0)) (pg_tup rfl (pgs_cons (pg_name (i := 4) nd rfl (Or.inl rfl)) (pgs_cons (pg_name (i := 5) nd rfl (Or.inl rfl)) (pgs_cons (pg_name (i := 6) nd rfl (Or.inl rfl)) (pgs_cons (pg_name (i := 7) nd rfl (Or.inl rfl)) (pgs_cons (pg_name (i := 8) nd rfl (Or.inl rfl)) pgs_nil)))))) (pss_one (ps_if (PW.pt (pw_and (pt_cmpR op_eq (pv 4) pe_str (nomark _)) (pw_and1 (pt_cmpR op_eq (pv 6) (pv 1) (nomark _))))) (pss_one (ps_dput hu1 (pv 3) (pv 7) (pv 8) rfl)) pss_nil)))
      (pss_cons (ps_set (i := 9) nd rfl (.inl rfl) pe_str)
      (pss_cons (ps_for PassesOwn.never rfl (pi_list (pe_callB (call_sortedDI rfl) (by rfl) T.sorted (by decide +kernel) (pa_cons (pv 3) pa_nil))) (pg_name (i := 7) nd rfl (Or.inl rfl)) (pss_one (ps_if (PW.pt (pw_and (pt_cmpR op_le (pv 7) (pv 2) (nomark _)) (pw_and1 (pt_cmpR op_notN (pe_dget hu1 (pv 3) (pv 7) (fun _ _ => rfl)) pe_non (nomark _))))) (pss_one (ps_set (i := 9) nd rfl (.inl rfl) (pe_dget hu1 (pv 3) (pv 7) (fun _ _ => rfl)))) pss_nil)))
      (pss_one (ps_ret (pv 9)))))), ?_⟩
    refine fun F nF => ?_
    have s1 := same_upd (o := .dK []) nF
    have eF := upd_same (H := H) (a := F) (o := .dK [])
    generalize upd H F (.dK []) = H1 at *
    have eE1 := s1 _ _ eE
    have nEF : E1 ≠ F := ne_of eE1 eF (by intro z; cases z)
    have tl : ts.length = es.length := Paired.length hts
    refine ⟨_, rfl, E1, rfl, ⟨_, SqL.of eE1⟩, for_list (xs := ts.map V.ref) (fun i σ H' => (∃ x4 x5 x6 x7 x8 x9, σ = [some (.ref E1), some (.str z), some (.int d), some (.ref F), x4, x5, x6, x7, x8, x9]) ∧ Same H H' ∧ H' F = some (.dK (toldK (heldD (es.take i) true z none))))
      ⟨⟨none, none, none, none, none, none, rfl⟩, s1, eF⟩ (fun i σ H' _ ⟨_, s, _⟩ => SqL.of (s _ _ eE)) ?_ ?_⟩
    · rintro i y σ H2 hy ⟨⟨x4, x5, x6, x7, x8, x9, rfl⟩, s2, eF2⟩
      obtain ⟨t, e, rfl, he, ht⟩ := evs_at hts hy
      have il := (List.getElem?_eq_some_iff.mp he).1
      have hT := s2 _ _ ht
      have e1 : heldD (es.take (i + 1)) true z none = if (ofE true z e && ctK none e.kn) = true then putA (heldD (es.take i) true z none) e.day e.w else heldD (es.take i) true z none := by rw [take_snoc he, heldD_snoc]
      have hlen : (toldK (heldD (es.take i) true z none)).length < sizeLine := by
        rw [told_len]
        have := (heldD_keys true z none (es.take i)).2
        rw [List.length_take] at this
        exact small2k (by omega)
      have no : (ofE true z e && ctK none e.kn) = false → H2 F = some (.dK (toldK (heldD (es.take (i + 1)) true z none))) := fun h => by
        rw [e1, h, if_neg (by nofun)]
        exact eF2
      refine ⟨t, _, rfl, SqT.of hT, rfl, _, _, rfl, _, _, rfl, _, _, rfl, _, _, rfl, _, _, rfl, rfl, ?_⟩
      refine ⟨_, rfl, rfl, _, rfl, ?_⟩
      rw [kind_move]
      cases hm : e.mv with
      | true =>
        refine iteT ⟨_, rfl, _, rfl, rfl, _, rfl, ?_⟩
        rw [dec_str2]
        by_cases hw : e.who = z
        · rw [decide_eq_true hw]
          have ho : ofE true z e = true := ofE_iff.mpr ⟨hm, hw⟩
          refine iteT ⟨_, rfl, _, rfl, _, rfl, _, _, rfl, DPut.k (k := Sum.inl e.day) eF2 hlen, ⟨_, _, _, _, _, _, rfl⟩, same_put nF s2, ?_⟩
          rw [upd_same, told_put, e1, if_pos (by rw [ho]; rfl)]
        · rw [decide_eq_false hw]
          refine iteF ⟨⟨_, _, _, _, _, _, rfl⟩, s2, no ?_⟩
          unfold ofE
          rw [decide_eq_false hw, Bool.and_false]
          rfl
      | false =>
        refine iteF ⟨⟨_, _, _, _, _, _, rfl⟩, s2, no ?_⟩
        unfold ofE
        rw [decide_eq_false (by rw [hm]; nofun)]
        rfl
    · rintro σ H2 ⟨⟨x4, x5, x6, x7, x8, x9, rfl⟩, s2, eF2⟩
      rw [List.length_map, tl, List.take_length] at eF2
      obtain ⟨knd, klen⟩ := heldD_keys true z none es
      have fin := fun found since (h : WhInv (heldD es true z none) d found since) => h.is h0
      have hday : ∀ p ∈ heldD es true z none, 0 ≤ p.1 := fun p hp => by
        have h1 := getA_of_mem knd (show (p.1, p.2) ∈ heldD es true z none from hp)
        rw [heldD_get] at h1
        obtain ⟨e, he, h2, _⟩ := heldO_mem h1
        obtain ⟨_, _, h3⟩ := heldP_iff.mp h2
        have := h0 e he
        omega
      generalize heldD es true z none = t at *
      refine ⟨_, rfl, F, _, t.map (·.1), rfl, .inl eF2, by unfold toldK enA; rw [List.map_map, List.map_map]; rfl, by rw [List.length_map]; omega, fun ys P hp hs nP => ?_⟩
      have s3 := same_upd (o := .lst (ys.map V.int)) nP
      have eP := upd_same (H := H2) (a := P) (o := .lst (ys.map V.int))
      generalize upd H2 P (.lst (ys.map V.int)) = H3 at *
      have eF3 := s3 _ _ eF2
      have yl : ys.length ≤ 60 := by
        have := hp.length_eq
        rw [List.length_map] at this
        omega
      have ynd : ys.Nodup := hp.symm.nodup knd
      obtain ⟨w, ew⟩ : ∃ w : Int → V, ∀ y ∈ ys, (y, w y) ∈ t ∧ getA t y = some (w y) := by
        refine ⟨fun y => (getA t y).getD .non, fun y hy => ?_⟩
        obtain ⟨p, hp', rfl⟩ := List.mem_map.mp (hp.mem_iff.mp hy)
        have := getA_of_mem knd (show (p.1, p.2) ∈ t from hp')
        show (p.1, (getA t p.1).getD .non) ∈ t ∧ getA t p.1 = some ((getA t p.1).getD .non)
        rw [this]
        exact ⟨hp', rfl⟩
      refine ⟨P, rfl, ⟨_, SqL.of eP⟩, for_list (xs := ys.map V.int) (fun i σ H' => H' = H3 ∧ ∃ (found : V) (since : Int) (x4 x5 x6 x7 x8 : Option V), σ = [some (.ref E1), some (.str z), some (.int d), some (.ref F), x4, x5, x6, x7, x8, some found] ∧ WhInv ((ys.take i).map fun y => (y, w y)) d found since ∧ (since = -1 ∨ since ∈ ys.take i))
        ⟨rfl, _, _, _, _, _, _, _, rfl, WhInv.nil, .inl rfl⟩ (fun i σ H' _ ⟨e, _⟩ => by rw [e]; exact SqL.of eP) ?_ ?_⟩
      · rintro i y σ H4 hy ⟨rfl, found, since, x4, x5, x6, x7, x8, rfl, inv, hsn⟩
        rw [List.getElem?_map, Option.map_eq_some_iff] at hy
        obtain ⟨y, hy, rfl⟩ := hy
        obtain ⟨hw1, hw2⟩ := ew y (List.mem_of_getElem? hy)
        have il := (List.getElem?_eq_some_iff.mp hy).1
        have dg : DGet H4 F (.int y) (some (w y)) := by
          rw [← hw2, ← told_val t y]
          exact DGet.k (k := Sum.inl y) eF3
        have y0 : 0 ≤ y := by
          have := hday _ hw1
          exact this
        have lt : since < y := by
          rcases hsn with h | h
          · omega
          · obtain ⟨j, hj⟩ := List.getElem?_of_mem h
            rw [List.getElem?_take] at hj
            split at hj
            · have h1 := List.getElem?_eq_some_iff.mp hj
              have h2 := List.getElem?_eq_some_iff.mp hy
              have h3 := List.pairwise_iff_getElem.mp hs j i h1.1 h2.1 (by omega)
              have h4 := List.pairwise_iff_getElem.mp ynd j i h1.1 h2.1 (by omega)
              rw [h1.2, h2.2] at h3 h4
              omega
            · cases hj
        have mem1 : ∀ x, x ∈ ys.take i → x ∈ ys.take (i + 1) := fun x hx => by
          rw [take_snoc hy]
          exact List.mem_append_left _ hx
        have ap : (ys.take (i + 1)).map (fun y => (y, w y)) = (ys.take i).map (fun y => (y, w y)) ++ [(y, w y)] := by
          rw [take_snoc hy, List.map_append]
          rfl
        rw [ap]
        have skip : (w y = .non ∨ ¬ (since < y ∧ y ≤ d)) → WhInv ((ys.take i).map (fun y => (y, w y)) ++ [(y, w y)]) d found since := fun h => inv.skip h
        refine ⟨_, rfl, _, rfl, _, _, rfl, rfl, _, rfl, ?_⟩
        by_cases h2 : y ≤ d
        · rw [decide_eq_true h2]
          refine iteT ⟨_, rfl, _, rfl, F, _, rfl, dg, rfl, _, rfl, ?_⟩
          by_cases hn : w y = .non
          · rw [decide_eq_true hn]
            exact iteF ⟨rfl, found, since, _, _, _, _, _, rfl, skip (.inl hn), hsn.imp id (mem1 _)⟩
          · rw [decide_eq_false hn]
            refine iteT ⟨_, rfl, _, rfl, F, _, rfl, dg, ?_⟩
            refine ⟨rfl, w y, y, _, _, _, _, _, rfl, inv.take hn lt h2, .inr ?_⟩
            rw [take_snoc hy]
            exact List.mem_append_right _ List.mem_cons_self
        · rw [decide_eq_false h2]
          exact iteF ⟨rfl, found, since, _, _, _, _, _, rfl, skip (.inr fun h => h2 h.2), hsn.imp id (mem1 _)⟩
      · rintro σ H4 ⟨rfl, found, since, x4, x5, x6, x7, x8, rfl, inv, hsn⟩
        rw [List.length_map, List.take_length] at inv
        have inv2 : WhInv t d found since := by
          refine ⟨fun p hp' h1 h2 => ?_, ?_⟩
          · have hy : p.1 ∈ ys := hp.mem_iff.mpr (List.mem_map.mpr ⟨p, hp', rfl⟩)
            have e1 := (ew _ hy).2
            rw [getA_of_mem knd (show (p.1, p.2) ∈ t from hp')] at e1
            have e1 := Option.some.inj e1
            exact inv.1 (p.1, w p.1) (List.mem_map.mpr ⟨p.1, hy, rfl⟩) (by show w p.1 ≠ .non; rw [← e1]; exact h1) h2
          · refine inv.2.imp id fun ⟨a, b⟩ => ⟨?_, b⟩
            obtain ⟨y, hy, e⟩ := List.mem_map.mp a
            rw [← e]
            exact (ew y hy).1
        exact ⟨_, rfl, q found H4 (fin _ _ inv2) (s2.trans s3)⟩
end
end K63
set_option Elab.async false
set_option linter.all false
set_option maxRecDepth 100000
set_option maxHeartbeats 1600000
set_option pp.maxSteps 300
namespace K63
open PySem PySem.Spec PyProof.Rows L2 LT NdefX LamX
section
variable {P : Program} {w : World} {K : PySem.W.Frag} {mg : Str → Option Value} {base : Heap}
theorem sc__law_same : FnScope ["_law_one", "_law_other", "_law_due", "_law_told"] ["_law_one", "_law_other", "_law_due"] (defScope s__law_same) := ⟨rfl, rfl, rfl, by decide +kernel, rfl, by decide +kernel, by decide +kernel⟩
theorem ok__law_same (D : All K P mg) (TB : TBs D base) : FnOk P w K mg base CX0 12 D.f__law_same D.d__law_same ["_law_one", "_law_other", "_law_due"] (spSame63 D.C_Book D.C_History (TLs D)) := by
  refine D.h__law_same.fn.ok sc__law_same (fun vs H Q E h => ?_) (fun cdv A outer s H vs Q E hr h => ?_)
  · first | (obtain ⟨_, rfl, _⟩ := h; rfl) | (obtain ⟨_, _, rfl, _⟩ := h; rfl) | (obtain ⟨_, _, _, rfl, _⟩ := h; rfl) | (obtain ⟨_, _, _, _, rfl, _⟩ := h; rfl) | (obtain ⟨_, _, _, _, _, rfl, _⟩ := h; rfl) | (obtain ⟨_, _, _, _, _, _, rfl, _⟩ := h; rfl) | (obtain ⟨_, _, _, _, _, _, _, rfl, _⟩ := h; rfl) | (obtain ⟨_, _, _, _, _, _, _, _, rfl, _⟩ := h; rfl) | (obtain ⟨_, _, _, _, _, _, _, _, _, rfl, _⟩ := h; rfl) | (obtain ⟨_, _, _, _, _, _, _, _, _, _, rfl, _⟩ := h; rfl) | (obtain ⟨_, _, _, _, _, _, _, _, _, _, _, rfl, _⟩ := h; rfl) | (obtain ⟨_, _, _, _, _, _, _, _, _, _, _, _, rfl, _⟩ := h; rfl) | (obtain ⟨_, _, _, _, _, _, _, _, _, _, _, _, _, rfl, _⟩ := h; rfl) | (obtain ⟨_, _, _, _, _, _, _, _, _, _, _, _, _, _, rfl, _⟩ := h; rfl) | (obtain ⟨_, _, _, _, _, _, _, _, _, _, _, _, _, _, _, rfl, _⟩ := h; rfl)
  · have T := D.T
    have nd := sc__law_same.nd
    have hu := hr.units
    have hu1 := hu_of hr
    have hu0 := hr.units0
    obtain ⟨b, c, rk, rk', es, es', fp, fp', due, rfl, W, W', bc, hl, hl', h1, h2, TT, q⟩ := h
    refine ⟨_, pss_cons (ps_set (i := 3) nd rfl (.inl rfl) (pe_lst (pa_cons (pe_cmpR (op_own D.Q_Book (ok_Book___eq__ D TB) (hr.mono (by decide)) D.h_Book___eq__.bd) (pv 0) (pv 1) (nomark _)) (pa_cons (pe_cmpR (op_own D.Q_Book (ok_Book___eq__ D TB) (hr.mono (by decide)) D.h_Book___eq__.bd) (pv 1) (pv 0) (nomark _)) (pa_cons (pe_cmpR (op_in_rG D.Q_Book (ok_Book___eq__ D TB) (hr.mono (by decide)) D.h_Book___eq__.bd) (pv 0) (pe_lst (pa_cons (pv 1) pa_nil)) (by rfl)) pa_nil)))))
      (pss_one (ps_ret (pe_and (pe_cmpR (op_eqD hr.units) (pv 3) (pe_op op_rep (pe_lst (pa_cons (pv 2) pa_nil)) pe_int) (nomark _)) (pe_one (pe_cmpR op_eq (pe_cmpR (op_ne_own D.Q_Book (ok_Book___eq__ D TB) (hr.mono (by decide)) D.h_Book___eq__.bd) (pv 0) (pv 1) (nomark _)) (pe_not (pv 2)) (nomark _)))))), ?_⟩
    obtain ⟨dx, R, M, L, v, ix⟩ := W.ix
    obtain ⟨dx', R', M', Lq', v', ix'⟩ := W'.ix
    refine ⟨_, rfl, _, rfl, .inl ⟨b, _, _, rfl, ix, .ins ix', _, _, rfl, .inl ⟨b, c, rk, rk', es, es', fp, fp', rfl, W, W', hl, hl', TT, fun H1 e1 T1 => ⟨_, rfl, ?_⟩⟩⟩⟩
    rw [h1]
    have W1 := W.extN e1
    have W1' := W'.extN e1
    have ix1 := e1 _ _ ix nofun
    have ix1' := e1 _ _ ix' nofun
    refine ⟨_, rfl, _, rfl, .inl ⟨c, _, _, rfl, ix1', .ins ix1, _, _, rfl, .inl ⟨c, b, rk', rk, es', es, fp', fp, rfl, W1', W1, hl', hl, T1, fun H2 e2 T2 => ⟨_, rfl, ?_⟩⟩⟩⟩
    rw [h2]
    have W2 := W1.extN e2
    have W2' := W1'.extN e2
    have ix2 := e2 _ _ ix1 nofun
    have ix2' := e2 _ _ ix1' nofun
    refine ⟨_, rfl, _, rfl, by show 1 ≤ sizeLine; decide, fun l nl => ?_⟩
    have s3 := same_upd (o := .lst [V.ref c]) nl
    have el := upd_same (H := H2) (a := l) (o := .lst [V.ref c])
    generalize L2.upd H2 l (.lst [V.ref c]) = H3 at *
    have W3 := W2.mono s3
    have W3' := W2'.mono s3
    refine ⟨due, l, b, c, _, _, _, _, rfl, rfl, el, s3 _ _ ix2, s3 _ _ ix2', Ne.symm bc, _, _, rfl, .inl ⟨c, b, rk', rk, es', es, fp', fp, rfl, W3', W3, hl', hl, T2.ext s3, fun H4 e4 T4 => ⟨_, rfl, by rw [h2], e4 _ _ el nofun, ?_⟩⟩⟩
    refine ⟨by show 3 ≤ sizeLine; decide, fun t nt => ?_⟩
    have s5 := same_upd (o := .lst [V.bl due, .bl due, .bl due]) nt
    have et := upd_same (H := H4) (a := t) (o := .lst [V.bl due, .bl due, .bl due])
    generalize L2.upd H4 t (.lst [V.bl due, .bl due, .bl due]) = H5 at *
    refine ⟨_, rfl, _, rfl, by show 1 ≤ sizeLine; decide, fun u nu => ?_⟩
    have s6 := same_upd (o := .lst [V.bl due]) nu
    have eu := upd_same (H := H5) (a := u) (o := .lst [V.bl due])
    generalize L2.upd H5 u (.lst [V.bl due]) = H6 at *
    refine ⟨u, 3, _, rfl, rfl, eu, by decide, by decide, by show 1 * 3 ≤ sizeLine; decide, fun w nw => ?_⟩
    rw [show (List.replicate (3 : Int).toNat [V.bl due]).flatten = [V.bl due, V.bl due, V.bl due] from rfl]
    have s7 := same_upd (o := .lst [V.bl due, .bl due, .bl due]) nw
    have ew := upd_same (H := H6) (a := w) (o := .lst [V.bl due, .bl due, .bl due])
    generalize L2.upd H6 w (.lst [V.bl due, .bl due, .bl due]) = H7 at *
    have ee : ∀ d : Bool, SeqAt.shaped (.list [.bool d, .bool d, .bool d]) = true ∧ PyData.eqv (.list [.bool d, .bool d, .bool d]) (.list [.bool d, .bool d, .bool d]) = true := by
      intro d
      cases d <;> exact ⟨by decide +kernel, by decide +kernel⟩
    obtain ⟨sh, ev⟩ := ee due
    have s47 := s5.trans (s6.trans s7)
    refine ⟨_, _, .lst (SqL.of ((s6.trans s7) _ _ et)) (.cons (.bl _) (.cons (.bl _) (.cons (.bl _) .nil))), .lst (SqL.of ew) (.cons (.bl _) (.cons (.bl _) (.cons (.bl _) .nil))), sh, sh, ?_⟩
    rw [ev]
    have e37 : ExtN H3 H7 := e4.trans (ExtN.of s47)
    have W7 := W3.extN e37
    have W7' := W3'.extN e37
    refine ⟨_, rfl, iteT ⟨_, rfl, _, rfl, b, c, _, _, _, _, rfl, rfl, e37 _ _ (s3 _ _ ix2) nofun, e37 _ _ (s3 _ _ ix2') nofun, _, _, rfl, .inl ⟨b, c, rk, rk', es, es', fp, fp', rfl, W7, W7', hl, hl', T4.ext s47, fun H8 e8 T8 => ⟨_, rfl, _, rfl, ?_⟩⟩⟩⟩
    rw [h1]
    have key : ∀ d : Bool, Q (.bl true) H8 → Q (.bl (decide (V.bl d = V.bl d))) H8 := fun d h => by
      rw [decide_eq_true (rfl : V.bl d = V.bl d)]
      exact h
    exact ⟨_, rfl, due, rfl, rfl, key _ (q H8 (e1.trans (e2.trans ((ExtN.of s3).trans (e37.trans e8)))) T8)⟩
end
end K63
set_option Elab.async false
set_option linter.all false
set_option maxRecDepth 100000
set_option maxHeartbeats 1600000
set_option pp.maxSteps 300
namespace K63
open PySem PySem.Spec PyProof.Rows L2 LT NdefX LamX
section
variable {P : Program} {w : World} {K : PySem.W.Frag} {mg : Str → Option Value} {base : Heap}
theorem sc__law_by_another_road : FnScope ["_law_ranks", "_law_events", "_law_found", "_law_kind", "_law_known", "_law_name", "_law_day", "_law_worth_here"] ["_law_ranks", "_law_events"] (defScope s__law_by_another_road) := ⟨rfl, rfl, rfl, by decide +kernel, rfl, by decide +kernel, by decide +kernel⟩
theorem ok__law_by_another_road (D : All K P mg) (TB : TBs D base) : FnOk P w K mg base CX0 9 D.f__law_by_another_road D.d__law_by_another_road ["_law_ranks", "_law_events"] (spRoad D.C_Book D.C_History (TLs D)) := by
  refine D.L__law_by_another_road.ok sc__law_by_another_road (fun vs H Q E h => ?_) (fun A outer s H vs Q E hr h => ?_)
  · first | (obtain ⟨_, rfl, _⟩ := h; rfl) | (obtain ⟨_, _, rfl, _⟩ := h; rfl) | (obtain ⟨_, _, _, rfl, _⟩ := h; rfl) | (obtain ⟨_, _, _, _, rfl, _⟩ := h; rfl) | (obtain ⟨_, _, _, _, _, rfl, _⟩ := h; rfl) | (obtain ⟨_, _, _, _, _, _, rfl, _⟩ := h; rfl) | (obtain ⟨_, _, _, _, _, _, _, rfl, _⟩ := h; rfl) | (obtain ⟨_, _, _, _, _, _, _, _, rfl, _⟩ := h; rfl) | (obtain ⟨_, _, _, _, _, _, _, _, _, rfl, _⟩ := h; rfl) | (obtain ⟨_, _, _, _, _, _, _, _, _, _, rfl, _⟩ := h; rfl) | (obtain ⟨_, _, _, _, _, _, _, _, _, _, _, rfl, _⟩ := h; rfl) | (obtain ⟨_, _, _, _, _, _, _, _, _, _, _, _, rfl, _⟩ := h; rfl) | (obtain ⟨_, _, _, _, _, _, _, _, _, _, _, _, _, rfl, _⟩ := h; rfl) | (obtain ⟨_, _, _, _, _, _, _, _, _, _, _, _, _, _, rfl, _⟩ := h; rfl) | (obtain ⟨_, _, _, _, _, _, _, _, _, _, _, _, _, _, _, rfl, _⟩ := h; rfl)
  · have T := D.T
    have nd := sc__law_by_another_road.nd
    have hu := hr.units
    have hu1 := hu_of hr
    have hu0 := hr.units0
    obtain ⟨r, E1, rk, ev, rfl, hr', k, hE, hl, ok, hT, q⟩ := h
    refine ⟨_, pss_cons (ps_set (i := 2) nd rfl (.inl rfl) (pe_make D.M_Book (ok_Book___init__ D) (hr.mono (by decide)) (by rfl) D.Z_Book.gl D.h_Book___init__.bd .nil pass0 (pa_cons (pe_callTy (call_dictP rfl) (by rfl) T.dict (by decide +kernel) (pa_cons (pe_revL (LiI.pe_listItems rfl (pv 0) (by rfl) T.list (by rfl))) pa_nil)) pa_nil)))
      (pss_cons (ps_for PassesOwn.never rfl (pi_list (pe_sortedLam (T := TLs D) (x := "_law_entry") (k := 0) (by rfl) T.sorted (pa_cons (pe_call (ok__law_entries D) (hr.mono (by decide)) (by rfl) D.h__law_entries.gl D.h__law_entries.fn.kp D.h__law_entries.bd .nil pass0 (pa_cons (pv 1) pa_nil)) pa_nil) rfl rfl TB.t__law_by_another_road rfl D.mem__law_by_another_road (fun p hp e => D.uq__law_by_another_road p hp e) (show LamP (defScope s__law_by_another_road) _ _ from lamP_by (by decide +kernel)) (show ("_law_entry" : Str) ∉ (["_law_ranks", "_law_events", "_law_found", "_law_kind", "_law_known", "_law_name", "_law_day", "_law_worth_here"] : List Str) by decide) rfl (fun _ _ _ _ _ _ => rfl) (hr.mono (by decide)) (fun A outer s H f c' hr3 => pe_ix (r := rIxT K) ix_tup (pv 0) pe_int (fun _ _ => rfl)) (by decide +kernel))) (pg_tup rfl (pgs_cons (pg_name (i := 3) nd rfl (Or.inl rfl)) (pgs_cons (pg_name (i := 4) nd rfl (Or.inl rfl)) (pgs_cons (pg_name (i := 5) nd rfl (Or.inl rfl)) (pgs_cons (pg_name (i := 6) nd rfl (Or.inl rfl)) (pgs_cons (pg_name (i := 7) nd rfl (Or.inl rfl)) pgs_nil)))))) (pss_one (ps_expr (pe_call (ok__law_tell D) (hr.mono (by decide)) (by rfl) D.h__law_tell.gl D.h__law_tell.fn.kp D.h__law_tell.bd .nil pass0 (pa_cons (pv 2) (pa_cons (pe_tup (pa_cons (pv 3) (pa_cons (pv 4) (pa_cons (pv 5) (pa_cons (pv 6) (pa_cons (pv 7) pa_nil)))))) pa_nil))))))
      (pss_one (ps_ret (pv 2)))), ?_⟩
    refine ⟨_, rfl, r, sd rk, rfl, hr', fun H1 p0 ts s1' np0 nts np0ts ep0 hts => ?_⟩
    have s1 : Same H H1 := s1'
    refine ⟨p0, ts.map V.ref, rfl, SqL.of ep0, fun p1 np1 => ?_⟩
    have er : (ts.map V.ref).reverse = ts.reverse.map V.ref := (List.map_reverse ..).symm
    rw [er]
    have s2 := same_upd (o := .lst (ts.reverse.map V.ref)) np1
    have ep1 := upd_same (H := H1) (a := p1) (o := .lst (ts.reverse.map V.ref))
    generalize L2.upd H1 p1 (.lst (ts.reverse.map V.ref)) = H2 at *
    have hts2 : Paired (fun (p : Addr) (kv : Key × V) => H2 p = some (.tup [kV kv.1, kv.2])) ts.reverse (sd rk).reverse := paired_rev63 (paired_imp (fun _ _ h => s2 _ _ h) hts)
    have esd : (sd rk).reverse = sd rk.reverse := by unfold sd; rw [List.map_reverse]
    rw [esd] at hts2
    refine ⟨p1, ts.reverse, sd rk.reverse, rfl, SqL.of ep1, paired_imp (fun _ _ h => SqT.of h) hts2, fun p2 np2 => ?_⟩
    have kr : Rk rk.reverse := ⟨by rw [List.map_reverse]; exact (List.reverse_perm _).nodup_iff.mpr k.nd, fun p hp => k.nm p (List.mem_reverse.mp hp), fun p hp => k.b1 p (List.mem_reverse.mp hp), by rw [List.length_reverse]; exact k.ln⟩
    rw [merge_id (kvs := sd rk.reverse) (by rw [sd_keys]; exact kr.nd.map _ fun _ _ h e => h (Sum.inr.inj e))]
    have s3 := same_upd (o := .dK (sd rk.reverse)) np2
    have ep2 := upd_same (H := H2) (a := p2) (o := .dK (sd rk.reverse))
    generalize L2.upd H2 p2 (.dK (sd rk.reverse)) = H3 at *
    refine fun b dx nb ndb nex => ?_
    have sm := same_made (C := D.C_Book) (o := .ins D.C_Book dx []) nb ndb
    refine ⟨b, dx, p2, rk.reverse, rfl, upd_same, sm _ _ ep2, kr, fun fp H4 bk fr sb => ⟨rfl, ?_⟩⟩
    have s34 : Same H3 H4 := sameB_new nb sm sb
    have s04 : Same H H4 := s1.trans (s2.trans (s3.trans s34))
    have frN : ∀ a ∈ fp, H a = none := fun a ha => by
      rcases fr a ha with h | h
      · rw [h]
        exact (s1.trans (s2.trans s3)).free nb
      · exact (s1.trans (s2.trans s3)).free (sm.free h)
    refine ⟨_, rfl, E1, ev, rfl, hE.mono s04 s04, by omega, fun l us H5 nl5 el hus s5 => ⟨hT.ext (s04.trans s5), l, us.map V.ref, fun v => (evOfV H5 v).kn, rfl, .inl (SqL.of el), fun H6 e6 T6 => ⟨fun v hv Q' hQ' => ?_, fun l2 nl => ⟨l2, rfl, ⟨_, SqL.of upd_same⟩, ?_⟩⟩⟩⟩
    · obtain ⟨i, hi⟩ := List.getElem?_of_mem hv
      obtain ⟨t, e, rfl, _, ht⟩ := pick_at hus hi
      have ht6 := e6 _ _ (show H5 t = some (.tup [.str (kindS e.mv), .int e.kn, .str e.who, .int e.day, e.w]) from ht) nofun
      have hQ' : Q' (.int (evOfV H5 (.ref t)).kn) H6 := hQ'
      rw [evOf_is ht] at hQ'
      exact ⟨_, rfl, t, _, 1, _, rfl, rfl, SqT.of ht6, atI_nat (j := 1) rfl, hQ'⟩
    obtain ⟨ts', e1, hts'⟩ := kn_sorted hus
    obtain ⟨Lw, eLw⟩ : ∃ L, L = entW ev := ⟨_, rfl⟩
    have okL : ∀ e ∈ Lw, EvOK rk e := fun e he => ok e ((entW_is ev).sub e (by rw [← eLw]; exact he))
    have lL : Lw.length ≤ 60 := by
      have := entW_len ev
      rw [eLw]
      omega
    rw [← eLw] at hus hts' q
    have up := kn_rising Lw
    have pm := List.mergeSort_perm Lw knLe
    have ok' : ∀ e ∈ Lw.mergeSort knLe, EvOK rk.reverse e := fun e he => by
      have h := okL e (pm.mem_iff.mp he)
      exact ⟨h.k0, h.d0, h.d1, fun hm => ⟨by rw [List.map_reverse]; exact List.mem_reverse.mpr (h.mw hm).1, (h.mw hm).2⟩, h.lw⟩
    have hl' : (Lw.mergeSort knLe).length ≤ 60 := by rw [pm.length_eq]; exact lL
    generalize Lw.mergeSort knLe = L' at *
    show ∃ W : Nat → Nat → L2.St → Hp → Prop, _
    rw [show ((us.map V.ref).mergeSort fun a b => decide ((fun v => (evOfV H5 v).kn) a ≤ (fun v => (evOfV H5 v).kn) b)) = ts'.map V.ref from e1]
    have s7 := same_upd (o := .lst (ts'.map V.ref)) nl
    have el2 := upd_same (H := H6) (a := l2) (o := .lst (ts'.map V.ref))
    have bk6 : Bk D.C_Book D.C_History H6 b rk.reverse [] fp := (bk.mono s5).extN e6
    have nl2 : l2 ∉ fp := fun h => by
      obtain ⟨o, ho⟩ := bk6.ex _ h
      rw [nl] at ho
      cases ho
    generalize L2.upd H6 l2 (.lst (ts'.map V.ref)) = H7 at *
    have e57 : ExtN H5 H7 := e6.trans (extN_same s7)
    have e07 : ExtN H H7 := (extN_same (s04.trans s5)).trans e57
    have T7 := T6.ext s7
    have bk7 := bk6.mono s7
    refine for_list (xs := ts'.map V.ref) (fun i σ H' => ∃ (x3 x4 x5 x6 x7 : Option V) (fp' : List Addr), σ = [some (.ref r), some (.ref E1), some (.ref b), x3, x4, x5, x6, x7] ∧ Bk D.C_Book D.C_History H' b rk.reverse (L'.take i) fp' ∧ (∀ c ∈ fp', NewN H c) ∧ l2 ∉ fp' ∧ H' l2 = some (.lst (ts'.map V.ref)) ∧ ExtN H H' ∧ Paired (EvT H') ts' L' ∧ Tabs (TLs D) H')
      ⟨none, none, none, none, none, fp, rfl, bk7, fun c hc => newN_none (frN c hc), nl2, el2, e07, paired_imp (fun _ _ h => e57 _ _ h (fun _ e => by cases e)) hts', T7⟩ (fun i σ H' _ ⟨_, _, _, _, _, _, _, _, _, _, h, _⟩ => SqL.of h) ?_ ?_
    · rintro i v σ H8 hv ⟨x3, x4, x5, x6, x7, fp4, rfl, bk8, n8, nl8, el8, e8, e58, T8⟩
      obtain ⟨t, e, rfl, he, ht⟩ := pick_at e58 hv
      have ht8 : H8 t = some (.tup [.str (kindS e.mv), .int e.kn, .str e.who, .int e.day, e.w]) := ht
      have hi : i < L'.length := (List.getElem?_eq_some_iff.mp he).1
      have oke := ok' e (List.mem_of_getElem? he)
      have kle : ∀ x ∈ L'.take i, x.kn ≤ e.kn := fun x hx => by
        obtain ⟨j, hj⟩ := List.getElem?_of_mem hx
        rw [List.getElem?_take] at hj
        split at hj
        · have h1 := List.getElem?_eq_some_iff.mp hj
          have h2 := List.getElem?_eq_some_iff.mp he
          have := List.pairwise_iff_getElem.mp up j i h1.1 h2.1 (by omega)
          rw [h1.2, h2.2] at this
          exact this
        · cases hj
      have tl : (L'.take i).length < 60 := by
        rw [List.length_take]
        omega
      refine ⟨t, _, rfl, SqT.of ht8, rfl, _, _, rfl, _, _, rfl, _, _, rfl, _, _, rfl, _, _, rfl, rfl, ?_⟩
      refine ⟨_, rfl, _, rfl, _, rfl, _, rfl, _, rfl, _, rfl, by show 5 ≤ sizeLine; decide, fun T nT => ?_⟩
      have s9 := same_upd (o := .tup [V.str (kindS e.mv), .int e.kn, .str e.who, .int e.day, e.w]) nT
      have eT := upd_same (H := H8) (a := T) (o := .tup [V.str (kindS e.mv), .int e.kn, .str e.who, .int e.day, e.w])
      generalize L2.upd H8 T (.tup [V.str (kindS e.mv), .int e.kn, .str e.who, .int e.day, e.w]) = H9 at *
      refine ⟨b, T, rk.reverse, L'.take i, fp4, e, rfl, bk8.mono s9, eT, oke, kle, tl, fun fp' H' W' fr' s => ?_⟩
      have e9 : ExtN H H9 := e8.trans (extN_same s9)
      refine ⟨_, _, _, _, _, fp', rfl, by rw [take_snoc he]; exact W', fun c hc => ?_, fun h => ?_, s _ _ nl8 (s9 _ _ el8), extN_L e9 n8 s, paired_imp (fun _ _ h => s _ _ (bk8.nt h) (s9 _ _ h)) e58, tabs_L (T8.ext s9) (bk8.mono s9).pl s⟩
      · rcases fr' c hc with h | h
        · exact n8 c h
        · exact newN_of e9 h
      · rcases fr' _ h with h | h
        · exact nl8 h
        · rw [s9 _ _ el8] at h
          cases h
    · rintro σ H8 ⟨x3, x4, x5, x6, x7, fp4, rfl, bk8, n8, nl8, el8, e8, e58, T8⟩
      have tl : (ts'.map V.ref).length = L'.length := by rw [List.length_map]; exact Paired.length hts'
      rw [tl, List.take_length] at bk8
      exact ⟨_, rfl, q b fp4 H8 bk8 n8 e8 T8⟩
end
end K63
set_option Elab.async false
set_option linter.all false
set_option maxRecDepth 100000
set_option maxHeartbeats 1600000
set_option pp.maxSteps 300
namespace K63
open PySem PySem.Spec PyProof.Rows L2 LT NdefX LamX
section
variable {P : Program} {w : World} {K : PySem.W.Frag} {mg : Str → Option Value} {base : Heap}
theorem sc__law_stands : FnScope ["_law_book", "_law_ranks", "_law_events", "_law_due", "_law_kind", "_law_known", "_law_name", "_law_day", "_law_worth_here", "_law_told", "_law_kept", "_law_own", "_law_last"] ["_law_book", "_law_ranks", "_law_events"] (defScope s__law_stands) := ⟨rfl, rfl, rfl, by decide +kernel, rfl, by decide +kernel, by decide +kernel⟩
theorem ok__law_stands (D : All K P mg) (TB : TBs D base) : FnG P w K mg base CX0 12 D.f__law_stands D.d__law_stands ["_law_book", "_law_ranks", "_law_events"] (spStands D.C_Book D.C_History (TLs D)) := by
  refine okG D.h__law_stands.fn sc__law_stands (fun h => ?_) (fun cdv A outer s H vs Q E hG hr h => ?_)
  · first | (obtain ⟨_, rfl, _⟩ := h; rfl) | (obtain ⟨_, _, rfl, _⟩ := h; rfl) | (obtain ⟨_, _, _, rfl, _⟩ := h; rfl) | (obtain ⟨_, _, _, _, rfl, _⟩ := h; rfl) | (obtain ⟨_, _, _, _, _, rfl, _⟩ := h; rfl) | (obtain ⟨_, _, _, _, _, _, rfl, _⟩ := h; rfl) | (obtain ⟨_, _, _, _, _, _, _, rfl, _⟩ := h; rfl) | (obtain ⟨_, _, _, _, _, _, _, _, rfl, _⟩ := h; rfl) | (obtain ⟨_, _, _, _, _, _, _, _, _, rfl, _⟩ := h; rfl) | (obtain ⟨_, _, _, _, _, _, _, _, _, _, rfl, _⟩ := h; rfl) | (obtain ⟨_, _, _, _, _, _, _, _, _, _, _, rfl, _⟩ := h; rfl) | (obtain ⟨_, _, _, _, _, _, _, _, _, _, _, _, rfl, _⟩ := h; rfl) | (obtain ⟨_, _, _, _, _, _, _, _, _, _, _, _, _, rfl, _⟩ := h; rfl) | (obtain ⟨_, _, _, _, _, _, _, _, _, _, _, _, _, _, rfl, _⟩ := h; rfl) | (obtain ⟨_, _, _, _, _, _, _, _, _, _, _, _, _, _, _, rfl, _⟩ := h; rfl)
  · have T := D.T
    have nd := sc__law_stands.nd
    have hu := hr.units
    have hu1 := hu_of hr
    have hu0 := hr.units0
    have hG2 : (cxOf CX0 P w K mg base ["_law_book", "_law_ranks", "_law_events", "_law_due", "_law_kind", "_law_known", "_law_name", "_law_day", "_law_worth_here", "_law_told", "_law_kept", "_law_own", "_law_last"] "_law_stands" (defScope s__law_stands) D.f__law_stands cdv A outer s H E).nox.A.guards = some [] := hG
    obtain ⟨b, r, E1, rk, ev, es, fp, rfl, W, hr', hE, R, TT, q⟩ := h
    obtain ⟨_, v3_Book_where, b3_Book_where⟩ := D.q_Book_where.binds1 (ps := ["self", "keeper", "day", "known"]) 3 0 (by simp) (by rfl) (fun _ _ _ _ _ _ _ us its h1 h2 => match us, its, h1, h2 with | [_, _, _], [_], _, _ => ⟨_, rfl, rfl⟩)
    refine ⟨_, pss_cons (ps_set (i := 3) nd rfl (.inl rfl) (pe_call (ok__law_entries D) (hr.mono (by decide)) (by rfl) D.h__law_entries.gl D.h__law_entries.fn.kp D.h__law_entries.bd .nil pass0 (pa_cons (pv 2) pa_nil)))
      (pss_cons (ps_for PassesOwn.never rfl (pi_list (pe_slice sl_list (pv 2) (po_some (pe_un un_neg pe_int)) po_none)) (pg_tup rfl (pgs_cons (pg_name (i := 4) nd rfl (Or.inl rfl)) (pgs_cons (pg_name (i := 5) nd rfl (Or.inl rfl)) (pgs_cons (pg_name (i := 6) nd rfl (Or.inl rfl)) (pgs_cons (pg_name (i := 7) nd rfl (Or.inl rfl)) (pgs_cons (pg_name (i := 8) nd rfl (Or.inl rfl)) pgs_nil)))))) (pss_one (ps_if (PW.pt (pw_and (pt_cmpR op_eq (pv 4) pe_str (nomark _)) (pw_and1 (pt_cmpR op_ne (pe_meth (pv 0) D.Z_Book.cl D.me_Book_where (ok_Book_where D) (hr.mono (by decide)) b3_Book_where v3_Book_where pass0 (pa_cons (pv 6) (pa_cons (pe_op op_add (pv 7) pe_int) pa_nil))) (pe_call (ok__law_where D) (hr.mono (by decide)) (by rfl) D.h__law_where.gl D.h__law_where.fn.kp D.h__law_where.bd .nil pass0 (pa_cons (pv 2) (pa_cons (pv 6) (pa_cons (pe_op op_add (pv 7) pe_int) pa_nil)))) (nomark _))))) (pss_one (ps_ret pe_bl)) pss_nil)))
      (pss_cons (ps_set (i := 9) nd rfl (.inl rfl) (pe_meth0 (pv 0) D.Z_Book.cl D.me_Book_entries (ok_Book_entries D TB) (hr.mono (by decide)) D.lb_Book_entries .nil pass0))
      (pss_cons (ps_if (PW.pt (pw_or (pt_not (pt_val (pe_callB call_isi (by rfl) T.isi (by decide +kernel) (pa_cons (pv 9) (pa_cons (pe_bltn (v := .ty "list") (by rfl) T.list (by decide +kernel) rfl) pa_nil))))) (pw_or (pt_cmpR op_ne (pe_callB (call_reprSd hG2 hu) (by rfl) T.repr (by decide +kernel) (pa_cons (pv 9) pa_nil)) (pe_callB (call_reprSd hG2 hu) (by rfl) T.repr (by decide +kernel) (pa_cons (pv 3) pa_nil)) (nomark _)) (pw_or1 (pt_cmpR op_ne (pe_callB (call_len_own D.h_Book___len__.me.at_ D.h_Book___len__.me.fn (ok_Book___len__ D TB) (hr.mono (by decide)) D.h_Book___len__.bd) (by rfl) T.len PySem.boot_len (pa_cons (pv 0) pa_nil)) (pe_callB call_len_seq (by rfl) T.len PySem.boot_len (pa_cons (pv 3) pa_nil)) (nomark _)))))) (pss_one (ps_ret pe_bl)) pss_nil)
      (pss_cons (ps_expr (pe_bm PySem.F.plainAttrs_list PySem.F.slot_list_append PySem.F.type_list_append mt_append (pv 9) (pa_cons pe_str pa_nil)))
      (pss_cons (ps_set (i := 10) nd rfl (.inl rfl) (pe_callB (call_reprSd hG2 hu) (by rfl) T.repr (by decide +kernel) (pa_cons (pv 9) pa_nil)))
      (pss_cons (ps_set (i := 11) nd rfl (.inl rfl) (pe_meth0 (pv 0) D.Z_Book.cl D.h_Book_ranks.me (ok_Book_ranks D) (hr.mono (by decide)) D.h_Book_ranks.bd .nil pass0))
      (pss_cons (ps_if (PW.pt (pw_or (pt_cmpR (op_neDG hr.units0) (pv 11) (pv 1) (nomark _)) (pw_or (pt_cmpR (op_neD hr.units) (pe_meth0 (pv 0) D.Z_Book.cl D.me_Book_entries (ok_Book_entries D TB) (hr.mono (by decide)) D.lb_Book_entries .nil pass0) (pv 3) (nomark _)) (pw_or1 (pt_cmpR op_ne (pe_callB (call_reprSd hG2 hu) (by rfl) T.repr (by decide +kernel) (pa_cons (pv 9) pa_nil)) (pv 10) (nomark _)))))) (pss_one (ps_ret pe_bl)) pss_nil)
      (pss_cons (ps_dput hu1 (pv 11) pe_str pe_int rfl)
      (pss_cons (ps_if (PW.pt (pw_or (pt_cmpR (op_neDG hr.units0) (pe_meth0 (pv 0) D.Z_Book.cl D.h_Book_ranks.me (ok_Book_ranks D) (hr.mono (by decide)) D.h_Book_ranks.bd .nil pass0) (pv 1) (nomark _)) (pw_or (pt_cmpR op_ne (pe_dpop1 (pv 11) pe_str ⟨rfl, rfl, rfl, rfl⟩) pe_int (nomark _)) (pw_or1 (pt_cmpR (op_neDG hr.units0) (pv 11) (pv 1) (nomark _)))))) (pss_one (ps_ret pe_bl)) pss_nil)
      (pss_cons (ps_dput hu1 (pv 11) pe_str pe_int rfl)
      (pss_cons (ps_set (i := 12) nd rfl (.inl rfl) pe_non)
      (pss_cons (ps_if (pt_cmpR (op_neNil hu) (pv 2) (pe_lst pa_nil) (nomark _)) (pss_one (ps_set (i := 12) nd rfl (.inl rfl) (pe_ix ix_tup (pe_ix ix_list (pv 2) (pe_un un_neg pe_int) (fun _ _ => rfl)) pe_int (fun _ _ => rfl)))) pss_nil)
      (pss_one (ps_ret (pe_and (pe_cmpR (op_eqDG hr.units0) (pe_meth0 (pv 0) D.Z_Book.cl D.h_Book_ranks.me (ok_Book_ranks D) (hr.mono (by decide)) D.h_Book_ranks.bd .nil pass0) (pv 1) (nomark _)) (pe_and (pe_cmpR op_eq (pe_meth0 (pv 0) D.Z_Book.cl D.h_Book_last_known.me (ok_Book_last_known D) (hr.mono (by decide)) D.h_Book_last_known.bd .nil pass0) (pv 12) (nomark _)) (pe_one (pe_not (pe_callB call_isi (by rfl) T.isi (by decide +kernel) (pa_cons (pe_meth0 (pv 0) D.Z_Book.cl D.h_Book_last_known.me (ok_Book_last_known D) (hr.mono (by decide)) D.h_Book_last_known.bd .nil pass0) (pa_cons (pe_bltn (v := .ty "bool") (by rfl) T.bool (by decide +kernel) rfl) pa_nil))))))))))))))))))))), ?_⟩
    obtain ⟨ts0, eE, hts0⟩ := hE
    obtain ⟨dxb, Rb, Mb, Lb, vb, ix⟩ := W.ix
    have l1 := R.l1
    have l2 := R.l2
    refine ⟨_, rfl, E1, ev, rfl, ⟨ts0, eE, hts0⟩, by omega, fun dl us H1 nl el hus s1 => ?_⟩
    have W1 := W.mono s1
    have eE1 := s1 _ _ eE
    have hts1 : Paired (EvT H1) ts0 ev := paired_imp (fun _ _ h => s1 _ _ h) hts0
    refine ⟨_, rfl, _, rfl, _, rfl, E1, _, rfl, SqL.of eE1, fun p np => ⟨p, rfl, ⟨_, SqL.of upd_same⟩, ?_⟩⟩
    have pick : ∀ {lo hi : Option Int} {v : V} {i : Nat}, (cutV (ts0.map V.ref) lo hi)[i]? = some v → ∃ t e, v = .ref t ∧ e ∈ ev ∧ EvT H1 t e := fun {lo hi v i} h => by
      have h1 := List.mem_of_mem_drop (List.mem_of_mem_take (List.mem_of_getElem? h))
      obtain ⟨j, hj⟩ := List.getElem?_of_mem h1
      obtain ⟨t, e, rfl, he, ht⟩ := pick_at hts1 hj
      exact ⟨t, e, rfl, List.mem_of_getElem? he, ht⟩
    have okW := W.ev
    refine for_list (xs := _) (fun i σ H' => (∃ x4 x5 x6 x7 x8, σ = [some (.ref b), some (.ref r), some (.ref E1), some (.ref dl), x4, x5, x6, x7, x8, none, none, none, none]) ∧ Same (L2.upd H1 p _) H')
      ⟨⟨none, none, none, none, none, rfl⟩, Same.refl _⟩ (fun i σ H' _ ⟨_, s⟩ => SqL.of (s _ _ upd_same)) ?_ ?_
    · rintro i v σ H2 hv ⟨⟨x4, x5, x6, x7, x8, rfl⟩, s2⟩
      obtain ⟨t, e, rfl, he, ht⟩ := pick hv
      have s12 := (same_upd np).trans s2
      have ht2 := s12 _ _ ht
      have oke := R.ok e he
      refine ⟨t, _, rfl, SqT.of ht2, rfl, _, _, rfl, _, _, rfl, _, _, rfl, _, _, rfl, _, _, rfl, rfl, ?_⟩
      refine ⟨_, rfl, rfl, _, rfl, ?_⟩
      rw [kind_move]
      cases hm : e.mv with
      | false => exact iteF ⟨⟨_, _, _, _, _, rfl⟩, s2⟩
      | true =>
        have d0 := oke.d0
        refine iteT ⟨_, rfl, b, dxb, _, rfl, s12 _ _ (s1 _ _ ix), rfl, _, rfl, _, rfl, _, _, rfl, rfl, b, rk, es, fp, e.who, e.day + 1, none, rfl, W1.mono s12, (oke.mw hm).1, by omega, by omega, nofun, fun w1 H3 is1 s3 => ?_⟩
        have s13 := s12.trans s3
        refine ⟨_, rfl, _, rfl, _, rfl, _, _, rfl, rfl, E1, ev, e.who, e.day + 1, rfl, ⟨ts0, s13 _ _ eE1, paired_imp (fun _ _ h => s13 _ _ h) hts1⟩, by omega, fun x hx => (R.ok x hx).d0, fun w2 H4 is2 s4 => ?_⟩
        have e2 : w2 = w1 := is2.uniq (by rw [← show heldE es true e.who none = heldE ev true e.who none from funext fun d => R.hd true e.who none d]; exact is1)
        subst e2
        obtain ⟨y, rfl, _⟩ := where_str is1 okW.2.2
        refine ⟨rfl, _, rfl, ?_⟩
        rw [show decide (V.str y = V.str y) = true from decide_eq_true rfl]
        exact iteF ⟨⟨_, _, _, _, _, rfl⟩, s2.trans (s3.trans s4)⟩
    · rintro σ H2 ⟨⟨x4, x5, x6, x7, x8, rfl⟩, s2⟩
      have s12 := (same_upd np).trans s2
      have s02 := s1.trans s12
      have W2 := W.mono s02
      refine ⟨_, rfl, b, dxb, _, rfl, s02 _ _ ix, rfl, b, rk, es, fp, rfl, W2, by omega, TT.ext s02, fun tl ts L H3 nl3 e3 T3 el3 hts3 hL => ?_⟩
      obtain rfl : L = entW ev := (hL.uniq (entW_is es)).trans R.en.symm
      have okL : ∀ e ∈ entW ev, EvOK rk e ∧ e.kn < 10 ^ 55 := fun e he => ⟨R.ok e ((entW_is ev).sub e he), R.kb e ((entW_is ev).sub e he)⟩
      have lL : (entW ev).length ≤ 60 := by
        have := entW_len ev
        omega
      have kr := okW.1
      have x03 : ExtN H H3 := (ExtN.of s02).trans e3
      have S3 : St63 D.C_Book D.C_History (TLs D) b r E1 dl tl us ts ts0 rk ev es fp [] H3 := ⟨W2.extN e3, x03 _ _ hr' nofun, by rw [List.append_nil]; exact el3, hts3, e3 _ _ (s12 _ _ el) nofun, paired_imp (fun _ _ h => evT_extN e3 (s12 _ _ h)) hus, e3 _ _ (s12 _ _ eE1) nofun, paired_imp (fun _ _ h => evT_extN e3 (s12 _ _ h)) hts1, T3⟩
      have tn : ∀ {c : Addr} {zs : List V}, H2 c = some (.lst zs) → tl ≠ c := fun {c zs} h e => by
        obtain ⟨ps, hps⟩ := nl3 (.lst zs) (by rw [e]; exact h)
        cases hps
      have n1 : tl ≠ dl := tn (s12 _ _ el)
      have n2 : tl ≠ E1 := tn (s12 _ _ eE1)
      have nH : NewN H tl := nl3.back (ExtN.of s02)
      clear hus hts1 hts0 pick hts3
      have st : ∀ e ∈ entW ev, EvSt e := fun e he => evSt_of (fun z hz => by obtain ⟨p, hp, rfl⟩ := List.mem_map.mp hz; exact kr.nm p hp) (okL e he).1
      have ll1 := Paired.length S3.hts
      have ll2 := Paired.length S3.hus
      obtain ⟨P1, P2⟩ := ents63 (K := K) kr okL lL S3.hts
      obtain ⟨Q1, _⟩ := ents63 (K := K) kr okL lL S3.hus
      have ix3 := x03 _ _ ix nofun
      refine ⟨_, rfl, .ref tl, .ty "list", _, _, true, rfl, .ty _, .base (.lst el3), kit_ty (show kitB "list" "list" = some true by decide +kernel), _, rfl, ?_⟩
      refine iteF ⟨_, rfl, tl, _, _, rfl, SqL.of S3.el, by rw [List.append_nil]; exact P1.1, P1.2.1, P1.2.2.1, P1.2.2.2, ?_⟩
      refine ⟨_, rfl, dl, _, _, rfl, SqL.of S3.ed, Q1.1, Q1.2.1, Q1.2.2.1, Q1.2.2.2, ?_⟩
      refine ⟨rfl, _, rfl, ?_⟩
      rw [show decide (V.str (PyData.list (List.map evD (entW ev))).shown = V.str (PyData.list (List.map evD (entW ev))).shown) = true from decide_eq_true rfl]
      refine iteF ⟨_, rfl, b, dxb, _, rfl, ix3, b, rk, es, fp, rfl, S3.W, by omega, S3.TT, fun L4 H4 hL4 e4 T4 => ⟨_, rfl, by omega, by have := hL4.len; omega, ?_⟩⟩
      obtain rfl : L4 = entW ev := (hL4.uniq (entW_is es)).trans R.en.symm
      have S4 := S3.ext e4 T4
      refine ⟨_, rfl, dl, _, rfl, .inl (SqL.of S4.ed), rfl, _, rfl, ?_⟩
      rw [List.length_map, ll2, show decide (V.int ((entW ev).length : Nat) = V.int ((entW ev).length : Nat)) = true from decide_eq_true rfl]
      refine iteF ?_
      refine ⟨_, rfl, .inl ⟨rfl, _, SqL.of S4.el⟩, tl, _, _, rfl, rfl, S4.el, by rw [List.append_nil, List.length_map]; exact small2k (by omega), ?_⟩
      have S5 := S4.more (.str (Str.ofString "more")) n1 n2
      have x05 : ExtN H (L2.upd H4 tl (.lst (ts.map V.ref ++ [.str (Str.ofString "more")]))) := LT.ExtN.over (x03.trans e4) nH
      rw [List.append_nil]
      generalize L2.upd H4 tl (.lst (ts.map V.ref ++ [.str (Str.ofString "more")])) = H5 at *
      obtain ⟨_, P2⟩ := ents63 (K := K) kr okL lL S5.hts
      have ix5 := x05 _ _ ix nofun
      refine ⟨_, rfl, tl, _, _, rfl, SqL.of S5.el, P2.1, P2.2.1, P2.2.2.1, P2.2.2.2, ?_⟩
      refine ⟨_, rfl, b, dxb, _, rfl, ix5, rfl, b, rk, es, fp, rfl, S5.W, fun o H6 no eo s6 => ?_⟩
      have S6 := S5.ext (ExtN.of s6) (S5.TT.ext s6)
      have nof : o ∉ fp := fun h => by
        obtain ⟨x, hx⟩ := S5.W.ex _ h
        rw [no] at hx
        cases hx
      have nor : o ≠ r := fun e => by
        rw [e, S5.er] at no
        cases no
      have noH : NewN H o := newN_of x05 no
      have ek : rkEq rk rk = true := rkEq_refl kr
      refine ⟨_, rfl, _, rfl, o, r, _, _, rfl, rfl, eo, S6.er, sd_flat _, sd_flat _, ?_⟩
      rw [show dkEq (sd rk) (sd rk) = true from ek]
      refine ⟨_, rfl, iteF ?_⟩
      have x06 := x05.trans (ExtN.of s6)
      refine ⟨_, rfl, b, dxb, _, rfl, s6 _ _ ix5, rfl, b, rk, es, fp, rfl, S6.W, by omega, S6.TT, fun l7 ts7 L7 H7 nl7 e7 T7 el7 hts7 hL7 => ?_⟩
      obtain rfl : L7 = entW ev := (hL7.uniq (entW_is es)).trans R.en.symm
      have S7 := S6.ext e7 T7
      have ee := eqv_entD st st
      unfold entD at ee
      refine ⟨_, rfl, _, _, .lst (SqL.of el7) (ev_dp hts7 st), .lst (SqL.of S7.ed) (ev_dp S7.hus st), shaped_ents st, shaped_ents st, ?_⟩
      rw [ee, show decide (entW ev = entW ev) = true from decide_eq_true rfl]
      obtain ⟨_, P2⟩ := ents63 (K := K) kr okL lL S7.hts
      refine ⟨_, rfl, iteF ⟨_, rfl, tl, _, _, rfl, SqL.of S7.el, P2.1, P2.2.1, P2.2.2.1, P2.2.2.2, _, rfl, rfl, _, rfl, ?_⟩⟩
      rw [decide_eq_true rfl]
      refine iteF ?_
      have eo7 := e7 _ _ eo nofun
      have x07 := x06.trans e7
      refine ⟨_, rfl, o, _, rfl, DPut.k (k := Sum.inr (Str.ofString "Zz")) eo7 (small2k (by rw [sd_len]; have := kr.ln; omega)), ?_⟩
      rw [zz_put kr]
      have S8 := S7.own eo7 nof nor (H' := L2.upd H7 o (.dK (sd rk ++ [(.inr (Str.ofString "Zz"), .int 3)]))) (SameL.upd List.mem_cons_self (SameL.of (Same.refl _)))
      have x08 : ExtN H (L2.upd H7 o (.dK (sd rk ++ [(.inr (Str.ofString "Zz"), .int 3)]))) := LT.ExtN.over x07 noH
      have eo8 := upd_same (H := H7) (a := o) (o := .dK (sd rk ++ [(.inr (Str.ofString "Zz"), .int 3)]))
      generalize L2.upd H7 o (.dK (sd rk ++ [(.inr (Str.ofString "Zz"), .int 3)])) = H8 at *
      refine ⟨_, rfl, b, dxb, _, rfl, x08 _ _ ix nofun, rfl, b, rk, es, fp, rfl, S8.W, fun o2 H9 no2 eo2 s9 => ?_⟩
      have S9 := S8.ext (ExtN.of s9) (S8.TT.ext s9)
      refine ⟨_, rfl, o2, r, _, _, rfl, rfl, eo2, S9.er, sd_flat _, sd_flat _, ?_⟩
      rw [show dkEq (sd rk) (sd rk) = true from ek]
      have eo9 := s9 _ _ eo8
      refine ⟨_, rfl, iteF ⟨_, rfl, o, rfl, .inl ⟨_, Rd.of eo9⟩, _, .inr (Str.ofString "Zz"), .int 3, eo9, rfl, zz_val kr 3, ?_⟩⟩
      rw [zz_drop kr]
      have x09 := x08.trans (ExtN.of s9)
      have S10 := S9.own eo9 nof nor (H' := L2.upd H9 o (.dK (sd rk))) (SameL.upd List.mem_cons_self (SameL.of (Same.refl _)))
      have x010 : ExtN H (L2.upd H9 o (.dK (sd rk))) := LT.ExtN.over x09 noH
      have eo10 := upd_same (H := H9) (a := o) (o := .dK (sd rk))
      generalize L2.upd H9 o (.dK (sd rk)) = H10 at *
      refine ⟨rfl, _, rfl, ?_⟩
      rw [show decide (V.int 3 = V.int 3) = true from decide_eq_true rfl]
      refine iteF ⟨_, rfl, _, rfl, o, r, _, _, rfl, rfl, eo10, S10.er, sd_flat _, sd_flat _, ?_⟩
      rw [show dkEq (sd rk) (sd rk) = true from ek]
      refine ⟨_, rfl, iteF ?_⟩
      refine ⟨_, rfl, o, _, rfl, DPut.k (k := Sum.inr (Str.ofString "Zz")) eo10 (small2k (by rw [sd_len]; have := kr.ln; omega)), ?_⟩
      rw [zz_put kr]
      have S11 := S10.own eo10 nof nor (H' := L2.upd H10 o (.dK (sd rk ++ [(.inr (Str.ofString "Zz"), .int 3)]))) (SameL.upd List.mem_cons_self (SameL.of (Same.refl _)))
      have x011 : ExtN H (L2.upd H10 o (.dK (sd rk ++ [(.inr (Str.ofString "Zz"), .int 3)]))) := LT.ExtN.over x010 noH
      generalize L2.upd H10 o (.dK (sd rk ++ [(.inr (Str.ofString "Zz"), .int 3)])) = H11 at *
      apply joinA (α := Unit) (J := fun _ Hx => Same H11 Hx)
        (sl := fun _ => [some (.ref b), some (.ref r), some (.ref E1), some (.ref dl), x4, x5, x6, x7, x8, some (.ref tl), some (.str (PyData.list (List.map evD (entW ev) ++ [PyData.str (Str.ofString "more")])).shown), some (.ref o), some (lateV ev)])
      · intro h
        refine ⟨_, rfl, by show 0 ≤ sizeLine; decide, fun k nk => ?_⟩
        have s12' := same_upd (o := .lst []) nk
        have ek12 := upd_same (H := H11) (a := k) (o := .lst [])
        generalize L2.upd H11 k (.lst []) = H12 at *
        have eE12 := s12' _ _ S11.eE
        refine ⟨E1, k, _, rfl, rfl, eE12, ek12, _, rfl, ?_⟩
        by_cases hz : ev = []
        · have e : (!(ts0.map V.ref).isEmpty) = false := by
            have := Paired.length S11.h0
            rw [hz] at this
            rw [List.length_eq_zero_iff.mp this]
            rfl
          rw [e]
          have h := h () H12 s12'
          rw [show lateV ev = .non by rw [hz]; rfl] at h
          exact iteF h
        · have e : (!(ts0.map V.ref).isEmpty) = true := by
            rw [Bool.not_eq_true', List.isEmpty_eq_false_iff]
            intro e
            rw [List.map_eq_nil_iff] at e
            have := Paired.length S11.h0
            rw [e] at this
            exact hz (List.length_eq_zero_iff.mp this.symm)
          rw [e]
          obtain ⟨x, hx, ex⟩ := lateV_last hz
          have el0 := Paired.length S11.h0
          have lp : 0 < ev.length := List.length_pos_iff.mpr hz
          obtain ⟨t, ht, hxt⟩ : ∃ t, ts0[ts0.length - 1]? = some t ∧ EvT H11 t x := by
            obtain ⟨t, et⟩ : ∃ t, ts0[ts0.length - 1]? = some t := ⟨_, List.getElem?_eq_getElem (by omega)⟩
            obtain ⟨t', r, e1, e2, e3⟩ := pick_at S11.h0 (show (ts0.map V.ref)[ts0.length - 1]? = some (.ref t) by rw [List.getElem?_map, et]; rfl)
            cases e1
            rw [el0, hx] at e2
            cases e2
            exact ⟨t, et, e3⟩
          have ht12 := s12' t (.tup [.str (kindS x.mv), .int x.kn, .str x.who, .int x.day, x.w]) hxt
          have h := h () H12 s12'
          rw [ex] at h
          refine iteT ⟨_, rfl, _, rfl, E1, _, -1, .ref t, rfl, rfl, SqL.of eE12, ?_, t, _, 1, _, rfl, rfl, SqT.of ht12, atI_nat (j := 1) rfl, h⟩
          exact atI_end63 (by rw [List.length_map, List.getElem?_map, ht]; rfl)
      rintro _ Hx sx
      have S12 := S11.ext (ExtN.of sx) (S11.TT.ext sx)
      have x012 := x011.trans (ExtN.of sx)
      refine ⟨_, rfl, b, dxb, _, rfl, x012 _ _ ix nofun, rfl, b, rk, es, fp, rfl, S12.W, fun o3 H13 no3 eo3 s13 => ?_⟩
      have S13 := S12.ext (ExtN.of s13) (S12.TT.ext s13)
      have x013 := x012.trans (ExtN.of s13)
      refine ⟨_, rfl, o3, r, _, _, rfl, rfl, eo3, S13.er, sd_flat _, sd_flat _, ?_⟩
      rw [show dkEq (sd rk) (sd rk) = true from ek]
      refine ⟨_, rfl, iteT ?_⟩
      refine ⟨_, rfl, b, dxb, _, rfl, x013 _ _ ix nofun, rfl, b, rk, es, fp, rfl, S13.W, ?_⟩
      have fin := q H13 x013 S13.TT
      rw [← R.lt]
      rcases lateV_or ev with hv | ⟨k, hv⟩
      · rw [hv]
        refine ⟨_, rfl, rfl, _, rfl, iteT ?_⟩
        refine ⟨_, rfl, b, dxb, _, rfl, x013 _ _ ix nofun, rfl, b, rk, es, fp, rfl, S13.W, ?_⟩
        rw [← R.lt, hv]
        exact ⟨_, .ty "bool", _, _, false, rfl, .ty _, .base .non, kit_ty (show kitB "NoneType" "bool" = some false by decide +kernel), _, rfl, fin⟩
      · rw [hv]
        refine ⟨_, rfl, rfl, _, rfl, ?_⟩
        rw [show decide (V.int k = V.int k) = true from decide_eq_true rfl]
        refine iteT ?_
        refine ⟨_, rfl, b, dxb, _, rfl, x013 _ _ ix nofun, rfl, b, rk, es, fp, rfl, S13.W, ?_⟩
        rw [← R.lt, hv]
        exact ⟨_, .ty "bool", _, _, false, rfl, .ty _, .base (.int _), kit_ty (show kitB "int" "bool" = some false by decide +kernel), _, rfl, fin⟩
end
end K63
set_option Elab.async false
set_option linter.all false
set_option maxRecDepth 100000
set_option maxHeartbeats 1600000
set_option pp.maxSteps 300
namespace K63
open PySem PySem.Spec PyProof.Rows L2 LT NdefX LamX
section
variable {P : Program} {w : World} {K : PySem.W.Frag} {mg : Str → Option Value} {base : Heap}
theorem sc__law_unlike : FnScope ["_law_book", "_law_plan_here", "_law_events", "_law_other", "_law_ranks", "_law_name", "_law_third"] ["_law_book", "_law_plan_here", "_law_events"] (defScope s__law_unlike) := ⟨rfl, rfl, rfl, by decide +kernel, rfl, by decide +kernel, by decide +kernel⟩
theorem ok__law_unlike (D : All K P mg) (TB : TBs D base) : FnOk P w K mg base CX0 13 D.f__law_unlike D.d__law_unlike ["_law_book", "_law_plan_here", "_law_events"] (spUnlike63 D.C_Book D.C_History (TLs D)) := by
  refine D.h__law_unlike.fn.ok sc__law_unlike (fun vs H Q E h => ?_) (fun cdv A outer s H vs Q E hr h => ?_)
  · first | (obtain ⟨_, rfl, _⟩ := h; rfl) | (obtain ⟨_, _, rfl, _⟩ := h; rfl) | (obtain ⟨_, _, _, rfl, _⟩ := h; rfl) | (obtain ⟨_, _, _, _, rfl, _⟩ := h; rfl) | (obtain ⟨_, _, _, _, _, rfl, _⟩ := h; rfl) | (obtain ⟨_, _, _, _, _, _, rfl, _⟩ := h; rfl) | (obtain ⟨_, _, _, _, _, _, _, rfl, _⟩ := h; rfl) | (obtain ⟨_, _, _, _, _, _, _, _, rfl, _⟩ := h; rfl) | (obtain ⟨_, _, _, _, _, _, _, _, _, rfl, _⟩ := h; rfl) | (obtain ⟨_, _, _, _, _, _, _, _, _, _, rfl, _⟩ := h; rfl) | (obtain ⟨_, _, _, _, _, _, _, _, _, _, _, rfl, _⟩ := h; rfl) | (obtain ⟨_, _, _, _, _, _, _, _, _, _, _, _, rfl, _⟩ := h; rfl) | (obtain ⟨_, _, _, _, _, _, _, _, _, _, _, _, _, rfl, _⟩ := h; rfl) | (obtain ⟨_, _, _, _, _, _, _, _, _, _, _, _, _, _, rfl, _⟩ := h; rfl) | (obtain ⟨_, _, _, _, _, _, _, _, _, _, _, _, _, _, _, rfl, _⟩ := h; rfl)
  · have T := D.T
    have nd := sc__law_unlike.nd
    have hu := hr.units
    have hu1 := hu_of hr
    have hu0 := hr.units0
    obtain ⟨b, P, E1, la, D0, kn, ev, es, fp, rfl, W, hP, hI, hG, hE, R, k0, kev, kes, TT, q⟩ := h
    refine ⟨_, pss_cons (ps_set (i := 3) nd rfl (.inl rfl) (pe_call (ok__law_by_another_road D TB) (hr.mono (by decide)) (by rfl) D.gl__law_by_another_road D.L__law_by_another_road.kp D.lb__law_by_another_road .nil pass0 (pa_cons (pe_dget hu1 (pv 1) pe_str (fun _ _ => rfl)) (pa_cons (pv 2) pa_nil))))
      (pss_cons (ps_if (pt_not (pt_val (pe_call (ok__law_same D TB) (hr.mono (by decide)) (by rfl) D.h__law_same.gl D.h__law_same.fn.kp D.h__law_same.bd .nil pass0 (pa_cons (pv 0) (pa_cons (pv 3) (pa_cons pe_bl pa_nil)))))) (pss_one (ps_ret pe_bl)) pss_nil)
      (pss_cons (ps_expr (pe_meth (pv 3) D.Z_Book.cl D.h_Book_land.me (ok_Book_land D) (hr.mono (by decide)) D.h_Book_land.bd .nil pass0 (pa_cons (pe_op op_add (pe_dget hu1 (pv 1) pe_str (fun _ _ => rfl)) pe_int) (pa_cons (pe_ix ix_list (pe_dget hu1 (pv 1) pe_str (fun _ _ => rfl)) pe_int (fun _ _ => rfl)) (pa_cons pe_int (pa_cons pe_int pa_nil))))))
      (pss_cons (ps_set (i := 4) nd rfl (.inl rfl) (pe_callTy call_dictD (by rfl) T.dict (by decide +kernel) (pa_cons (pe_dget hu1 (pv 1) pe_str (fun _ _ => rfl)) pa_nil)))
      (pss_cons (ps_for PassesOwn.never rfl (pi_list (pe_slice sl_list (pe_dget hu1 (pv 1) pe_str (fun _ _ => rfl)) po_none (po_some pe_int))) (pg_name (i := 5) nd rfl (Or.inl rfl)) (pss_one (ps_dput hu1 (pv 4) (pv 5) (pe_op op_add (pe_op op_mod (pe_dget hu1 (pv 4) (pv 5) (fun _ _ => rfl)) pe_int) pe_int) rfl)))
      (pss_cons (ps_set (i := 6) nd rfl (.inl rfl) (pe_call (ok__law_by_another_road D TB) (hr.mono (by decide)) (by rfl) D.gl__law_by_another_road D.L__law_by_another_road.kp D.lb__law_by_another_road .nil pass0 (pa_cons (pv 4) (pa_cons (pv 2) pa_nil))))
      (pss_cons (ps_if (PW.pt (pw_or (pt_not (pt_val (pe_call (ok__law_same D TB) (hr.mono (by decide)) (by rfl) D.h__law_same.gl D.h__law_same.fn.kp D.h__law_same.bd .nil pass0 (pa_cons (pv 0) (pa_cons (pv 3) (pa_cons pe_bl pa_nil)))))) (pw_or1 (pt_not (pt_val (pe_call (ok__law_same D TB) (hr.mono (by decide)) (by rfl) D.h__law_same.gl D.h__law_same.fn.kp D.h__law_same.bd .nil pass0 (pa_cons (pv 0) (pa_cons (pv 6) (pa_cons (pe_cmpR (op_eqNil hu) (pe_dget hu1 (pv 1) pe_str (fun _ _ => rfl)) (pe_lst pa_nil) (nomark _)) pa_nil))))))))) (pss_one (ps_ret pe_bl)) pss_nil)
      (pss_one (ps_ret (pe_and (pe_not (pe_cmpR (op_ownL D.Q_Book (ok_Book___eq__ D TB) (hr.mono (by decide)) D.h_Book___eq__.bd) (pv 0) (pe_call (ok__law_entries D) (hr.mono (by decide)) (by rfl) D.h__law_entries.gl D.h__law_entries.fn.kp D.h__law_entries.bd .nil pass0 (pa_cons (pv 2) pa_nil)) (nomark _))) (pe_and (pe_not (pe_cmpR (op_ownL D.Q_Book (ok_Book___eq__ D TB) (hr.mono (by decide)) D.h_Book___eq__.bd) (pv 0) pe_non (nomark _))) (pe_one (pe_not (pe_cmpR (op_ownL D.Q_Book (ok_Book___eq__ D TB) (hr.mono (by decide)) D.h_Book___eq__.bd) (pv 0) (pe_dget hu1 (pv 1) pe_str (fun _ _ => rfl)) (nomark _)))))))))))))), ?_⟩
    have l1 := R.l1
    have l2 := R.l2
    have kr := hG.rk
    obtain ⟨dxb, Rb, Mb, Lb, vb, ix⟩ := W.ix
    refine ⟨_, rfl, P, _, rfl, pg_ranks hP, _, rfl, D0.r, E1, D0.rk, ev, rfl, hI.hr, kr, hE, by omega, R.ok, TT, fun b2 fp2 H1 W2 n2 e1 T1 => ?_⟩
    have wlen : ((entW ev).mergeSort knLe).length ≤ 40 := by
      have := (List.mergeSort_perm (entW ev) knLe).length_eq
      have := entW_len ev
      omega
    have ee2 : entW ((entW ev).mergeSort knLe) = entW es := (entW_again ev).trans R.en
    have wk : ∀ x ∈ (entW ev).mergeSort knLe, x.kn ≤ kn := fun x hx => kev x ((entW_is ev).sub x ((List.mergeSort_perm (entW ev) knLe).mem_iff.mp hx))
    generalize (entW ev).mergeSort knLe = w2 at *
    have nb2 : b ≠ b2 := NewN.ne (n2 _ W2.inf) ix
    have W1 := W.extN e1
    refine ⟨_, rfl, _, rfl, b, b2, D0.rk, D0.rk.reverse, es, w2, fp, fp2, true, rfl, W1, W2, nb2, by omega, by omega, ?_, ?_, T1, fun H2 e2 T2 => ⟨_, rfl, iteF ?_⟩⟩
    · rw [rkEq_perm kr.nd (List.reverse_perm _).symm, ee2, decide_eq_true rfl]
      rfl
    · rw [rkEq_perm (rev_nd kr) (List.reverse_perm _), ee2, decide_eq_true rfl]
      rfl
    have x02 := e1.trans e2
    have W2 := W2.extN e2
    have hP2 := x02 _ _ hP nofun
    have hl2 := x02 _ _ hI.hl nofun
    obtain ⟨lz, hlz, hlm, hla'⟩ := str_at (zs := D0.ls) (i := 0) (by decide) (by have := hG.l0; omega)
    obtain ⟨dx2, R2, M2, L2q, v2, ix2⟩ := W2.ix
    have ok5 : EvOK D0.rk.reverse ⟨false, kn + 1, lz, 3, .int 5⟩ := ⟨by show 0 ≤ kn + 1; omega, by show (0 : Int) ≤ 3; decide, by show (3 : Int) < 10 ^ 55; decide, nofun, fun _ => ⟨hG.ls.nm lz hlm, 5, rfl, by decide, by decide⟩⟩
    have n2' := n2
    refine ⟨_, rfl, b2, dx2, _, rfl, ix2, rfl, _, rfl, P, _, rfl, pg_known hP2, _, _, rfl, rfl, _, rfl, P, _, rfl, pg_lights hP2, D0.l, _, 0, .str lz, rfl, rfl, SqL.of hl2, hla', b2, D0.rk.reverse, w2, fp2, kn + 1, 3, lz, .int 5, rfl, W2, ok5, fun x hx => by have := wk x hx; omega, by omega, fun fp3 H3 W3 fr3 s3 => ?_⟩
    have x03 : ExtN H H3 := extN_L x02 n2' s3
    have T3 := tabs_L T2 W2.pl s3
    have hP3 := x03 _ _ hP nofun
    have hr3 := x03 _ _ hI.hr nofun
    refine ⟨_, rfl, P, _, rfl, pg_ranks hP3, D0.r, _, rfl, Rd.of hr3, fun o no => ?_⟩
    have s4 := same_upd (o := .dK (sd D0.rk)) no
    have eo4 := upd_same (H := H3) (a := o) (o := .dK (sd D0.rk))
    have noH : NewN H o := newN_of x03 no
    have nob : o ∉ fp3 := fun h => by
      obtain ⟨x, hx⟩ := W3.ex _ h
      rw [no] at hx
      cases hx
    generalize L2.upd H3 o (.dK (sd D0.rk)) = H4 at *
    have x04 := x03.trans (ExtN.of s4)
    have hP4 := x04 _ _ hP nofun
    have hn4 := x04 _ _ hI.hn nofun
    refine ⟨_, rfl, P, _, rfl, pg_names hP4, _, rfl, D0.n, _, rfl, SqL.of hn4, fun p np => ⟨p, rfl, ⟨_, SqL.of upd_same⟩, ?_⟩⟩
    rw [cut1]
    have s5 := same_upd (o := .lst ((D0.zs.map V.str).take 1)) np
    have ep := upd_same (H := H4) (a := p) (o := .lst ((D0.zs.map V.str).take 1))
    generalize L2.upd H4 p (.lst ((D0.zs.map V.str).take 1)) = H5 at *
    have eo5 := s5 _ _ eo4
    have npo : p ≠ o := fun e => by
      rw [e, eo5] at ep
      cases ep
    have x05 := x04.trans (ExtN.of s5)
    refine for_list (xs := (D0.zs.map V.str).take 1) (fun i σ H' => (∃ x5, σ = [some (.ref b), some (.ref P), some (.ref E1), some (.ref b2), some (.ref o), x5, none]) ∧ SameL [o] H5 H' ∧ H' o = some (.dK (sd (if i = 0 then D0.rk else chg D0.rk))))
      ⟨⟨none, rfl⟩, SameL.of (Same.refl _), by rw [if_pos rfl]; exact eo5⟩ (fun i σ H' _ ⟨_, s, _⟩ => SqL.of (s _ _ (fun m => npo (List.mem_singleton.mp m)) ep)) ?_ ?_
    · rintro i v σ H6 hv ⟨⟨x5, rfl⟩, s6, eo6⟩
      have hi : i = 0 := by
        have h1 := (List.getElem?_eq_some_iff.mp hv).1
        have h2 := List.length_take_le 1 (D0.zs.map V.str)
        omega
      subst hi
      rw [if_pos rfl] at eo6
      have kr' := kr
      have zk := hG.zk
      cases hrk : D0.rk with
      | nil =>
        rw [hrk] at zk
        rw [← zk] at hv
        cases hv
      | cons a r0 =>
        obtain ⟨z, n⟩ := a
        rw [hrk] at zk eo6 kr'
        rw [← zk] at hv
        cases hv
        have dg : DGet H6 o (.str z) (some (.int n)) := by
          have h1 := DGet.k (k := Sum.inr z) eo6
          rw [sd_val _ kr'.nd (p := (z, n)) List.mem_cons_self] at h1
          exact h1
        refine ⟨_, rfl, _, rfl, o, _, rfl, dg, _, _, rfl, rfl, by show (0 : Int) < 9; decide, _, _, rfl, rfl, _, rfl, _, rfl, _, _, rfl, DPut.k (k := Sum.inr z) eo6 (small2k (by rw [sd_len]; have := kr'.ln; omega)), ⟨_, rfl⟩, SameL.upd List.mem_cons_self s6, ?_⟩
        rw [upd_same, chg_put kr']
        rfl
    · rintro σ H6 ⟨⟨x5, rfl⟩, s6, eo6⟩
      have eo6 : H6 o = some (.dK (sd (chg D0.rk))) := by
        rw [eo6]
        cases hrk : D0.rk with
        | nil =>
          have zk := hG.zk
          rw [hrk] at zk
          rw [← zk]
          rfl
        | cons a r0 =>
          have zk := hG.zk
          rw [hrk] at zk
          rw [← zk]
          rfl
      have x06 : ExtN H H6 := extN_L x05 (fun c hc => by rw [List.mem_singleton.mp hc]; exact noH) s6
      have T6 : Tabs (TLs D) H6 := tabs_L (T3.ext (s4.trans s5)) (fun c hc x e => by
        rw [List.mem_singleton.mp hc, eo5] at e
        cases e
        exact ⟨nofun, nofun⟩) s6
      have W3 : Bk D.C_Book D.C_History H6 b2 D0.rk.reverse (w2 ++ [⟨false, kn + 1, lz, 3, .int 5⟩]) fp3 := (W3.mono (s4.trans s5)).monoL s6 fun c hc m => nob (by rw [← List.mem_singleton.mp m]; exact hc)
      refine ⟨_, rfl, _, rfl, o, E1, chg D0.rk, ev, rfl, eo6, chg_rk kr, evs_ext hE x06, by omega, fun e he => ok_chg (chg_keys _) (R.ok e he), T6, fun b3 fp7 H7 W7 n7 e7 T7 => ?_⟩
      have ee7 : entW ((entW ev).mergeSort knLe) = entW es := (entW_again ev).trans R.en
      have w7l : ((entW ev).mergeSort knLe).length ≤ 60 := by
        have := (List.mergeSort_perm (entW ev) knLe).length_eq
        have := entW_len ev
        omega
      generalize (entW ev).mergeSort knLe = w7 at *
      have x07 := x06.trans e7
      have nb3 : b ≠ b3 := NewN.ne (n7 _ W7.inf) (x06 _ _ ix nofun)
      have W3 := W3.extN e7
      have ne5 : entW es ≠ entW (w2 ++ [⟨false, kn + 1, lz, 3, .int 5⟩]) := entW_ne fun x hx => by
        have := kes x hx
        show x.kn ≠ kn + 1
        omega
      have l5 : (w2 ++ [(⟨false, kn + 1, lz, 3, .int 5⟩ : Evt)]).length ≤ 60 := by
        rw [List.length_append]
        show w2.length + 1 ≤ 60
        omega
      refine ⟨_, rfl, _, rfl, b, b2, D0.rk, D0.rk.reverse, es, _, fp, fp3, false, rfl, W.extN x07, W3, nb2, by omega, l5, ?_, ?_, T7, fun H8 e8 T8 => ⟨_, rfl, iteF ?_⟩⟩
      · rw [decide_eq_false ne5, Bool.and_false]
      · rw [decide_eq_false (Ne.symm ne5), Bool.and_false]
      have x08 := x07.trans e8
      refine ⟨_, rfl, _, rfl, _, rfl, P, _, rfl, pg_names (x08 _ _ hP nofun), by show 0 ≤ sizeLine; decide, fun k nk => ?_⟩
      have s9 := same_upd (o := .lst []) nk
      have ek9 := upd_same (H := H8) (a := k) (o := .lst [])
      generalize L2.upd H8 k (.lst []) = H9 at *
      have x09 := x08.trans (ExtN.of s9)
      have zi : D0.rk.isEmpty = (D0.zs.map V.str).isEmpty := by
        rw [← hG.zk]
        cases D0.rk <;> rfl
      refine ⟨D0.n, k, _, rfl, rfl, x09 _ _ hI.hn nofun, ek9, b, b3, D0.rk, (chg D0.rk).reverse, es, w7, fp, fp7, _, rfl, W.extN x09, (W7.extN e8).mono s9, nb3, by omega, w7l, ?_, ?_, T8.ext s9, fun H10 e10 T10 => ⟨_, rfl, iteF ?_⟩⟩
      · rw [(chg_eq kr).1, ee7, decide_eq_true rfl, Bool.and_true, zi]
      · rw [(chg_eq kr).2, ee7, decide_eq_true rfl, Bool.and_true, zi]
      have x010 := x09.trans e10
      refine ⟨_, rfl, _, rfl, E1, ev, rfl, evs_ext hE x010, by omega, fun l us H11 nl el hus s11 => ?_⟩
      have x011 := x010.trans (ExtN.of s11)
      have ix11 := x011 _ _ ix nofun
      have hP11 := x011 _ _ hP nofun
      have hr11 := x011 _ _ hI.hr nofun
      refine ⟨b, dxb, _, rfl, ix11, (Odd.lst el).besideD, b, _, rfl, .inr ⟨.lst el, _, rfl, _, rfl, _, rfl, iteT ?_⟩⟩
      refine ⟨_, rfl, b, dxb, _, rfl, ix11, Odd.non.besideD, b, _, rfl, .inr ⟨.non, _, rfl, _, rfl, _, rfl, iteT ?_⟩⟩
      exact ⟨_, rfl, _, rfl, P, _, rfl, pg_ranks hP11, b, dxb, _, rfl, ix11, (Odd.dK hr11).besideD, b, _, rfl, .inr ⟨.dK hr11, _, rfl, _, rfl, q H11 x011 (T10.ext s11)⟩⟩
end
end K63
set_option Elab.async false
set_option linter.all false
set_option maxRecDepth 100000
set_option maxHeartbeats 1600000
/-! Own layer: two books that go their own ways over one plan, and the lists of what they were told. -/
namespace LT
open PySem PySem.Spec PyProof.Rows L2 NdefX LamX
def SLN (S : List Addr) (H H' : Hp) : Prop := ∀ a o, a ∉ S → H a = some o → (∀ ps, o ≠ .tbl ps) → H' a = some o
theorem SLN.of {S : List Addr} {H H' : Hp} (s : SameL S H H') : SLN S H H' := fun a o n e _ => s a o n e
theorem SLN.ext {S : List Addr} {H H' : Hp} (s : ExtN H H') : SLN S H H' := fun a o _ e t => s a o e t
def mm (p P E1 : Addr) (oth : Option Addr) (fp f2 : List Addr) : List Addr := p :: P :: E1 :: (oth.toList ++ (fp ++ f2))
theorem mm_iff {p P E1 a : Addr} {oth : Option Addr} {fp f2 : List Addr} : a ∈ mm p P E1 oth fp f2 ↔ a = p ∨ a = P ∨ a = E1 ∨ oth = some a ∨ a ∈ fp ∨ a ∈ f2 := by
  unfold mm
  simp only [List.mem_cons, List.mem_append, Option.mem_toList]
theorem sln_step {S M M' : List Addr} {H H' : Hp} (s : SLN S H H') (hs : ∀ a ∈ S, a ∈ M) (hm : ∀ a ∈ M', a ∈ M ∨ NewN H a) {a : Addr} {o : HO} (e : Ho M H a = some o) (t : ∀ ps, o ≠ .tbl ps) : Ho M' H' a = some o := by
  obtain ⟨n, e⟩ := ho_iff.mp e
  refine ho_in (fun h => ?_) (s a o (fun h => n (hs a h)) e t)
  rcases hm a h with h | h
  · exact n h
  · obtain ⟨ps, z⟩ := h o e
    exact t ps z
structure T63 (CB CH : Addr) (H : Hp) (p P la E1 b b2 : Addr) (D : PlanD) (kn : Int) (oth : Option Addr) (fp f2 : List Addr) (ev evO es1 es2 : List Evt) (ts us : List Addr) : Prop where
  pot : Pot H p
  hP : H P = some (.dK (planK D kn la))
  e1 : H E1 = some (.lst (ts.map V.ref))
  e2 : ∀ E, oth = some E → H E = some (.lst (us.map V.ref))
  bk : Bk CB CH H b D.rk es1 fp
  bv : Bk CB CH H b2 D.rk es2 f2
  hI : PlanI (Ho (mm p P E1 oth fp f2) H) D
  la : LastOK (Ho (mm p P E1 oth fp f2) H) la D.rk
  h1 : Paired (EvT (Ho (mm p P E1 oth fp f2) H)) ts ev
  h2 : Paired (EvT (Ho (mm p P E1 oth fp f2) H)) us evO
  hG : PlanG D
  k0 : 0 ≤ kn
  Pf : P ∉ fp
  Pf2 : P ∉ f2
  dj : ∀ a ∈ f2, a ∉ fp
  nE : oth ≠ some E1
section
variable {CB CH : Addr} {H H' : Hp} {p P la E1 b b2 : Addr} {D : PlanD} {kn : Int} {oth : Option Addr} {fp f2 : List Addr} {ev evO es1 es2 : List Evt} {ts us : List Addr}
theorem T63.ex (h : T63 CB CH H p P la E1 b b2 D kn oth fp f2 ev evO es1 es2 ts us) : ∀ a ∈ mm p P E1 oth fp f2, ∃ o, H a = some o ∧ ∀ ps, o ≠ .tbl ps := fun a ha => by
  rcases mm_iff.mp ha with rfl | rfl | rfl | ho | hf | hf
  · obtain ⟨x, y, e, _⟩ := h.pot
    exact ⟨_, e, nofun⟩
  · exact ⟨_, h.hP, nofun⟩
  · exact ⟨_, h.e1, nofun⟩
  · exact ⟨_, h.e2 _ ho, nofun⟩
  · obtain ⟨o, e⟩ := h.bk.ex a hf
    exact ⟨o, e, (h.bk.pl a hf o e).1⟩
  · obtain ⟨o, e⟩ := h.bv.ex a hf
    exact ⟨o, e, (h.bv.pl a hf o e).1⟩
theorem T63.still {S M' : List Addr} (h : T63 CB CH H p P la E1 b b2 D kn oth fp f2 ev evO es1 es2 ts us) (s : SLN S H H') (hs : ∀ a ∈ S, a ∈ mm p P E1 oth fp f2) (hm : ∀ a ∈ M', a ∈ mm p P E1 oth fp f2 ∨ NewN H a) :
    PlanI (Ho M' H') D ∧ LastOK (Ho M' H') la D.rk ∧ Paired (EvT (Ho M' H')) ts ev ∧ Paired (EvT (Ho M' H')) us evO := by
  have k := fun {a : Addr} {o : HO} (e : Ho (mm p P E1 oth fp f2) H a = some o) (t : ∀ ps, o ≠ .tbl ps) => sln_step s hs hm e t
  refine ⟨⟨k h.hI.hn nofun, k h.hI.hr nofun, k h.hI.hl nofun⟩, ?_, paired_imp (fun _ x e => k (o := .tup [.str (kindS x.mv), .int x.kn, .str x.who, .int x.day, x.w]) e nofun) h.h1, paired_imp (fun _ x e => k (o := .tup [.str (kindS x.mv), .int x.kn, .str x.who, .int x.day, x.w]) e nofun) h.h2⟩
  obtain ⟨o, ho, hk⟩ := h.la
  refine ⟨o, ?_, hk⟩
  cases o with
  | none => exact k ho nofun
  | some e =>
    obtain ⟨t, a, b⟩ := ho
    exact ⟨t, k a nofun, k b nofun⟩
theorem pot_ne {H : Hp} {p E : Addr} {ts : List Addr} (h : Pot H p) (e : H E = some (.lst (ts.map V.ref))) : E ≠ p := fun z => by
  obtain ⟨x, y, e2, _⟩ := h
  rw [z, e2] at e
  cases ts with
  | nil => cases e
  | cons a r => cases e
theorem T63.nots (h : T63 CB CH H p P la E1 b b2 D kn oth fp f2 ev evO es1 es2 ts us) : p ∉ fp ∧ p ∉ f2 ∧ E1 ∉ fp ∧ E1 ∉ f2 ∧ P ≠ p ∧ P ≠ E1 ∧ E1 ≠ p ∧ (∀ E, oth = some E → E ∉ fp ∧ E ∉ f2 ∧ P ≠ E ∧ E ≠ p ∧ E ≠ E1) := by
  obtain ⟨x, y, e, _⟩ := id h.pot
  refine ⟨h.bk.nl e, h.bv.nl e, h.bk.nl h.e1, h.bv.nl h.e1, ne_of_pot h.pot h.hP, fun z => ?_, pot_ne h.pot h.e1, fun E hE => ⟨h.bk.nl (h.e2 E hE), h.bv.nl (h.e2 E hE), fun z => ?_, pot_ne h.pot (h.e2 E hE), fun z => h.nE (by rw [← z]; exact hE)⟩⟩
  · have := h.hP
    rw [z, h.e1] at this
    cases this
  · have := h.hP
    rw [z, h.e2 E hE] at this
    cases this
/-- what only makes new things -/
theorem T63.extN (h : T63 CB CH H p P la E1 b b2 D kn oth fp f2 ev evO es1 es2 ts us) (e : ExtN H H') : T63 CB CH H' p P la E1 b b2 D kn oth fp f2 ev evO es1 es2 ts us := by
  obtain ⟨i1, i2, i3, i4⟩ := h.still (S := []) (M' := mm p P E1 oth fp f2) (.ext e) nofun fun a ha => .inl ha
  have pot : Pot H' p := by
    obtain ⟨x, y, e', k⟩ := h.pot
    exact ⟨x, y, e _ _ e' nofun, k⟩
  exact ⟨pot, e _ _ h.hP nofun, e _ _ h.e1 nofun, fun E hE => e _ _ (h.e2 E hE) nofun, h.bk.extN e, h.bv.extN e, i1, i2, i3, i4, h.hG, h.k0, h.Pf, h.Pf2, h.dj, h.nE⟩
/-- an event, and what is drawn -/
theorem T63.event {kn' : Int} {la' : Addr} {o : Option Evt} (h : T63 CB CH H p P la E1 b b2 D kn oth fp f2 ev evO es1 es2 ts us) (s : SameL [p, P] H H') (hp : Pot H' p) (hP : H' P = some (.dK (planK D kn' la'))) (k0 : 0 ≤ kn')
    (hl : la' = la ∨ ∃ e, LastAt (new H H') la' (some e) ∧ EvOK D.rk e) : T63 CB CH H' p P la' E1 b b2 D kn' oth fp f2 ev evO es1 es2 ts us := by
  obtain ⟨n1, n2, n3, n4, n5, n6, n7, n8⟩ := h.nots
  have sub : ∀ a ∈ [p, P], a ∈ mm p P E1 oth fp f2 := fun a ha => mm_iff.mpr (by
    rcases List.mem_cons.mp ha with z | z
    · exact .inl z
    · exact .inr (.inl (List.mem_singleton.mp z)))
  obtain ⟨i1, i2, i3, i4⟩ := h.still (S := [p, P]) (M' := mm p P E1 oth fp f2) (.of s) sub fun a ha => .inl ha
  have nin : ∀ {a : Addr}, a ≠ p → P ≠ a → a ∉ [p, P] := fun {a} x y m => by
    rcases List.mem_cons.mp m with z | z
    · exact x z
    · exact y (List.mem_singleton.mp z).symm
  have nf : ∀ {f : List Addr}, p ∉ f → P ∉ f → ∀ c ∈ f, c ∉ [p, P] := fun {f} x y c hc m => by
    rcases List.mem_cons.mp m with z | z
    · exact x (by rw [← z]; exact hc)
    · exact y (by rw [← List.mem_singleton.mp z]; exact hc)
  refine ⟨hp, hP, s _ _ (nin n7 n6) h.e1, fun E hE => s _ _ (nin (n8 E hE).2.2.2.1 (n8 E hE).2.2.1) (h.e2 E hE), h.bk.monoL s (nf n1 h.Pf), h.bv.monoL s (nf n2 h.Pf2), i1, ?_, i3, i4, h.hG, k0, h.Pf, h.Pf2, h.dj, h.nE⟩
  rcases hl with rfl | ⟨e, ⟨t, a, b⟩, ok⟩
  · exact i2
  · have fr : ∀ {c : Addr} {o : HO}, new H H' c = some o → Ho (mm p P E1 oth fp f2) H' c = some o := fun {c o} q => by
      obtain ⟨q1, q2⟩ := new_iff.mp q
      refine ho_in (fun m => ?_) q2
      obtain ⟨o', ho, _⟩ := h.ex c m
      rw [q1] at ho
      cases ho
    exact ⟨some e, ⟨t, fr a, fr b⟩, fun e' he => by cases he; exact ok⟩
theorem T63.look (h : T63 CB CH H p P la E1 b b2 D kn oth fp f2 ev evO es1 es2 ts us) (hp : Pot H' p) (s : SameB p H H') : T63 CB CH H' p P la E1 b b2 D kn oth fp f2 ev evO es1 es2 ts us :=
  h.event (o := none) (SameL.ofB List.mem_cons_self s) hp (s _ _ h.nots.2.2.2.2.1 h.hP) h.k0 (.inl rfl)
/-- a telling, put down behind the others -/
theorem T63.put1 {T : Addr} {e : Evt} (h : T63 CB CH H p P la E1 b b2 D kn oth fp f2 ev evO es1 es2 ts us) (hT : EvT (Ho (mm p P E1 oth fp f2) H) T e) : T63 CB CH (upd H E1 (.lst (ts.map V.ref ++ [.ref T]))) p P la E1 b b2 D kn oth fp f2 (ev ++ [e]) evO es1 es2 (ts ++ [T]) us := by
  obtain ⟨n1, n2, n3, n4, n5, n6, n7, n8⟩ := h.nots
  have s : SameL [E1] H (upd H E1 (.lst (ts.map V.ref ++ [.ref T]))) := SameL.upd List.mem_cons_self (SameL.of (Same.refl _))
  have sub : ∀ a ∈ [E1], a ∈ mm p P E1 oth fp f2 := fun a ha => mm_iff.mpr (.inr (.inr (.inl (List.mem_singleton.mp ha))))
  obtain ⟨i1, i2, i3, i4⟩ := h.still (S := [E1]) (M' := mm p P E1 oth fp f2) (.of s) sub fun a ha => .inl ha
  have nin : ∀ {a : Addr}, a ≠ E1 → a ∉ [E1] := fun {a} x m => x (List.mem_singleton.mp m)
  have nf : ∀ {f : List Addr}, E1 ∉ f → ∀ c ∈ f, c ∉ [E1] := fun {f} x c hc m => x (by rw [← List.mem_singleton.mp m]; exact hc)
  have pot : Pot (upd H E1 (.lst (ts.map V.ref ++ [.ref T]))) p := by
    obtain ⟨x, y, e', k⟩ := h.pot
    exact ⟨x, y, s _ _ (nin (Ne.symm n7)) e', k⟩
  have hT' : EvT (Ho (mm p P E1 oth fp f2) (upd H E1 (.lst (ts.map V.ref ++ [.ref T])))) T e := sln_step (.of s) sub (fun a ha => .inl ha) (o := .tup [.str (kindS e.mv), .int e.kn, .str e.who, .int e.day, e.w]) hT nofun
  exact ⟨pot, s _ _ (nin n6) h.hP, by rw [upd_same, List.map_append]; rfl, fun E hE => s _ _ (nin (n8 E hE).2.2.2.2) (h.e2 E hE), h.bk.monoL s (nf n3), h.bv.monoL s (nf n4), i1, i2, paired_snoc' i3 hT', i4, h.hG, h.k0, h.Pf, h.Pf2, h.dj, h.nE⟩
theorem T63.put2 {T E : Addr} {e : Evt} (h : T63 CB CH H p P la E1 b b2 D kn (some E) fp f2 ev evO es1 es2 ts us) (hT : EvT (Ho (mm p P E1 (some E) fp f2) H) T e) : T63 CB CH (upd H E (.lst (us.map V.ref ++ [.ref T]))) p P la E1 b b2 D kn (some E) fp f2 ev (evO ++ [e]) es1 es2 ts (us ++ [T]) := by
  obtain ⟨n1, n2, n3, n4, n5, n6, n7, n8⟩ := h.nots
  obtain ⟨m1, m2, m3, m4, m5⟩ := n8 E rfl
  have s : SameL [E] H (upd H E (.lst (us.map V.ref ++ [.ref T]))) := SameL.upd List.mem_cons_self (SameL.of (Same.refl _))
  have sub : ∀ a ∈ [E], a ∈ mm p P E1 (some E) fp f2 := fun a ha => mm_iff.mpr (.inr (.inr (.inr (.inl (by rw [List.mem_singleton.mp ha])))))
  obtain ⟨i1, i2, i3, i4⟩ := h.still (S := [E]) (M' := mm p P E1 (some E) fp f2) (.of s) sub fun a ha => .inl ha
  have nin : ∀ {a : Addr}, a ≠ E → a ∉ [E] := fun {a} x m => x (List.mem_singleton.mp m)
  have nf : ∀ {f : List Addr}, E ∉ f → ∀ c ∈ f, c ∉ [E] := fun {f} x c hc m => x (by rw [← List.mem_singleton.mp m]; exact hc)
  have pot : Pot (upd H E (.lst (us.map V.ref ++ [.ref T]))) p := by
    obtain ⟨x, y, e', k⟩ := h.pot
    exact ⟨x, y, s _ _ (nin (Ne.symm m4)) e', k⟩
  have hT' : EvT (Ho (mm p P E1 (some E) fp f2) (upd H E (.lst (us.map V.ref ++ [.ref T])))) T e := sln_step (.of s) sub (fun a ha => .inl ha) (o := .tup [.str (kindS e.mv), .int e.kn, .str e.who, .int e.day, e.w]) hT nofun
  exact ⟨pot, s _ _ (nin m3) h.hP, s _ _ (nin (Ne.symm m5)) h.e1, fun E' hE => by cases hE; rw [upd_same, List.map_append]; rfl, h.bk.monoL s (nf m1), h.bv.monoL s (nf m2), i1, i2, i3, paired_snoc' i4 hT', h.hG, h.k0, h.Pf, h.Pf2, h.dj, h.nE⟩
/-- the book told -/
theorem T63.tell1 {es' : List Evt} {fp' : List Addr} (h : T63 CB CH H p P la E1 b b2 D kn oth fp f2 ev evO es1 es2 ts us) (bk : Bk CB CH H' b D.rk es' fp') (fr : ∀ c ∈ fp', c ∈ fp ∨ H c = none) (s : SameL fp H H') : T63 CB CH H' p P la E1 b b2 D kn oth fp' f2 ev evO es' es2 ts us := by
  obtain ⟨n1, n2, n3, n4, n5, n6, n7, n8⟩ := h.nots
  obtain ⟨i1, i2, i3, i4⟩ := h.still (S := fp) (M' := mm p P E1 oth fp' f2) (.of s) (fun a ha => mm_iff.mpr (.inr (.inr (.inr (.inr (.inl ha)))))) fun a ha => by
    rcases mm_iff.mp ha with z | z | z | z | z | z
    · exact .inl (mm_iff.mpr (.inl z))
    · exact .inl (mm_iff.mpr (.inr (.inl z)))
    · exact .inl (mm_iff.mpr (.inr (.inr (.inl z))))
    · exact .inl (mm_iff.mpr (.inr (.inr (.inr (.inl z)))))
    · rcases fr a z with y | y
      · exact .inl (mm_iff.mpr (.inr (.inr (.inr (.inr (.inl y))))))
      · exact .inr (newN_none y)
    · exact .inl (mm_iff.mpr (.inr (.inr (.inr (.inr (.inr z))))))
  have pot : Pot H' p := by
    obtain ⟨x, y, e', k⟩ := h.pot
    exact ⟨x, y, s _ _ n1 e', k⟩
  refine ⟨pot, s _ _ h.Pf h.hP, s _ _ n3 h.e1, fun E hE => s _ _ (n8 E hE).1 (h.e2 E hE), bk, h.bv.monoL s h.dj, i1, i2, i3, i4, h.hG, h.k0, fun m => ?_, h.Pf2, fun a ha m => ?_, h.nE⟩
  · rcases fr _ m with z | z
    · exact h.Pf z
    · rw [h.hP] at z
      cases z
  · rcases fr _ m with z | z
    · exact h.dj a ha z
    · obtain ⟨o, e⟩ := h.bv.ex a ha
      rw [z] at e
      cases e
theorem T63.tell2 {es' : List Evt} {fp' : List Addr} (h : T63 CB CH H p P la E1 b b2 D kn oth fp f2 ev evO es1 es2 ts us) (bk : Bk CB CH H' b2 D.rk es' fp') (fr : ∀ c ∈ fp', c ∈ f2 ∨ H c = none) (s : SameL f2 H H') : T63 CB CH H' p P la E1 b b2 D kn oth fp fp' ev evO es1 es' ts us := by
  obtain ⟨n1, n2, n3, n4, n5, n6, n7, n8⟩ := h.nots
  obtain ⟨i1, i2, i3, i4⟩ := h.still (S := f2) (M' := mm p P E1 oth fp fp') (.of s) (fun a ha => mm_iff.mpr (.inr (.inr (.inr (.inr (.inr ha)))))) fun a ha => by
    rcases mm_iff.mp ha with z | z | z | z | z | z
    · exact .inl (mm_iff.mpr (.inl z))
    · exact .inl (mm_iff.mpr (.inr (.inl z)))
    · exact .inl (mm_iff.mpr (.inr (.inr (.inl z))))
    · exact .inl (mm_iff.mpr (.inr (.inr (.inr (.inl z)))))
    · exact .inl (mm_iff.mpr (.inr (.inr (.inr (.inr (.inl z))))))
    · rcases fr a z with y | y
      · exact .inl (mm_iff.mpr (.inr (.inr (.inr (.inr (.inr y))))))
      · exact .inr (newN_none y)
  have pot : Pot H' p := by
    obtain ⟨x, y, e', k⟩ := h.pot
    exact ⟨x, y, s _ _ n2 e', k⟩
  refine ⟨pot, s _ _ h.Pf2 h.hP, s _ _ n4 h.e1, fun E hE => s _ _ (n8 E hE).2.1 (h.e2 E hE), h.bk.monoL s fun c hc m => h.dj c m hc, bk, i1, i2, i3, i4, h.hG, h.k0, h.Pf, fun m => ?_, fun a ha m => ?_, h.nE⟩
  · rcases fr _ m with z | z
    · exact h.Pf2 z
    · rw [h.hP] at z
      cases z
  · rcases fr _ ha with z | z
    · exact h.dj a z m
    · obtain ⟨o, e⟩ := h.bk.ex a m
      rw [z] at e
      cases e
/-- another twin, and another list of what it was told -/
theorem T63.again {b' : Addr} {oth' : Option Addr} {es' evO' : List Evt} {fp' us' : List Addr} (h : T63 CB CH H p P la E1 b b2 D kn oth fp f2 ev evO es1 es2 ts us) (x : ExtN H H') (bv : Bk CB CH H' b' D.rk es' fp') (nw : ∀ c ∈ fp', NewN H c)
    (ho : ∀ E, oth' = some E → NewN H E ∧ H' E = some (.lst (us'.map V.ref))) (hu : ∀ M', Paired (EvT (Ho M' H')) ts ev → Paired (EvT (Ho M' H')) us' evO') : T63 CB CH H' p P la E1 b b' D kn oth' fp fp' ev evO' es1 es' ts us' := by
  obtain ⟨n1, n2, n3, n4, n5, n6, n7, n8⟩ := h.nots
  have h' := h.extN x
  obtain ⟨i1, i2, i3, i4⟩ := h.still (S := []) (M' := mm p P E1 oth' fp fp') (.ext x) nofun fun a ha => by
    rcases mm_iff.mp ha with z | z | z | z | z | z
    · exact .inl (mm_iff.mpr (.inl z))
    · exact .inl (mm_iff.mpr (.inr (.inl z)))
    · exact .inl (mm_iff.mpr (.inr (.inr (.inl z))))
    · exact .inr (ho a z).1
    · exact .inl (mm_iff.mpr (.inr (.inr (.inr (.inr (.inl z))))))
    · exact .inr (nw a z)
  have no : ∀ {a : Addr} {o : HO}, H a = some o → (∀ ps, o ≠ .tbl ps) → NewN H a → False := fun {a o} e t n => by
    obtain ⟨ps, z⟩ := n o e
    exact t ps z
  exact ⟨h'.pot, h'.hP, h'.e1, fun E hE => (ho E hE).2, h'.bk, bv, i1, i2, i3, hu _ i3, h.hG, h.k0, h.Pf, fun m => no h.hP nofun (nw _ m), fun a ha m => by
    obtain ⟨o, e⟩ := h.bk.ex a m
    exact no e (h.bk.pl a m o e).1 (nw a ha), fun e => no h.e1 nofun (ho _ e).1⟩
end
end LT
set_option Elab.async false
set_option linter.all false
set_option maxRecDepth 100000
set_option maxHeartbeats 1600000
/-! Own layer: what stands from turn to turn while two books are told on. -/
namespace LT
open PySem PySem.Spec PyProof.Rows L2 NdefX LamX
theorem relE_self {rk : List (Str × Int)} {ev : List Evt} (ok : ∀ e ∈ ev, EvOK rk e) (kb : KnB ev) (l : ev.length ≤ 40) : RelE rk ev ev := ⟨rfl, fun _ _ _ _ => rfl, rfl, ok, kb, l, l⟩
theorem late_of {L : List Evt} {e : Evt} (r : Rising L) (he : e ∈ L) (h : ∀ x ∈ L, x.kn ≤ e.kn) : lateV L = .int e.kn := by
  obtain ⟨x, hx, ex⟩ := lateV_last (ev := L) (fun z => by rw [z] at he; cases he)
  have h1 := h x (List.mem_of_getElem? hx)
  obtain ⟨j, hj⟩ := List.getElem?_of_mem he
  have a1 := List.getElem?_eq_some_iff.mp hj
  have a2 := List.getElem?_eq_some_iff.mp hx
  have h2 : e.kn ≤ x.kn := by
    by_cases hjl : j = L.length - 1
    · subst hjl
      rw [hj] at hx
      cases hx
      exact Int.le_refl _
    · have l := a1.1
      have := List.pairwise_iff_getElem.mp r j (L.length - 1) a1.1 a2.1 (by omega)
      rw [a1.2, a2.2] at this
      exact this
  rw [ex]
  have : x.kn = e.kn := by omega
  rw [this]
theorem relE_twin {rk : List (Str × Int)} {ev : List Evt} (r : Rising ev) (ok : ∀ e ∈ ev, EvOK rk e) (kb : KnB ev) (l : ev.length ≤ 40) : RelE rk ev ((entW ev).mergeSort knLe) := by
  have pm := List.mergeSort_perm (entW ev) knLe
  refine ⟨(entW_again ev).symm, held_known (entW_is ev) r, ?_, ok, kb, l, ?_⟩
  · rcases List.eq_nil_or_concat ev with h | ⟨es, e, h⟩
    · rw [h, List.length_eq_zero_iff.mp (Nat.le_zero.mp (entW_len [])), List.mergeSort_nil]
    · have h : ev = es ++ [e] := by rw [h, List.concat_eq_append]
      have hm : e ∈ entW ev := by rw [h]; exact entW_new
      have hle : ∀ x ∈ ev, x.kn ≤ e.kn := by
        rw [h] at r ⊢
        intro x hx
        rcases List.mem_append.mp hx with hx | hx
        · exact (rising_snoc r).2 x hx
        · rw [List.mem_singleton.mp hx]; exact Int.le_refl _
      rw [late_of (kn_rising (entW ev)) (pm.mem_iff.mpr hm) fun x hx => hle x ((entW_is ev).sub x (pm.mem_iff.mp hx)), h, lateV_snoc]
  · have := pm.length_eq
    have := entW_len ev
    omega
theorem entA_same {ev es : List Evt} (h : entW ev = entW es) (mv : Bool) (who : Str) (d kn : Int) : entA ev mv who d kn = entA es mv who d kn := by
  have k : ∀ w, entA ev mv who d kn = some w ↔ entA es mv who d kn = some w := fun w => by
    have a := (entW_is ev).mem ⟨mv, kn, who, d, w⟩
    have b := (entW_is es).mem ⟨mv, kn, who, d, w⟩
    rw [h] at a
    exact a.symm.trans b
  cases e : entA ev mv who d kn with
  | some w => exact ((k w).mp e).symm
  | none =>
    cases e2 : entA es mv who d kn with
    | none => rfl
    | some w =>
      rw [(k w).mpr e2] at e
      cases e
theorem relE_snoc {rk : List (Str × Int)} {ev es : List Evt} {e : Evt} (R : RelE rk ev es) (r : Rising (ev ++ [e])) (r' : Rising (es ++ [e])) (ok : EvOK rk e) (kb : e.kn < 10 ^ 55) (l1 : ev.length < 40) (l2 : es.length < 40) : RelE rk (ev ++ [e]) (es ++ [e]) := by
  have i : IsEnts (ev ++ [e]) (entW (es ++ [e])) := by
    have j := entW_is (es ++ [e])
    refine ⟨j.up, j.nd, fun x => (j.mem x).trans ?_⟩
    rw [entA_snoc, entA_snoc, entA_same R.en]
  have en := (entW_is (ev ++ [e])).uniq i
  refine ⟨en, held_again i (entW_is _) r r', by rw [lateV_snoc, lateV_snoc], fun x hx => ?_, fun x hx => ?_, by rw [List.length_append]; exact l1, by rw [List.length_append]; exact l2⟩
  · rcases List.mem_append.mp hx with hx | hx
    · exact R.ok x hx
    · rw [List.mem_singleton.mp hx]; exact ok
  · rcases List.mem_append.mp hx with hx | hx
    · exact R.kb x hx
    · rw [List.mem_singleton.mp hx]; exact kb
theorem rise_snoc {es : List Evt} {e : Evt} (r : Rising es) (h : ∀ x ∈ es, x.kn ≤ e.kn) : Rising (es ++ [e]) := List.pairwise_append.mpr ⟨r, List.pairwise_singleton _ _, fun a ha b hb => by rw [List.mem_singleton.mp hb]; exact h a ha⟩
structure D63 where
  la : Addr
  kn : Int
  b2 : Addr
  oth : Option Addr
  fp : List Addr
  f2 : List Addr
  ev : List Evt
  evO : List Evt
  es2 : List Evt
  ts : List Addr
  us : List Addr
def othV : Option Addr → V
  | none => .non
  | some E => .ref E
def D63.m (d : D63) (p P E1 : Addr) : List Addr := mm p P E1 d.oth d.fp d.f2
structure J63 (CB CH : Addr) (T : List (Addr × Str)) (H0 : Hp) (p P E1 b : Addr) (D : PlanD) (t k : Nat) (d : D63) (H : Hp) : Prop where
  w : T63 CB CH H p P d.la E1 b d.b2 D d.kn d.oth d.fp d.f2 d.ev d.evO d.ev d.es2 d.ts d.us
  kb : d.kn ≤ 10 ^ 54 + 9 * k
  l1 : d.ev.length ≤ t
  rel : RelE D.rk d.evO d.es2
  ro : Rising d.evO
  l2 : d.evO.length ≤ t
  l3 : d.es2.length ≤ t
  c1 : ∀ e ∈ d.ev, e.kn ≤ d.kn
  c2 : ∀ e ∈ d.evO, e.kn ≤ d.kn
  c3 : ∀ e ∈ d.es2, e.kn ≤ d.kn
  nw : ∀ a ∈ d.m p P E1, NewN H0 a
  x0 : ExtN H0 H
  tab : Tabs T H
section
variable {CB CH : Addr} {T : List (Addr × Str)} {H0 H H' : Hp} {p P E1 b : Addr} {D : PlanD} {t k : Nat} {d : D63}
theorem J63.extN (j : J63 CB CH T H0 p P E1 b D t k d H) (x : ExtN H H') (tb : Tabs T H') : J63 CB CH T H0 p P E1 b D t k d H' :=
  ⟨j.w.extN x, j.kb, j.l1, j.rel, j.ro, j.l2, j.l3, j.c1, j.c2, j.c3, j.nw, j.x0.trans x, tb⟩
theorem J63.np (j : J63 CB CH T H0 p P E1 b D t k d H) : NewN H0 p ∧ NewN H0 P ∧ NewN H0 E1 := ⟨j.nw p (mm_iff.mpr (.inl rfl)), j.nw P (mm_iff.mpr (.inr (.inl rfl))), j.nw E1 (mm_iff.mpr (.inr (.inr (.inl rfl))))⟩
theorem J63.look (j : J63 CB CH T H0 p P E1 b D t k d H) (hp : Pot H' p) (s : SameB p H H') : J63 CB CH T H0 p P E1 b D t k d H' :=
  ⟨j.w.look hp s, j.kb, j.l1, j.rel, j.ro, j.l2, j.l3, j.c1, j.c2, j.c3, j.nw, extN_L (fp := [p]) j.x0 (fun c hc => by rw [List.mem_singleton.mp hc]; exact j.np.1) (SameL.ofB List.mem_cons_self s), tabs_pot j.tab j.w.pot s⟩
theorem evT_step {M S : List Addr} {Tt : Addr} {e : Evt} (h : EvT (Ho M H) Tt e) (s : SameL S H H') (hs : ∀ a ∈ S, a ∈ M) : EvT (Ho M H') Tt e :=
  sln_step (.of s) hs (fun _ ha => .inl ha) (o := .tup [.str (kindS e.mv), .int e.kn, .str e.who, .int e.day, e.w]) h nofun
theorem evT_fresh {Tt : Addr} {e : Evt} (j : J63 CB CH T H0 p P E1 b D t k d H) (h : EvT (new H H') Tt e) : EvT (Ho (d.m p P E1) H') Tt e := by
  obtain ⟨q1, q2⟩ := new_iff.mp (show new H H' Tt = some (.tup [.str (kindS e.mv), .int e.kn, .str e.who, .int e.day, e.w]) from h)
  refine ho_in (fun m => ?_) q2
  obtain ⟨o', ho, _⟩ := j.w.ex Tt m
  rw [q1] at ho
  cases ho
theorem J63.event {e : Evt} {la' : Addr} (j : J63 CB CH T H0 p P E1 b D t k d H) (s : SameL [p, P] H H') (hp : Pot H' p) (hP : H' P = some (.dK (planK D e.kn la'))) (hl : LastAt (new H H') la' (some e)) (ok : EvOK D.rk e) (kle : d.kn ≤ e.kn ∧ e.kn ≤ d.kn + 9) :
    J63 CB CH T H0 p P E1 b D t (k + 1) { d with la := la', kn := e.kn } H' := by
  have kb := j.kb
  have nl : ∀ c ∈ [p, P], NewN H0 c := fun c hc => by
    rcases List.mem_cons.mp hc with z | z
    · rw [z]; exact j.np.1
    · rw [List.mem_singleton.mp z]; exact j.np.2.1
  refine ⟨j.w.event (o := none) s hp hP ok.k0 (.inr ⟨e, hl, ok⟩), by show e.kn ≤ 10 ^ 54 + 9 * ((k + 1 : Nat) : Int); omega, j.l1, j.rel, j.ro, j.l2, j.l3, fun x hx => Int.le_trans (j.c1 x hx) kle.1, fun x hx => Int.le_trans (j.c2 x hx) kle.1, fun x hx => Int.le_trans (j.c3 x hx) kle.1, j.nw, extN_L j.x0 nl s, tabs_L j.tab (fun c hc o eo => ?_) s⟩
  rcases List.mem_cons.mp hc with z | z
  · obtain ⟨x, y, e1, _⟩ := j.w.pot
    rw [z, e1] at eo
    cases eo
    exact ⟨nofun, nofun⟩
  · rw [List.mem_singleton.mp z, j.w.hP] at eo
    cases eo
    exact ⟨nofun, nofun⟩
/-- told to the book -/
theorem J63.told1 {Tt : Addr} {e : Evt} (j : J63 CB CH T H0 p P E1 b D t k d H) (hT : EvT (Ho (d.m p P E1) H) Tt e) (ok : EvOK D.rk e) (ke : d.kn = e.kn) :
    EvT (upd H E1 (.lst (d.ts.map V.ref ++ [.ref Tt]))) Tt e ∧ Bk CB CH (upd H E1 (.lst (d.ts.map V.ref ++ [.ref Tt]))) b D.rk d.ev d.fp ∧ (∀ x ∈ d.ev, x.kn ≤ e.kn) ∧
    ∀ (fp' : List Addr) (H3 : Hp), Bk CB CH H3 b D.rk (d.ev ++ [e]) fp' → (∀ c ∈ fp', c ∈ d.fp ∨ upd H E1 (.lst (d.ts.map V.ref ++ [.ref Tt])) c = none) → SameL d.fp (upd H E1 (.lst (d.ts.map V.ref ++ [.ref Tt]))) H3 →
      J63 CB CH T H0 p P E1 b D (t + 1) k { d with fp := fp', ev := d.ev ++ [e], ts := d.ts ++ [Tt] } H3 := by
  have w2 := j.w.put1 hT
  have hT2 : EvT (upd H E1 (.lst (d.ts.map V.ref ++ [.ref Tt]))) Tt e := by
    have h1 := (ho_iff.mp (show Ho (d.m p P E1) H Tt = some (.tup [.str (kindS e.mv), .int e.kn, .str e.who, .int e.day, e.w]) from hT))
    show upd H E1 _ Tt = _
    rw [upd_ne (fun z => h1.1 (mm_iff.mpr (.inr (.inr (.inl z)))))]
    exact h1.2
  have x2 : ExtN H0 (upd H E1 (.lst (d.ts.map V.ref ++ [.ref Tt]))) := LT.ExtN.over j.x0 j.np.2.2
  have tab2 : Tabs T (upd H E1 (.lst (d.ts.map V.ref ++ [.ref Tt]))) := tabs_updG j.tab j.w.e1
  have c1 : ∀ x ∈ d.ev, x.kn ≤ e.kn := fun x hx => by rw [← ke]; exact j.c1 x hx
  refine ⟨hT2, w2.bk, c1, fun fp' H3 bk fr s => ⟨w2.tell1 bk fr s, j.kb, by show (d.ev ++ [e]).length ≤ t + 1; rw [List.length_append]; exact Nat.succ_le_succ j.l1, j.rel, j.ro, Nat.le_succ_of_le j.l2, Nat.le_succ_of_le j.l3, fun x hx => ?_, j.c2, j.c3, fun a ha => ?_, extN_L x2 (fun c hc => j.nw c (mm_iff.mpr (.inr (.inr (.inr (.inr (.inl hc))))))) s, tabs_L tab2 w2.bk.pl s⟩⟩
  · rcases List.mem_append.mp hx with hx | hx
    · exact j.c1 x hx
    · rw [List.mem_singleton.mp hx]; exact Int.le_of_eq ke.symm
  · rcases mm_iff.mp ha with z | z | z | z | z | z
    · exact j.nw a (mm_iff.mpr (.inl z))
    · exact j.nw a (mm_iff.mpr (.inr (.inl z)))
    · exact j.nw a (mm_iff.mpr (.inr (.inr (.inl z))))
    · exact j.nw a (mm_iff.mpr (.inr (.inr (.inr (.inl z)))))
    · rcases fr a z with y | y
      · exact j.nw a (mm_iff.mpr (.inr (.inr (.inr (.inr (.inl y))))))
      · exact newN_of x2 y
    · exact j.nw a (mm_iff.mpr (.inr (.inr (.inr (.inr (.inr z))))))
/-- told to the twin -/
theorem J63.told2 {Tt E : Addr} {e : Evt} (j : J63 CB CH T H0 p P E1 b D t k d H) (ho : d.oth = some E) (hT : EvT (Ho (d.m p P E1) H) Tt e) (ok : EvOK D.rk e) (ke : d.kn = e.kn) (kb : e.kn < 10 ^ 55) (lt : t < 40) :
    EvT (upd H E (.lst (d.us.map V.ref ++ [.ref Tt]))) Tt e ∧ Bk CB CH (upd H E (.lst (d.us.map V.ref ++ [.ref Tt]))) d.b2 D.rk d.es2 d.f2 ∧ (∀ x ∈ d.es2, x.kn ≤ e.kn) ∧
    ∀ (fp' : List Addr) (H3 : Hp), Bk CB CH H3 d.b2 D.rk (d.es2 ++ [e]) fp' → (∀ c ∈ fp', c ∈ d.f2 ∨ upd H E (.lst (d.us.map V.ref ++ [.ref Tt])) c = none) → SameL d.f2 (upd H E (.lst (d.us.map V.ref ++ [.ref Tt]))) H3 →
      J63 CB CH T H0 p P E1 b D (t + 1) k { d with f2 := fp', evO := d.evO ++ [e], es2 := d.es2 ++ [e], us := d.us ++ [Tt] } H3 := by
  obtain ⟨la, kn, b2, oth, fp, f2, ev, evO, es2, ts, us⟩ := d
  have ho : oth = some E := ho
  subst ho
  have w2 := j.w.put2 hT
  have hT2 : EvT (upd H E (.lst (us.map V.ref ++ [.ref Tt]))) Tt e := by
    have h1 := (ho_iff.mp (show Ho (mm p P E1 (some E) fp f2) H Tt = some (.tup [.str (kindS e.mv), .int e.kn, .str e.who, .int e.day, e.w]) from hT))
    show upd H E _ Tt = _
    rw [upd_ne (fun z => h1.1 (mm_iff.mpr (.inr (.inr (.inr (.inl (by rw [z])))))))]
    exact h1.2
  have nE : NewN H0 E := j.nw E (mm_iff.mpr (.inr (.inr (.inr (.inl rfl)))))
  have x2 : ExtN H0 (upd H E (.lst (us.map V.ref ++ [.ref Tt]))) := LT.ExtN.over j.x0 nE
  have tab2 : Tabs T (upd H E (.lst (us.map V.ref ++ [.ref Tt]))) := tabs_updG j.tab (j.w.e2 E rfl)
  have c3 : ∀ x ∈ es2, x.kn ≤ e.kn := fun x hx => by rw [← show kn = e.kn from ke]; exact j.c3 x hx
  have c2 : ∀ x ∈ evO, x.kn ≤ e.kn := fun x hx => by rw [← show kn = e.kn from ke]; exact j.c2 x hx
  have l2 : evO.length ≤ t := j.l2
  have l3 : es2.length ≤ t := j.l3
  refine ⟨hT2, w2.bv, c3, fun fp' H3 bk fr s => ⟨w2.tell2 bk fr s, j.kb, Nat.le_succ_of_le j.l1, relE_snoc j.rel (rise_snoc j.ro c2) (rise_snoc j.w.bv.ev.2.1 c3) ok kb (by show evO.length < 40; omega) (by show es2.length < 40; omega), rise_snoc j.ro c2, by show (evO ++ [e]).length ≤ t + 1; rw [List.length_append]; exact Nat.succ_le_succ l2, by show (es2 ++ [e]).length ≤ t + 1; rw [List.length_append]; exact Nat.succ_le_succ l3, j.c1, fun x hx => ?_, fun x hx => ?_, fun a ha => ?_, extN_L x2 (fun c hc => j.nw c (mm_iff.mpr (.inr (.inr (.inr (.inr (.inr hc))))))) s, tabs_L tab2 w2.bv.pl s⟩⟩
  · rcases List.mem_append.mp hx with hx | hx
    · exact j.c2 x hx
    · rw [List.mem_singleton.mp hx]; exact Int.le_of_eq ke.symm
  · rcases List.mem_append.mp hx with hx | hx
    · exact j.c3 x hx
    · rw [List.mem_singleton.mp hx]; exact Int.le_of_eq ke.symm
  · rcases mm_iff.mp ha with z | z | z | z | z | z
    · exact j.nw a (mm_iff.mpr (.inl z))
    · exact j.nw a (mm_iff.mpr (.inr (.inl z)))
    · exact j.nw a (mm_iff.mpr (.inr (.inr (.inl z))))
    · exact j.nw a (mm_iff.mpr (.inr (.inr (.inr (.inl z)))))
    · exact j.nw a (mm_iff.mpr (.inr (.inr (.inr (.inr (.inl z))))))
    · rcases fr a z with y | y
      · exact j.nw a (mm_iff.mpr (.inr (.inr (.inr (.inr (.inr y))))))
      · exact newN_of x2 y
theorem J63.knb (j : J63 CB CH T H0 p P E1 b D t k d H) (h : k ≤ 40) : (∀ e ∈ d.ev, e.kn < 10 ^ 55) ∧ d.kn < 10 ^ 55 := by
  have kb := j.kb
  have : d.kn < 10 ^ 55 := by omega
  exact ⟨fun e he => by have := j.c1 e he; omega, this⟩
theorem J63.relB (j : J63 CB CH T H0 p P E1 b D t k d H) (h : k ≤ 40) (ht : t ≤ 40) : RelE D.rk d.ev d.ev := relE_self j.w.bk.ev.2.2 (j.knb h).1 (Nat.le_trans j.l1 ht)
/-- a new twin -/
theorem J63.twin {b' E : Addr} {fp' : List Addr} (j : J63 CB CH T H0 p P E1 b D t k d H) (h : k ≤ 40) (ht : t ≤ 40) (x : ExtN H H') (bv : Bk CB CH H' b' D.rk ((entW d.ev).mergeSort knLe) fp') (nw : ∀ c ∈ fp', NewN H c) (nE : NewN H E) (hE : H' E = some (.lst (d.ts.map V.ref))) (tb : Tabs T H') :
    J63 CB CH T H0 p P E1 b D t k { d with b2 := b', oth := some E, f2 := fp', evO := d.ev, es2 := (entW d.ev).mergeSort knLe, us := d.ts } H' := by
  have pm := List.mergeSort_perm (entW d.ev) knLe
  have le := entW_len d.ev
  have l1 := j.l1
  refine ⟨j.w.again x bv nw (fun E' h => by cases h; exact ⟨nE, hE⟩) (fun _ h => h), j.kb, j.l1, relE_twin j.w.bk.ev.2.1 j.w.bk.ev.2.2 (j.knb h).1 (Nat.le_trans j.l1 ht), j.w.bk.ev.2.1, j.l1, by show ((entW d.ev).mergeSort knLe).length ≤ t; rw [pm.length_eq]; omega, j.c1, j.c1, fun e he => j.c1 e ((entW_is d.ev).sub e (pm.mem_iff.mp he)), fun a ha => ?_, j.x0.trans x, tb⟩
  rcases mm_iff.mp ha with z | z | z | z | z | z
  · exact j.nw a (mm_iff.mpr (.inl z))
  · exact j.nw a (mm_iff.mpr (.inr (.inl z)))
  · exact j.nw a (mm_iff.mpr (.inr (.inr (.inl z))))
  · cases z
    exact NewN.back j.x0 nE
  · exact j.nw a (mm_iff.mpr (.inr (.inr (.inr (.inr (.inl z))))))
  · exact NewN.back j.x0 (nw a z)
end
end LT
set_option Elab.async false
set_option linter.all false
set_option maxRecDepth 100000
set_option maxHeartbeats 1600000
set_option pp.maxSteps 300
namespace K63
open PySem PySem.Spec PyProof.Rows L2 LT NdefX LamX
section
variable {P : Program} {w : World} {K : PySem.W.Frag} {mg : Str → Option Value} {base : Heap}
def spLaw (K : PySem.W.Frag) (TL : List (Addr × Str)) : Sp := fun vs H Q _ => ∃ (a : Addr) (ns : List Int), vs = [.ref a] ∧ SqL K H a (ns.map V.int) ∧ ns.length ≤ 63 ∧ Tabs TL H ∧ ∀ H', Q (.bl true) H'
theorem sc_law : FnScope ["_law_script", "_law_k", "_law_pot_here", "_law_plan_here", "_law_handed", "_law_book", "_law_events", "_law_others", "_law_twin", "_law_turn", "_law_event_here"] ["_law_script"] (defScope s_law) := ⟨rfl, rfl, rfl, by decide +kernel, rfl, by decide +kernel, by decide +kernel⟩
theorem ok_law (D : All K P mg) (TB : TBs D base) {f : Addr} {fd : FuncData} (F : Fun K "law" "law" s_law f fd) : FnG P w K mg base CX0 15 f fd ["_law_script"] (spLaw K (TLs D)) := by
  refine okG F sc_law (fun h => ?_) (fun cdv A outer s H vs Q E hG hr h => ?_)
  · first | (obtain ⟨_, rfl, _⟩ := h; rfl) | (obtain ⟨_, _, rfl, _⟩ := h; rfl) | (obtain ⟨_, _, _, rfl, _⟩ := h; rfl) | (obtain ⟨_, _, _, _, rfl, _⟩ := h; rfl) | (obtain ⟨_, _, _, _, _, rfl, _⟩ := h; rfl) | (obtain ⟨_, _, _, _, _, _, rfl, _⟩ := h; rfl) | (obtain ⟨_, _, _, _, _, _, _, rfl, _⟩ := h; rfl) | (obtain ⟨_, _, _, _, _, _, _, _, rfl, _⟩ := h; rfl) | (obtain ⟨_, _, _, _, _, _, _, _, _, rfl, _⟩ := h; rfl) | (obtain ⟨_, _, _, _, _, _, _, _, _, _, rfl, _⟩ := h; rfl) | (obtain ⟨_, _, _, _, _, _, _, _, _, _, _, rfl, _⟩ := h; rfl) | (obtain ⟨_, _, _, _, _, _, _, _, _, _, _, _, rfl, _⟩ := h; rfl) | (obtain ⟨_, _, _, _, _, _, _, _, _, _, _, _, _, rfl, _⟩ := h; rfl) | (obtain ⟨_, _, _, _, _, _, _, _, _, _, _, _, _, _, rfl, _⟩ := h; rfl) | (obtain ⟨_, _, _, _, _, _, _, _, _, _, _, _, _, _, _, rfl, _⟩ := h; rfl)
  · have T := D.T
    have nd := sc_law.nd
    have hu := hr.units
    have hu1 := hu_of hr
    have hu0 := hr.units0
    have hG2 : (cxOf CX0 P w K mg base ["_law_script", "_law_k", "_law_pot_here", "_law_plan_here", "_law_handed", "_law_book", "_law_events", "_law_others", "_law_twin", "_law_turn", "_law_event_here"] "law" (defScope s_law) f cdv A outer s H E).nox.A.guards = some [] := hG
    obtain ⟨sc, ss, rfl, hS, hl, tab, q⟩ := h
    refine ⟨_, pss_cons (ps_for PassesOwn.never rfl (pi_range1 (by rfl) T.range (pa_cons (pe_callB (call_max2 rfl) (by rfl) T.max (by decide +kernel) (pa_cons pe_int (pa_cons (pe_callB (call_min2 rfl) (by rfl) T.min (by decide +kernel) (pa_cons (pe_callB call_len_seq (by rfl) T.len PySem.boot_len (pa_cons (pv 0) pa_nil)) (pa_cons pe_int pa_nil))) pa_nil))) pa_nil)) (pg_name (i := 1) nd rfl (Or.inl rfl)) (pss_cons (ps_set (i := 2) nd rfl (.inl rfl) (pe_call (ok__law_pot D) (hr.mono (by decide)) (by rfl) D.h__law_pot.gl D.h__law_pot.fn.kp D.h__law_pot.bd .nil pass0 (pa_cons (pv 0) (pa_cons (pv 1) pa_nil))))
      (pss_cons (ps_set (i := 3) nd rfl (.inl rfl) (pe_call (ok__law_plan D) (hr.mono (by decide)) (by rfl) D.h__law_plan.gl D.h__law_plan.fn.kp D.h__law_plan.bd .nil pass0 (pa_cons (pv 2) (pa_cons pe_int pa_nil))))
      (pss_cons (ps_set (i := 4) nd rfl (.inl rfl) (pe_callTy call_dictD (by rfl) T.dict (by decide +kernel) (pa_cons (pe_dget hu1 (pv 3) pe_str (fun _ _ => rfl)) pa_nil)))
      (pss_cons (ps_set (i := 5) nd rfl (.inl rfl) (pe_make D.M_Book (ok_Book___init__ D) (hr.mono (by decide)) (by rfl) D.Z_Book.gl D.h_Book___init__.bd .nil pass0 (pa_cons (pv 4) pa_nil)))
      (pss_cons (ps_dput hu1 (pv 4) pe_str pe_int rfl)
      (pss_cons (ps_par (i := 6) (j := 7) (by rfl) nd rfl rfl (by decide) rfl rfl (pa_cons (pe_lst pa_nil) (pa_cons pe_non pa_nil)) (by rfl))
      (pss_cons (ps_set (i := 8) nd rfl (.inl rfl) (pe_meth0 (pv 5) D.Z_Book.cl D.h_Book_twin.me (ok_Book_twin D TB) (hr.mono (by decide)) D.h_Book_twin.bd .nil pass0))
      (pss_cons (ps_for PassesOwn.never rfl (pi_range1 (by rfl) T.range (pa_cons (pe_op op_add pe_int (pe_call (ok__law_take D) (hr.mono (by decide)) (by rfl) D.h__law_take.gl D.h__law_take.fn.kp D.h__law_take.bd .nil pass0 (pa_cons (pv 2) (pa_cons pe_int pa_nil)))) pa_nil)) (pg_name (i := 9) nd rfl (Or.inl rfl)) (pss_cons (ps_if (pt_cmpR op_eq (pe_call (ok__law_take D) (hr.mono (by decide)) (by rfl) D.h__law_take.gl D.h__law_take.fn.kp D.h__law_take.bd .nil pass0 (pa_cons (pv 2) (pa_cons pe_int pa_nil))) pe_int (nomark _)) (pss_cons (ps_par (i := 8) (j := 7) (by rfl) nd rfl rfl (by decide) rfl rfl (pa_cons (pe_meth0 (pv 5) D.Z_Book.cl D.h_Book_twin.me (ok_Book_twin D TB) (hr.mono (by decide)) D.h_Book_twin.bd .nil pass0) (pa_cons (pe_callTy call_list_of (by rfl) T.list (by decide +kernel) (pa_cons (pv 6) pa_nil)) pa_nil)) (by rfl))
      (pss_one (ps_if (pt_not (pt_val (pe_call (ok__law_same D TB) (hr.mono (by decide)) (by rfl) D.h__law_same.gl D.h__law_same.fn.kp D.h__law_same.bd .nil pass0 (pa_cons (pv 5) (pa_cons (pv 8) (pa_cons pe_bl pa_nil)))))) (pss_one (ps_ret pe_bl)) pss_nil))) pss_nil)
      (pss_cons (ps_set (i := 10) nd rfl (.inl rfl) (pe_call (ok__law_event D) (hr.mono (by decide)) (by rfl) D.h__law_event.gl D.h__law_event.fn.kp D.h__law_event.bd .nil pass0 (pa_cons (pv 2) (pa_cons (pv 3) pa_nil))))
      (pss_cons (ps_if (PW.pt (pw_and (pt_cmpR op_notN (pv 7) pe_non (nomark _)) (pw_and1 (pt_cmpR op_eq (pe_call (ok__law_take D) (hr.mono (by decide)) (by rfl) D.h__law_take.gl D.h__law_take.fn.kp D.h__law_take.bd .nil pass0 (pa_cons (pv 2) (pa_cons pe_int pa_nil))) pe_int (nomark _))))) (pss_cons (ps_expr (pe_bm PySem.F.plainAttrs_list PySem.F.slot_list_append PySem.F.type_list_append mt_append (pv 7) (pa_cons (pv 10) pa_nil)))
      (pss_one (ps_expr (pe_call (ok__law_tell D) (hr.mono (by decide)) (by rfl) D.h__law_tell.gl D.h__law_tell.fn.kp D.h__law_tell.bd .nil pass0 (pa_cons (pv 8) (pa_cons (pv 10) pa_nil)))))) (pss_cons (ps_expr (pe_bm PySem.F.plainAttrs_list PySem.F.slot_list_append PySem.F.type_list_append mt_append (pv 6) (pa_cons (pv 10) pa_nil)))
      (pss_one (ps_expr (pe_call (ok__law_tell D) (hr.mono (by decide)) (by rfl) D.h__law_tell.gl D.h__law_tell.fn.kp D.h__law_tell.bd .nil pass0 (pa_cons (pv 5) (pa_cons (pv 10) pa_nil)))))))
      (pss_cons (ps_if (pt_not (pt_val (pe_callG (ok__law_stands D TB) hG2 (hr.mono (by decide)) (by rfl) D.h__law_stands.gl D.h__law_stands.fn.kp D.h__law_stands.bd .nil pass0 (pa_cons (pv 5) (pa_cons (pe_dget hu1 (pv 3) pe_str (fun _ _ => rfl)) (pa_cons (pv 6) pa_nil)))))) (pss_one (ps_ret pe_bl)) pss_nil)
      (pss_one (ps_if (PW.pt (pw_and (pt_cmpR op_notN (pv 7) pe_non (nomark _)) (pw_and1 (pt_not (pt_val (pe_callG (ok__law_stands D TB) hG2 (hr.mono (by decide)) (by rfl) D.h__law_stands.gl D.h__law_stands.fn.kp D.h__law_stands.bd .nil pass0 (pa_cons (pv 8) (pa_cons (pe_dget hu1 (pv 3) pe_str (fun _ _ => rfl)) (pa_cons (pv 7) pa_nil))))))))) (pss_one (ps_ret pe_bl)) pss_nil)))))))
      (pss_one (ps_if (pt_not (pt_val (pe_call (ok__law_unlike D TB) (hr.mono (by decide)) (by rfl) D.h__law_unlike.gl D.h__law_unlike.fn.kp D.h__law_unlike.bd .nil pass0 (pa_cons (pv 5) (pa_cons (pv 3) (pa_cons (pv 6) pa_nil)))))) (pss_one (ps_ret pe_bl)) pss_nil)))))))))))
      (pss_one (ps_ret pe_bl)), ?_⟩
    refine ⟨_, rfl, sc, _, rfl, .inl hS, _, _, rfl, _, _, rfl, ?_⟩
    generalize hN : (if (if (2 : Int) < (((ss.map V.int).length : Nat) : Int) then (2 : Int) else (((ss.map V.int).length : Nat) : Int)) > 1 then (if (2 : Int) < (((ss.map V.int).length : Nat) : Int) then (2 : Int) else (((ss.map V.int).length : Nat) : Int)) else 1) = N
    have hN6 : 1 ≤ N ∧ N ≤ 2 := by
      rw [← hN]
      split <;> (try split) <;> omega
    refine ⟨N, rfl, by omega, by omega, for_range (lo := 0) (n := N.toNat) (fun i σ H' => (∃ x1 x2 x3 x4 x5 x6 x7 x8 x9 x10, σ = [some (.ref sc), x1, x2, x3, x4, x5, x6, x7, x8, x9, x10]) ∧ ExtN H H' ∧ Tabs (TLs D) H')
      ⟨⟨none, none, none, none, none, none, none, none, none, none, rfl⟩, ExtN.of (Same.refl _), tab⟩ ?_ ?_⟩
    · rintro i σ H0 hi ⟨⟨x1, x2, x3, x4, x5, x6, x7, x8, x9, x10, rfl⟩, sm0, tab0⟩
      refine ⟨_, rfl, _, rfl, sc, ss, i, (by rw [Int.zero_add]; rfl), extN_seqL sm0 hS, by omega, fun p H1 np s1 hp1 => ?_⟩
      refine ⟨_, rfl, p, 4, rfl, hp1, by decide, by decide, fun P la0 D0 k0 H2 nP G0 kk I0 L0 eP hp2 s2 => ?_⟩
      have er2 : H2 D0.r = some (.dK (sd D0.rk)) := (new_iff.mp (ho_iff.mp I0.hr).2).2
      refine ⟨_, rfl, P, _, rfl, pg_ranks eP, D0.r, _, rfl, Rd.of er2, fun hd nhd => ?_⟩
      have s3 := same_upd (o := .dK (sd D0.rk)) nhd
      have ehd := upd_same (H := H2) (a := hd) (o := .dK (sd D0.rk))
      generalize L2.upd H2 hd (.dK (sd D0.rk)) = H3 at *
      refine ⟨_, rfl, fun b dx nb ndb nex => ?_⟩
      have sm := same_made (C := D.C_Book) (o := .ins D.C_Book dx []) nb ndb
      refine ⟨b, dx, hd, D0.rk, rfl, upd_same, sm _ _ ehd, G0.rk, fun fp H4 bk fr sb => ⟨rfl, ?_⟩⟩
      have s34 := sameB_new nb sm sb
      have frN : ∀ a ∈ fp, H3 a = none := fun a ha => by
        rcases fr a ha with h | h
        · rw [h]; exact nb
        · exact sm.free h
      have ehd4 := s34 _ _ ehd
      refine ⟨_, rfl, hd, _, rfl, DPut.k (k := Sum.inr (Str.ofString "Zz")) ehd4 (small2k (by rw [sd_len]; have := G0.rk.ln; omega)), ?_⟩
      have x24 : ExtN H2 H4 := ExtN.of (s3.trans s34)
      generalize putK (sd D0.rk) (Sum.inr (Str.ofString "Zz")) _ = zz
      have x25 : ExtN H2 (L2.upd H4 hd (.dK zz)) := LT.ExtN.over x24 (newN_none nhd)
      have hdf : hd ∉ fp := fun h => by
        rw [frN _ h] at ehd
        cases ehd
      have bk5 : Bk D.C_Book D.C_History (L2.upd H4 hd (.dK zz)) b D0.rk [] fp := bk.monoL (S := [hd]) (SameL.upd List.mem_cons_self (SameL.of (Same.refl _))) fun c hc m => hdf (by rw [← List.mem_singleton.mp m]; exact hc)
      have s02 : Same H0 H2 := fun b o e => ((SameB.of s1).trans s2) b o (ne_of_none e np) e
      have tab5 : Tabs (TLs D) (L2.upd H4 hd (.dK zz)) := tabs_L (fp := [hd]) (tab0.ext (s02.trans (s3.trans s34))) (fun c hc x e => by
        rw [List.mem_singleton.mp hc, ehd4] at e
        cases e
        exact ⟨nofun, nofun⟩) (SameL.upd List.mem_cons_self (SameL.of (Same.refl _)))
      generalize L2.upd H4 hd (.dK zz) = H5 at *
      refine ⟨by show 0 ≤ sizeLine; decide, fun E1 nE1 => ?_⟩
      have s6 := same_upd (o := .lst []) nE1
      have eE6 := upd_same (H := H5) (a := E1) (o := .lst [])
      generalize L2.upd H5 E1 (.lst []) = H6 at *
      have bk6 := bk5.mono s6
      obtain ⟨dxb, Rb, Mb, Lb, vb, ix6⟩ := bk6.ix
      have x26 := x25.trans (ExtN.of s6)
      refine ⟨_, _, rfl, _, rfl, b, dxb, _, rfl, ix6, rfl, b, D0.rk, [], fp, rfl, bk6, by decide, tab5.ext s6, fun L b2 f2 H7 hL bv nw2 x7 T7 => ?_⟩
      have eL : L = [] := List.length_eq_zero_iff.mp (Nat.le_zero.mp hL.len)
      rw [eL, List.mergeSort_nil] at bv
      have x27 := x26.trans x7
      have x02 : ExtN H0 H2 := ExtN.of s02
      have hp7 : Pot H7 p := by
        obtain ⟨x, y, e, k⟩ := hp2
        exact ⟨x, y, x27 _ _ e nofun, k⟩
      have nwM : ∀ a ∈ mm p P E1 none fp f2, a = p ∨ a = P ∨ NewN H2 a := fun a ha => by
        rcases mm_iff.mp ha with z | z | z | z | z | z
        · exact .inl z
        · exact .inr (.inl z)
        · rw [z]; exact .inr (.inr (newN_of x25 nE1))
        · cases z
        · exact .inr (.inr (newN_none (s3.free (frN a z))))
        · exact .inr (.inr ((nw2 a z).back x26))
      have no : ∀ {a : Addr} {o : HO}, H2 a = some o → (∀ ps, o ≠ .tbl ps) → NewN H2 a → False := fun {a o} e t n => by
        obtain ⟨ps, z⟩ := n o e
        exact t ps z
      have still : ∀ {a : Addr} {o : HO}, Ho [P] (new H1 H2) a = some o → (∀ ps, o ≠ .tbl ps) → Ho (mm p P E1 none fp f2) H7 a = some o := fun {a o} e t => by
        obtain ⟨e1, e2⟩ := ho_iff.mp e
        obtain ⟨e3, e4⟩ := new_iff.mp e2
        refine ho_in (fun h => ?_) (x27 _ _ e4 t)
        rcases nwM a h with z | z | z
        · obtain ⟨x, y, e5, _⟩ := hp1
          rw [z, e5] at e3
          cases e3
        · exact e1 (by rw [z]; exact List.mem_cons_self)
        · exact no e4 t z
      have nP0 : H0 P = none := s1.free nP
      have j0 : J63 D.C_Book D.C_History (TLs D) H0 p P E1 b D0 0 0 ⟨la0, k0, b2, none, fp, f2, [], [], [], [], []⟩ H7 := by
        refine ⟨⟨hp7, x27 _ _ eP nofun, x7 _ _ eE6 nofun, nofun, bk6.extN x7, bv, ⟨still I0.hn nofun, still I0.hr nofun, still I0.hl nofun⟩, ⟨none, still L0 nofun, nofun⟩, .nil, .nil, G0, kk.1, fun h => ?_, fun h => ?_, fun a ha h => ?_, nofun⟩, by show k0 ≤ 10 ^ 54 + 9 * ((0 : Nat) : Int); omega, Nat.le_refl _, relE_self nofun nofun (Nat.zero_le _), List.Pairwise.nil, Nat.le_refl _, Nat.le_refl _, nofun, nofun, nofun, fun a ha => ?_, x02.trans x27, T7⟩
        · exact no eP nofun (newN_none (s3.free (frN _ h)))
        · exact no eP nofun ((nw2 _ h).back x26)
        · obtain ⟨o, e⟩ := bk6.ex a h
          obtain ⟨ps, z⟩ := nw2 a ha o e
          exact (bk6.pl a h o e).1 ps z
        · rcases nwM a ha with z | z | z
          · rw [z]; exact newN_none np
          · rw [z]; exact newN_none nP0
          · exact z.back x02
      clear nwM no still nw2 bv bk6 bk5 tab5 frN I0 L0
      refine ⟨_, rfl, p, 28, rfl, hp7, by decide, by decide, fun d H8 d0 d1 hp8 s8 => ⟨3, d, rfl, rfl, 3 + d, rfl, by omega, by omega, ?_⟩⟩
      refine for_range (lo := 0) (n := (3 + d).toNat) (fun t σ H' => ∃ (dd : D63) (x9 x10 : Option V), σ = [some (.ref sc), some (.int (0 + (i : Nat))), some (.ref p), some (.ref P), some (.ref hd), some (.ref b), some (.ref E1), some (othV dd.oth), some (.ref dd.b2), x9, x10] ∧ J63 D.C_Book D.C_History (TLs D) H0 p P E1 b D0 t t dd H')
        ⟨_, _, _, rfl, j0.look hp8 s8⟩ ?_ ?_
      · rintro t σ H9 ht ⟨dd, y9, y10, rfl, j⟩
        have t30 : t < 31 := by omega
        refine ⟨_, rfl, p, 4, rfl, j.w.pot, by decide, by decide, fun g H10 g0 g1 hp10 s10 => ⟨rfl, _, rfl, ?_⟩⟩
        have j10 := j.look hp10 s10
        apply joinA (α := D63) (J := fun dd' Hx => J63 D.C_Book D.C_History (TLs D) H0 p P E1 b D0 t t dd' Hx)
          (sl := fun dd' => [some (.ref sc), some (.int (0 + (i : Nat))), some (.ref p), some (.ref P), some (.ref hd), some (.ref b), some (.ref E1), some (othV dd'.oth), some (.ref dd'.b2), some (.int (0 + (t : Nat))), y10])
        · intro h
          refine ite2 (fun _ => ?_) (fun _ => h dd H10 j10)
          obtain ⟨dxb, Rb, Mb, Lb, vb, ix10⟩ := j10.w.bk.ix
          have l1 := j10.l1
          refine ⟨_, rfl, b, dxb, _, rfl, ix10, rfl, b, D0.rk, dd.ev, dd.fp, rfl, j10.w.bk, by omega, j10.tab, fun L b3 f3 H11 hL bv3 nw3 x11 T11 => ?_⟩
          obtain rfl := hL.uniq (entW_is _)
          have e111 := x11 _ _ j10.w.e1 nofun
          refine ⟨_, rfl, E1, _, rfl, .inl (SqL.of e111), fun E nE => ?_⟩
          have s12 := same_upd (o := .lst (dd.ts.map V.ref)) nE
          have eE12 := upd_same (H := H11) (a := E) (o := .lst (dd.ts.map V.ref))
          generalize L2.upd H11 E (.lst (dd.ts.map V.ref)) = H12 at *
          have x12 := x11.trans (ExtN.of s12)
          have nb3 : b ≠ b3 := NewN.ne (nw3 _ bv3.inf) ix10
          have pl : ((entW dd.ev).mergeSort knLe).length ≤ 60 := by
            have := (List.mergeSort_perm (entW dd.ev) knLe).length_eq
            have := entW_len dd.ev
            omega
          refine ⟨_, _, rfl, _, rfl, _, rfl, b, b3, D0.rk, D0.rk, dd.ev, _, dd.fp, f3, true, rfl, j10.w.bk.extN x12, bv3.mono s12, nb3, by omega, pl, ?_, ?_, T11.ext s12, fun H13 x13 T13 => ⟨_, rfl, iteF ?_⟩⟩
          · rw [rkEq_refl j10.w.bk.ev.1, entW_again, decide_eq_true rfl]
            rfl
          · rw [rkEq_refl j10.w.bk.ev.1, entW_again, decide_eq_true rfl]
            rfl
          exact h _ H13 (j10.twin (by omega) (by omega) (x12.trans x13) ((bv3.mono s12).extN x13) nw3 (newN_of x11 nE) (x13 _ _ eE12 nofun) T13)
        clear j j10 hp10 s10
        rintro dd H13 j
        obtain ⟨lo, hlo, hlk⟩ := j.w.la
        refine ⟨_, rfl, _, rfl, p, P, dd.la, D0, dd.kn, lo, rfl, j.w.pot, j.w.hP, j.w.hI.mono ho_le, j.w.hG, j.w.k0, hlo.mono ho_le, hlk, fun T la' e H14 kle ok hT hla hP14 hp14 s14 => ?_⟩
        have j14 := j.event s14 hp14 hP14 hla ok kle
        have hT14 := evT_fresh j hT
        apply joinA (α := D63) (J := fun dd' Hx => J63 D.C_Book D.C_History (TLs D) H0 p P E1 b D0 (t + 1) (t + 1) dd' Hx)
          (sl := fun dd' => [some (.ref sc), some (.int (0 + (i : Nat))), some (.ref p), some (.ref P), some (.ref hd), some (.ref b), some (.ref E1), some (othV dd'.oth), some (.ref dd'.b2), some (.int (0 + (t : Nat))), some (.ref T)])
        · intro h
          cases ho : dd.oth with
          | none =>
            refine ⟨_, rfl, rfl, _, rfl, iteF ?_⟩
            obtain ⟨hT2, bk2, c2, F⟩ := j14.told1 hT14 ok rfl
            refine ⟨_, rfl, .inl ⟨rfl, _, SqL.of j14.w.e1⟩, _, rfl, E1, _, _, rfl, rfl, j14.w.e1, small2k (by rw [List.length_map]; have := Paired.length j14.w.h1; have := j14.l1; omega), ?_⟩
            exact ⟨_, rfl, _, rfl, b, T, D0.rk, dd.ev, dd.fp, e, rfl, bk2, hT2, ok, c2, by have := j14.l1; have : dd.ev.length ≤ t := this; omega, fun fp' H16 bk16 fr16 s16 => by
              have h := h _ H16 (F fp' H16 bk16 fr16 s16)
              rw [show othV _ = V.non from congrArg othV ho] at h
              dsimp only
              exact h⟩
          | some E =>
            refine ⟨_, rfl, rfl, _, rfl, iteT ⟨_, rfl, p, 3, rfl, hp14, by decide, by decide, fun g H15 g0 g1 hp15 s15 => ⟨rfl, _, rfl, ?_⟩⟩⟩
            have j15 := j14.look hp15 s15
            have hT15 := evT_step (S := [p]) hT14 (SameL.ofB List.mem_cons_self s15) fun a ha => mm_iff.mpr (.inl (List.mem_singleton.mp ha))
            refine ite2 (fun _ => ?_) (fun _ => ?_)
            · obtain ⟨hT2, bk2, c2, F⟩ := j15.told2 ho hT15 ok rfl (j15.knb (by omega)).2 (by omega)
              have e2 := j15.w.e2 E ho
              refine ⟨_, rfl, .inl ⟨rfl, _, SqL.of e2⟩, _, rfl, E, _, _, rfl, rfl, e2, small2k (by rw [List.length_map]; have := Paired.length j15.w.h2; have := j15.l2; omega), ?_⟩
              refine ⟨_, rfl, _, rfl, dd.b2, T, D0.rk, dd.es2, dd.f2, e, rfl, bk2, hT2, ok, c2, by have := j15.l3; have : dd.es2.length ≤ t := this; omega, fun fp' H16 bk16 fr16 s16 => ?_⟩
              have h := h _ H16 (F fp' H16 bk16 fr16 s16)
              rw [show othV _ = V.ref E from congrArg othV ho] at h
              dsimp only
              exact h
            · obtain ⟨hT2, bk2, c2, F⟩ := j15.told1 hT15 ok rfl
              refine ⟨_, rfl, .inl ⟨rfl, _, SqL.of j15.w.e1⟩, _, rfl, E1, _, _, rfl, rfl, j15.w.e1, small2k (by rw [List.length_map]; have := Paired.length j15.w.h1; have := j15.l1; omega), ?_⟩
              exact ⟨_, rfl, _, rfl, b, T, D0.rk, dd.ev, dd.fp, e, rfl, bk2, hT2, ok, c2, by have := j15.l1; have : dd.ev.length ≤ t := this; omega, fun fp' H16 bk16 fr16 s16 => by
                have h := h _ H16 (F fp' H16 bk16 fr16 s16)
                rw [show othV _ = V.ref E from congrArg othV ho] at h
                dsimp only
                exact h⟩
        clear j j14 hT14 hla hT
        rintro dd H16 j
        have t40 : t + 1 ≤ 40 := by omega
        refine ⟨_, rfl, _, rfl, P, _, rfl, pg_ranks j.w.hP, _, rfl, b, D0.r, E1, D0.rk, dd.ev, dd.ev, dd.fp, rfl, j.w.bk, (ho_iff.mp j.w.hI.hr).2, ⟨dd.ts, j.w.e1, paired_imp (fun _ _ h => (ho_iff.mp h).2) j.w.h1⟩, j.relB t40 t40, j.tab, fun H17 x17 T17 => ⟨_, rfl, iteF ?_⟩⟩
        have j17 := j.extN x17 T17
        cases ho : dd.oth with
        | none =>
          refine ⟨_, rfl, rfl, _, rfl, iteF ⟨dd, _, _, by rw [ho], j17⟩⟩
        | some E =>
          refine ⟨_, rfl, rfl, _, rfl, iteT ⟨_, rfl, _, rfl, P, _, rfl, pg_ranks j17.w.hP, _, rfl, dd.b2, D0.r, E, D0.rk, dd.evO, dd.es2, dd.f2, rfl, j17.w.bv, (ho_iff.mp j17.w.hI.hr).2, ⟨dd.us, j17.w.e2 E ho, paired_imp (fun _ _ h => (ho_iff.mp h).2) j17.w.h2⟩, j17.rel, j17.tab, fun H18 x18 T18 => ⟨_, rfl, iteF ⟨dd, _, _, by rw [ho], j17.extN x18 T18⟩⟩⟩⟩
      · rintro σ H9 ⟨dd, y9, y10, rfl, j⟩
        have t40 : (3 + d).toNat ≤ 40 := by omega
        refine ⟨_, rfl, _, rfl, _, rfl, b, P, E1, dd.la, D0, dd.kn, dd.ev, dd.ev, dd.fp, rfl, j.w.bk, j.w.hP, j.w.hI.mono ho_le, j.w.hG, ⟨dd.ts, j.w.e1, paired_imp (fun _ _ h => (ho_iff.mp h).2) j.w.h1⟩, j.relB t40 t40, j.w.k0, j.c1, j.c1, j.tab, fun H10 x10 T10 => ⟨_, rfl, iteF ⟨⟨_, _, _, _, _, _, _, _, _, _, rfl⟩, sm0.trans (j.x0.trans x10), T10⟩⟩⟩
    · rintro σ H0 ⟨_, e, t⟩
      exact q _
end
end K63
set_option Elab.async false
set_option linter.all false
set_option maxRecDepth 100000
set_option maxHeartbeats 3200000
namespace K63
open PySem PySem.Spec PyProof.Rows L2 LT NdefX
structure LeftC (K : PySem.W.Frag) (C_History C_Book : Addr) : Prop where
  n_History : PySem.W.nsIn K mainGlobals "History" = some (some (.ref C_History))
  n_Book : PySem.W.nsIn K mainGlobals "Book" = some (some (.ref C_Book))
  cn : PySem.W.specialIn K (.builtin "object.__class__") "__get__" = some (some (.builtin "getset_descriptor.__get__"))
  ct : PySem.W.takesIn K (.builtin "object.__class__") = some true
  pg_History : PySem.W.plainGet K C_History Str.empty = true
  hd_History : PySem.W.hasDictIn K C_History = true
  po_History : PySem.W.plainOver K C_History = true
  sa_History : PySem.W.findIn K (.ref C_History) "__setattr__" = some (some (.builtin "object.__setattr__"))
  kC_History : PySem.W.keepIn K (.ref C_History) = true
  mk_History : PySem.W.makesIn K C_History = true
  f_History_by_day : PySem.W.findIn K (.ref C_History) "by_day" = some none
  pg_Book : PySem.W.plainGet K C_Book Str.empty = true
  hd_Book : PySem.W.hasDictIn K C_Book = true
  po_Book : PySem.W.plainOver K C_Book = true
  sa_Book : PySem.W.findIn K (.ref C_Book) "__setattr__" = some (some (.builtin "object.__setattr__"))
  kC_Book : PySem.W.keepIn K (.ref C_Book) = true
  mk_Book : PySem.W.makesIn K C_Book = true
  f_Book_rank_of : PySem.W.findIn K (.ref C_Book) "rank_of" = some none
  f_Book_moves : PySem.W.findIn K (.ref C_Book) "moves" = some none
  f_Book_landings : PySem.W.findIn K (.ref C_Book) "landings" = some none
  f_Book_latest_known : PySem.W.findIn K (.ref C_Book) "latest_known" = some none
  cm_Book : PySem.W.mroIn K C_Book (.type "object") = some true
  ca_Book : PySem.W.findIn K (.ref C_Book) "__class__" = some (some (.builtin "object.__class__"))
  iC_Book : PySem.W.isClsIn K C_Book = true
  tC_Book : PySem.W.typeIn K (.ref C_Book) = some (.type "type")
  kt_Book_NoneType : PySem.W.subIn K (.type "NoneType") (.ref C_Book) = some false
  kt_Book_bool : PySem.W.subIn K (.type "bool") (.ref C_Book) = some false
  kt_Book_int : PySem.W.subIn K (.type "int") (.ref C_Book) = some false
  kt_Book_str : PySem.W.subIn K (.type "str") (.ref C_Book) = some false
  kt_Book_list : PySem.W.subIn K (.type "list") (.ref C_Book) = some false
  kt_Book_tuple : PySem.W.subIn K (.type "tuple") (.ref C_Book) = some false
  kt_Book_dict : PySem.W.subIn K (.type "dict") (.ref C_Book) = some false
  ne_Book : PySem.W.findIn K (.ref C_Book) "__ne__" = some (some (.builtin "object.__ne__"))
  st_Book_NoneType : PySem.W.subIn K (.ref C_Book) (.type "NoneType") = some false
  st_Book_bool : PySem.W.subIn K (.ref C_Book) (.type "bool") = some false
  st_Book_int : PySem.W.subIn K (.ref C_Book) (.type "int") = some false
  st_Book_str : PySem.W.subIn K (.ref C_Book) (.type "str") = some false
  st_Book_list : PySem.W.subIn K (.ref C_Book) (.type "list") = some false
  st_Book_tuple : PySem.W.subIn K (.ref C_Book) (.type "tuple") = some false
theorem all_mk {l : PySem.W.OpenLaw} {w : World} {K : PySem.W.Frag} {h : Heap} {mg : Str → Option Value} {fa : Addr} {ts : List Addr} (X : K.In h) (G : h.Ns mainGlobals mg) (hfa : mg "law" = some (.ref fa)) (ht : ∀ P ∈ ts, h.get? P = some (PySem.W.tabObj #[]))
    {C_History C_Book : Addr} (D : LeftC K C_History C_Book)
    {fHistory___init__ : Addr} {ocHistory___init__ : Value} {odHistory___init__ anHistory___init__ : Option Addr} {kVHistory___init__ dcHistory___init__ pmHistory___init__ cdHistory___init__ ctHistory___init__ : Value} {slHistory___init__ : Array (Option Value)} (F_History___init__ : LeftM K C_History "__init__" "History.__init__" s_History___init__ fHistory___init__ ocHistory___init__ odHistory___init__ anHistory___init__ kVHistory___init__ dcHistory___init__ pmHistory___init__ cdHistory___init__ ctHistory___init__ slHistory___init__)
    {fHistory_note : Addr} {ocHistory_note : Value} {odHistory_note anHistory_note : Option Addr} {kVHistory_note dcHistory_note pmHistory_note cdHistory_note ctHistory_note : Value} {slHistory_note : Array (Option Value)} (F_History_note : LeftM K C_History "note" "History.note" s_History_note fHistory_note ocHistory_note odHistory_note anHistory_note kVHistory_note dcHistory_note pmHistory_note cdHistory_note ctHistory_note slHistory_note)
    {fHistory_all_told : Addr} {ocHistory_all_told : Value} {odHistory_all_told anHistory_all_told : Option Addr} {kVHistory_all_told dcHistory_all_told pmHistory_all_told cdHistory_all_told ctHistory_all_told : Value} {slHistory_all_told : Array (Option Value)} (F_History_all_told : LeftM K C_History "all_told" "History.all_told" s_History_all_told fHistory_all_told ocHistory_all_told odHistory_all_told anHistory_all_told kVHistory_all_told dcHistory_all_told pmHistory_all_told cdHistory_all_told ctHistory_all_told slHistory_all_told)
    {fHistory_told_last : Addr} {ocHistory_told_last : Value} {odHistory_told_last anHistory_told_last : Option Addr} {kVHistory_told_last dcHistory_told_last pmHistory_told_last cdHistory_told_last ctHistory_told_last : Value} {slHistory_told_last : Array (Option Value)} (F_History_told_last : LeftM K C_History "told_last" "History.told_last" s_History_told_last fHistory_told_last ocHistory_told_last odHistory_told_last anHistory_told_last kVHistory_told_last dcHistory_told_last pmHistory_told_last cdHistory_told_last ctHistory_told_last slHistory_told_last)
    {fHistory_holding : Addr} {ocHistory_holding : Value} {odHistory_holding anHistory_holding : Option Addr} {kVHistory_holding dcHistory_holding pmHistory_holding cdHistory_holding ctHistory_holding : Value} {slHistory_holding : Array (Option Value)} (F_History_holding : LeftM K C_History "holding" "History.holding" s_History_holding fHistory_holding ocHistory_holding odHistory_holding anHistory_holding kVHistory_holding dcHistory_holding pmHistory_holding cdHistory_holding ctHistory_holding slHistory_holding)
    {fBook___init__ : Addr} {ocBook___init__ : Value} {odBook___init__ anBook___init__ : Option Addr} {kVBook___init__ dcBook___init__ pmBook___init__ cdBook___init__ ctBook___init__ : Value} {slBook___init__ : Array (Option Value)} (F_Book___init__ : LeftM K C_Book "__init__" "Book.__init__" s_Book___init__ fBook___init__ ocBook___init__ odBook___init__ anBook___init__ kVBook___init__ dcBook___init__ pmBook___init__ cdBook___init__ ctBook___init__ slBook___init__)
    {fBook_ranks : Addr} {ocBook_ranks : Value} {odBook_ranks anBook_ranks : Option Addr} {kVBook_ranks dcBook_ranks pmBook_ranks cdBook_ranks ctBook_ranks : Value} {slBook_ranks : Array (Option Value)} (F_Book_ranks : LeftM K C_Book "ranks" "Book.ranks" s_Book_ranks fBook_ranks ocBook_ranks odBook_ranks anBook_ranks kVBook_ranks dcBook_ranks pmBook_ranks cdBook_ranks ctBook_ranks slBook_ranks)
    {fBook_tell : Addr} {ocBook_tell : Value} {odBook_tell anBook_tell : Option Addr} {kVBook_tell dcBook_tell pmBook_tell cdBook_tell ctBook_tell : Value} {slBook_tell : Array (Option Value)} (F_Book_tell : LeftM K C_Book "tell" "Book.tell" s_Book_tell fBook_tell ocBook_tell odBook_tell anBook_tell kVBook_tell dcBook_tell pmBook_tell cdBook_tell ctBook_tell slBook_tell)
    {fBook_land : Addr} {ocBook_land : Value} {odBook_land anBook_land : Option Addr} {kVBook_land dcBook_land pmBook_land cdBook_land ctBook_land : Value} {slBook_land : Array (Option Value)} (F_Book_land : LeftM K C_Book "land" "Book.land" s_Book_land fBook_land ocBook_land odBook_land anBook_land kVBook_land dcBook_land pmBook_land cdBook_land ctBook_land slBook_land)
    {fBook_last_known : Addr} {ocBook_last_known : Value} {odBook_last_known anBook_last_known : Option Addr} {kVBook_last_known dcBook_last_known pmBook_last_known cdBook_last_known ctBook_last_known : Value} {slBook_last_known : Array (Option Value)} (F_Book_last_known : LeftM K C_Book "last_known" "Book.last_known" s_Book_last_known fBook_last_known ocBook_last_known odBook_last_known anBook_last_known kVBook_last_known dcBook_last_known pmBook_last_known cdBook_last_known ctBook_last_known slBook_last_known)
    {fBook_moves_known : Addr} {ocBook_moves_known : Value} {odBook_moves_known anBook_moves_known : Option Addr} {kVBook_moves_known dcBook_moves_known pmBook_moves_known cdBook_moves_known ctBook_moves_known : Value} {slBook_moves_known : Array (Option Value)} (F_Book_moves_known : LeftM K C_Book "moves_known" "Book.moves_known" s_Book_moves_known fBook_moves_known ocBook_moves_known odBook_moves_known anBook_moves_known kVBook_moves_known dcBook_moves_known pmBook_moves_known cdBook_moves_known ctBook_moves_known slBook_moves_known)
    {fBook_landings_known : Addr} {ocBook_landings_known : Value} {odBook_landings_known anBook_landings_known : Option Addr} {kVBook_landings_known dcBook_landings_known pmBook_landings_known cdBook_landings_known ctBook_landings_known : Value} {slBook_landings_known : Array (Option Value)} (F_Book_landings_known : LeftM K C_Book "landings_known" "Book.landings_known" s_Book_landings_known fBook_landings_known ocBook_landings_known odBook_landings_known anBook_landings_known kVBook_landings_known dcBook_landings_known pmBook_landings_known cdBook_landings_known ctBook_landings_known slBook_landings_known)
    {fBook_twin : Addr} {ocBook_twin : Value} {odBook_twin anBook_twin : Option Addr} {kVBook_twin dcBook_twin pmBook_twin cdBook_twin ctBook_twin : Value} {slBook_twin : Array (Option Value)} (F_Book_twin : LeftM K C_Book "twin" "Book.twin" s_Book_twin fBook_twin ocBook_twin odBook_twin anBook_twin kVBook_twin dcBook_twin pmBook_twin cdBook_twin ctBook_twin slBook_twin)
    {fBook___eq__ : Addr} {ocBook___eq__ : Value} {odBook___eq__ anBook___eq__ : Option Addr} {kVBook___eq__ dcBook___eq__ pmBook___eq__ cdBook___eq__ ctBook___eq__ : Value} {slBook___eq__ : Array (Option Value)} (F_Book___eq__ : LeftM K C_Book "__eq__" "Book.__eq__" s_Book___eq__ fBook___eq__ ocBook___eq__ odBook___eq__ anBook___eq__ kVBook___eq__ dcBook___eq__ pmBook___eq__ cdBook___eq__ ctBook___eq__ slBook___eq__)
    {fBook___len__ : Addr} {ocBook___len__ : Value} {odBook___len__ anBook___len__ : Option Addr} {kVBook___len__ dcBook___len__ pmBook___len__ cdBook___len__ ctBook___len__ : Value} {slBook___len__ : Array (Option Value)} (F_Book___len__ : LeftM K C_Book "__len__" "Book.__len__" s_Book___len__ fBook___len__ ocBook___len__ odBook___len__ anBook___len__ kVBook___len__ dcBook___len__ pmBook___len__ cdBook___len__ ctBook___len__ slBook___len__)
    {fBook_where TBook_where : Addr} {ocBook_where : Value} {odBook_where anBook_where : Option Addr} {kVBook_where dcBook_where pmBook_where cdBook_where ctBook_where : Value} {slBook_where : Array (Option Value)} {oTBook_where : Value} {dTBook_where : Option Addr} {nTBook_where : Nat} {sTBook_where : Array (Option Value)} (F_Book_where : LeftMD K C_Book "where" "Book.where" s_Book_where #[.none] fBook_where TBook_where ocBook_where odBook_where anBook_where kVBook_where dcBook_where pmBook_where cdBook_where ctBook_where slBook_where oTBook_where dTBook_where nTBook_where sTBook_where)
    {fBook_landed TBook_landed : Addr} {ocBook_landed : Value} {odBook_landed anBook_landed : Option Addr} {kVBook_landed dcBook_landed pmBook_landed cdBook_landed ctBook_landed : Value} {slBook_landed : Array (Option Value)} {oTBook_landed : Value} {dTBook_landed : Option Addr} {nTBook_landed : Nat} {sTBook_landed : Array (Option Value)} (F_Book_landed : LeftMD K C_Book "landed" "Book.landed" s_Book_landed #[.none] fBook_landed TBook_landed ocBook_landed odBook_landed anBook_landed kVBook_landed dcBook_landed pmBook_landed cdBook_landed ctBook_landed slBook_landed oTBook_landed dTBook_landed nTBook_landed sTBook_landed)
    {fBook_entries cBook_entries PBook_entries : Addr} {ocBook_entries : Value} {odBook_entries anBook_entries : Option Addr} {kVBook_entries dcBook_entries pmBook_entries ctBook_entries : Value} {slBook_entries : Array (Option Value)} {oCBook_entries : Value} {dCBook_entries : Option Addr} {vCBook_entries : Array Value} {sCBook_entries : Array (Option Value)} (F_Book_entries : LeftLm K C_Book "entries" "Book.entries" s_Book_entries fBook_entries cBook_entries PBook_entries ocBook_entries odBook_entries anBook_entries kVBook_entries dcBook_entries pmBook_entries ctBook_entries slBook_entries oCBook_entries dCBook_entries vCBook_entries sCBook_entries) (tm_Book_entries : PBook_entries ∈ ts)
    {fbook_of cbook_of Pbook_of : Addr} {ocbook_of : Value} {odbook_of anbook_of : Option Addr} {kVbook_of dcbook_of pmbook_of ctbook_of : Value} {slbook_of : Array (Option Value)} {oCbook_of : Value} {dCbook_of : Option Addr} {vCbook_of : Array Value} {sCbook_of : Array (Option Value)} (F_book_of : LeftLd K "book_of" s_book_of fbook_of cbook_of Pbook_of ocbook_of odbook_of anbook_of kVbook_of dcbook_of pmbook_of ctbook_of slbook_of oCbook_of dCbook_of vCbook_of sCbook_of) (tm_book_of : Pbook_of ∈ ts)
    {f_law_by_another_road c_law_by_another_road P_law_by_another_road : Addr} {oc_law_by_another_road : Value} {od_law_by_another_road an_law_by_another_road : Option Addr} {kV_law_by_another_road dc_law_by_another_road pm_law_by_another_road ct_law_by_another_road : Value} {sl_law_by_another_road : Array (Option Value)} {oC_law_by_another_road : Value} {dC_law_by_another_road : Option Addr} {vC_law_by_another_road : Array Value} {sC_law_by_another_road : Array (Option Value)} (F__law_by_another_road : LeftLd K "_law_by_another_road" s__law_by_another_road f_law_by_another_road c_law_by_another_road P_law_by_another_road oc_law_by_another_road od_law_by_another_road an_law_by_another_road kV_law_by_another_road dc_law_by_another_road pm_law_by_another_road ct_law_by_another_road sl_law_by_another_road oC_law_by_another_road dC_law_by_another_road vC_law_by_another_road sC_law_by_another_road) (tm__law_by_another_road : P_law_by_another_road ∈ ts)
    {fis_name : Addr} {ocis_name : Value} {odis_name anis_name : Option Addr} {kVis_name dcis_name pmis_name cdis_name ctis_name : Value} {slis_name : Array (Option Value)} (F_is_name : Left K "is_name" s_is_name fis_name ocis_name odis_name anis_name kVis_name dcis_name pmis_name cdis_name ctis_name slis_name)
    {fis_place : Addr} {ocis_place : Value} {odis_place anis_place : Option Addr} {kVis_place dcis_place pmis_place cdis_place ctis_place : Value} {slis_place : Array (Option Value)} (F_is_place : Left K "is_place" s_is_place fis_place ocis_place odis_place anis_place kVis_place dcis_place pmis_place cdis_place ctis_place slis_place)
    {fis_whole : Addr} {ocis_whole : Value} {odis_whole anis_whole : Option Addr} {kVis_whole dcis_whole pmis_whole cdis_whole ctis_whole : Value} {slis_whole : Array (Option Value)} (F_is_whole : Left K "is_whole" s_is_whole fis_whole ocis_whole odis_whole anis_whole kVis_whole dcis_whole pmis_whole cdis_whole ctis_whole slis_whole)
    {fis_from : Addr} {ocis_from : Value} {odis_from anis_from : Option Addr} {kVis_from dcis_from pmis_from cdis_from ctis_from : Value} {slis_from : Array (Option Value)} (F_is_from : Left K "is_from" s_is_from fis_from ocis_from odis_from anis_from kVis_from dcis_from pmis_from cdis_from ctis_from slis_from)
    {fis_within : Addr} {ocis_within : Value} {odis_within anis_within : Option Addr} {kVis_within dcis_within pmis_within cdis_within ctis_within : Value} {slis_within : Array (Option Value)} (F_is_within : Left K "is_within" s_is_within fis_within ocis_within odis_within anis_within kVis_within dcis_within pmis_within cdis_within ctis_within slis_within)
    {fis_day : Addr} {ocis_day : Value} {odis_day anis_day : Option Addr} {kVis_day dcis_day pmis_day cdis_day ctis_day : Value} {slis_day : Array (Option Value)} (F_is_day : Left K "is_day" s_is_day fis_day ocis_day odis_day anis_day kVis_day dcis_day pmis_day cdis_day ctis_day slis_day)
    {fcheck_day : Addr} {occheck_day : Value} {odcheck_day ancheck_day : Option Addr} {kVcheck_day dccheck_day pmcheck_day cdcheck_day ctcheck_day : Value} {slcheck_day : Array (Option Value)} (F_check_day : Left K "check_day" s_check_day fcheck_day occheck_day odcheck_day ancheck_day kVcheck_day dccheck_day pmcheck_day cdcheck_day ctcheck_day slcheck_day)
    {fcheck_known : Addr} {occheck_known : Value} {odcheck_known ancheck_known : Option Addr} {kVcheck_known dccheck_known pmcheck_known cdcheck_known ctcheck_known : Value} {slcheck_known : Array (Option Value)} (F_check_known : Left K "check_known" s_check_known fcheck_known occheck_known odcheck_known ancheck_known kVcheck_known dccheck_known pmcheck_known cdcheck_known ctcheck_known slcheck_known)
    {fcheck_days : Addr} {occheck_days : Value} {odcheck_days ancheck_days : Option Addr} {kVcheck_days dccheck_days pmcheck_days cdcheck_days ctcheck_days : Value} {slcheck_days : Array (Option Value)} (F_check_days : Left K "check_days" s_check_days fcheck_days occheck_days odcheck_days ancheck_days kVcheck_days dccheck_days pmcheck_days cdcheck_days ctcheck_days slcheck_days)
    {fcheck_light : Addr} {occheck_light : Value} {odcheck_light ancheck_light : Option Addr} {kVcheck_light dccheck_light pmcheck_light cdcheck_light ctcheck_light : Value} {slcheck_light : Array (Option Value)} (F_check_light : Left K "check_light" s_check_light fcheck_light occheck_light odcheck_light ancheck_light kVcheck_light dccheck_light pmcheck_light cdcheck_light ctcheck_light slcheck_light)
    {fcheck_place : Addr} {occheck_place : Value} {odcheck_place ancheck_place : Option Addr} {kVcheck_place dccheck_place pmcheck_place cdcheck_place ctcheck_place : Value} {slcheck_place : Array (Option Value)} (F_check_place : Left K "check_place" s_check_place fcheck_place occheck_place odcheck_place ancheck_place kVcheck_place dccheck_place pmcheck_place cdcheck_place ctcheck_place slcheck_place)
    {fcheck_number : Addr} {occheck_number : Value} {odcheck_number ancheck_number : Option Addr} {kVcheck_number dccheck_number pmcheck_number cdcheck_number ctcheck_number : Value} {slcheck_number : Array (Option Value)} (F_check_number : Left K "check_number" s_check_number fcheck_number occheck_number odcheck_number ancheck_number kVcheck_number dccheck_number pmcheck_number cdcheck_number ctcheck_number slcheck_number)
    {fcheck_keeper : Addr} {occheck_keeper : Value} {odcheck_keeper ancheck_keeper : Option Addr} {kVcheck_keeper dccheck_keeper pmcheck_keeper cdcheck_keeper ctcheck_keeper : Value} {slcheck_keeper : Array (Option Value)} (F_check_keeper : Left K "check_keeper" s_check_keeper fcheck_keeper occheck_keeper odcheck_keeper ancheck_keeper kVcheck_keeper dccheck_keeper pmcheck_keeper cdcheck_keeper ctcheck_keeper slcheck_keeper)
    {fcheck_not_early : Addr} {occheck_not_early : Value} {odcheck_not_early ancheck_not_early : Option Addr} {kVcheck_not_early dccheck_not_early pmcheck_not_early cdcheck_not_early ctcheck_not_early : Value} {slcheck_not_early : Array (Option Value)} (F_check_not_early : Left K "check_not_early" s_check_not_early fcheck_not_early occheck_not_early odcheck_not_early ancheck_not_early kVcheck_not_early dccheck_not_early pmcheck_not_early cdcheck_not_early ctcheck_not_early slcheck_not_early)
    {fare_ranks : Addr} {ocare_ranks : Value} {odare_ranks anare_ranks : Option Addr} {kVare_ranks dcare_ranks pmare_ranks cdare_ranks ctare_ranks : Value} {slare_ranks : Array (Option Value)} (F_are_ranks : Left K "are_ranks" s_are_ranks fare_ranks ocare_ranks odare_ranks anare_ranks kVare_ranks dcare_ranks pmare_ranks cdare_ranks ctare_ranks slare_ranks)
    {f_law_pot : Addr} {oc_law_pot : Value} {od_law_pot an_law_pot : Option Addr} {kV_law_pot dc_law_pot pm_law_pot cd_law_pot ct_law_pot : Value} {sl_law_pot : Array (Option Value)} (F__law_pot : Left K "_law_pot" s__law_pot f_law_pot oc_law_pot od_law_pot an_law_pot kV_law_pot dc_law_pot pm_law_pot cd_law_pot ct_law_pot sl_law_pot)
    {f_law_take : Addr} {oc_law_take : Value} {od_law_take an_law_take : Option Addr} {kV_law_take dc_law_take pm_law_take cd_law_take ct_law_take : Value} {sl_law_take : Array (Option Value)} (F__law_take : Left K "_law_take" s__law_take f_law_take oc_law_take od_law_take an_law_take kV_law_take dc_law_take pm_law_take cd_law_take ct_law_take sl_law_take)
    {f_law_far : Addr} {oc_law_far : Value} {od_law_far an_law_far : Option Addr} {kV_law_far dc_law_far pm_law_far cd_law_far ct_law_far : Value} {sl_law_far : Array (Option Value)} (F__law_far : Left K "_law_far" s__law_far f_law_far oc_law_far od_law_far an_law_far kV_law_far dc_law_far pm_law_far cd_law_far ct_law_far sl_law_far)
    {f_law_names : Addr} {oc_law_names : Value} {od_law_names an_law_names : Option Addr} {kV_law_names dc_law_names pm_law_names cd_law_names ct_law_names : Value} {sl_law_names : Array (Option Value)} (F__law_names : Left K "_law_names" s__law_names f_law_names oc_law_names od_law_names an_law_names kV_law_names dc_law_names pm_law_names cd_law_names ct_law_names sl_law_names)
    {f_law_plan : Addr} {oc_law_plan : Value} {od_law_plan an_law_plan : Option Addr} {kV_law_plan dc_law_plan pm_law_plan cd_law_plan ct_law_plan : Value} {sl_law_plan : Array (Option Value)} (F__law_plan : Left K "_law_plan" s__law_plan f_law_plan oc_law_plan od_law_plan an_law_plan kV_law_plan dc_law_plan pm_law_plan cd_law_plan ct_law_plan sl_law_plan)
    {f_law_worth : Addr} {oc_law_worth : Value} {od_law_worth an_law_worth : Option Addr} {kV_law_worth dc_law_worth pm_law_worth cd_law_worth ct_law_worth : Value} {sl_law_worth : Array (Option Value)} (F__law_worth : Left K "_law_worth" s__law_worth f_law_worth oc_law_worth od_law_worth an_law_worth kV_law_worth dc_law_worth pm_law_worth cd_law_worth ct_law_worth sl_law_worth)
    {f_law_event : Addr} {oc_law_event : Value} {od_law_event an_law_event : Option Addr} {kV_law_event dc_law_event pm_law_event cd_law_event ct_law_event : Value} {sl_law_event : Array (Option Value)} (F__law_event : Left K "_law_event" s__law_event f_law_event oc_law_event od_law_event an_law_event kV_law_event dc_law_event pm_law_event cd_law_event ct_law_event sl_law_event)
    {f_law_tell : Addr} {oc_law_tell : Value} {od_law_tell an_law_tell : Option Addr} {kV_law_tell dc_law_tell pm_law_tell cd_law_tell ct_law_tell : Value} {sl_law_tell : Array (Option Value)} (F__law_tell : Left K "_law_tell" s__law_tell f_law_tell oc_law_tell od_law_tell an_law_tell kV_law_tell dc_law_tell pm_law_tell cd_law_tell ct_law_tell sl_law_tell)
    {f_law_entries : Addr} {oc_law_entries : Value} {od_law_entries an_law_entries : Option Addr} {kV_law_entries dc_law_entries pm_law_entries cd_law_entries ct_law_entries : Value} {sl_law_entries : Array (Option Value)} (F__law_entries : Left K "_law_entries" s__law_entries f_law_entries oc_law_entries od_law_entries an_law_entries kV_law_entries dc_law_entries pm_law_entries cd_law_entries ct_law_entries sl_law_entries)
    {f_law_where : Addr} {oc_law_where : Value} {od_law_where an_law_where : Option Addr} {kV_law_where dc_law_where pm_law_where cd_law_where ct_law_where : Value} {sl_law_where : Array (Option Value)} (F__law_where : Left K "_law_where" s__law_where f_law_where oc_law_where od_law_where an_law_where kV_law_where dc_law_where pm_law_where cd_law_where ct_law_where sl_law_where)
    {f_law_stands : Addr} {oc_law_stands : Value} {od_law_stands an_law_stands : Option Addr} {kV_law_stands dc_law_stands pm_law_stands cd_law_stands ct_law_stands : Value} {sl_law_stands : Array (Option Value)} (F__law_stands : Left K "_law_stands" s__law_stands f_law_stands oc_law_stands od_law_stands an_law_stands kV_law_stands dc_law_stands pm_law_stands cd_law_stands ct_law_stands sl_law_stands)
    {f_law_same : Addr} {oc_law_same : Value} {od_law_same an_law_same : Option Addr} {kV_law_same dc_law_same pm_law_same cd_law_same ct_law_same : Value} {sl_law_same : Array (Option Value)} (F__law_same : Left K "_law_same" s__law_same f_law_same oc_law_same od_law_same an_law_same kV_law_same dc_law_same pm_law_same cd_law_same ct_law_same sl_law_same)
    {f_law_unlike : Addr} {oc_law_unlike : Value} {od_law_unlike an_law_unlike : Option Addr} {kV_law_unlike dc_law_unlike pm_law_unlike cd_law_unlike ct_law_unlike : Value} {sl_law_unlike : Array (Option Value)} (F__law_unlike : Left K "_law_unlike" s__law_unlike f_law_unlike oc_law_unlike od_law_unlike an_law_unlike kV_law_unlike dc_law_unlike pm_law_unlike cd_law_unlike ct_law_unlike sl_law_unlike)
    {flaw : Addr} {oclaw : Value} {odlaw anlaw : Option Addr} {kVlaw dclaw pmlaw cdlaw ctlaw : Value} {sllaw : Array (Option Value)} (F_law : Left K "law" s_law flaw oclaw odlaw anlaw kVlaw dclaw pmlaw cdlaw ctlaw sllaw)
    {t_SMALL_LETTERS : Tok} (y_SMALL_LETTERS : PySem.W.nsIn K mainGlobals "SMALL_LETTERS" = some (some (.str (Str.ofString "abcdefghijklmnopqrstuvwxyz") t_SMALL_LETTERS)))
    {t_LONGEST_NAME : Tok} (y_LONGEST_NAME : PySem.W.nsIn K mainGlobals "LONGEST_NAME" = some (some (.int (8) t_LONGEST_NAME)))
    {t_ASHORE : Tok} (y_ASHORE : PySem.W.nsIn K mainGlobals "ASHORE" = some (some (.str (Str.ofString "") t_ASHORE)))
    {t_MOST_KEEPERS : Tok} (y_MOST_KEEPERS : PySem.W.nsIn K mainGlobals "MOST_KEEPERS" = some (some (.int (30) t_MOST_KEEPERS)))
    {t_HIGHEST_RANK : Tok} (y_HIGHEST_RANK : PySem.W.nsIn K mainGlobals "HIGHEST_RANK" = some (some (.int (1) t_HIGHEST_RANK)))
    {t_LOWEST_RANK : Tok} (y_LOWEST_RANK : PySem.W.nsIn K mainGlobals "LOWEST_RANK" = some (some (.int (9) t_LOWEST_RANK)))
    (z_isinstance : PySem.W.nsIn K mainGlobals "isinstance" = some none)
    (z_int : PySem.W.nsIn K mainGlobals "int" = some none)
    (z_bool : PySem.W.nsIn K mainGlobals "bool" = some none)
    (z_len : PySem.W.nsIn K mainGlobals "len" = some none)
    (z_abs : PySem.W.nsIn K mainGlobals "abs" = some none)
    (z_max : PySem.W.nsIn K mainGlobals "max" = some none)
    (z_min : PySem.W.nsIn K mainGlobals "min" = some none)
    (z_divmod : PySem.W.nsIn K mainGlobals "divmod" = some none)
    (z_range : PySem.W.nsIn K mainGlobals "range" = some none)
    (z_repr : PySem.W.nsIn K mainGlobals "repr" = some none)
    (z_zip : PySem.W.nsIn K mainGlobals "zip" = some none)
    (z_ValueError : PySem.W.nsIn K mainGlobals "ValueError" = some none)
    (z_all : PySem.W.nsIn K mainGlobals "all" = some none)
    (z_any : PySem.W.nsIn K mainGlobals "any" = some none)
    (z_sum : PySem.W.nsIn K mainGlobals "sum" = some none)
    (z_sorted : PySem.W.nsIn K mainGlobals "sorted" = some none)
    (z_list : PySem.W.nsIn K mainGlobals "list" = some none)
    (z_tuple : PySem.W.nsIn K mainGlobals "tuple" = some none)
    (z_dict : PySem.W.nsIn K mainGlobals "dict" = some none)
    (z_enumerate : PySem.W.nsIn K mainGlobals "enumerate" = some none)
    (z_reversed : PySem.W.nsIn K mainGlobals "reversed" = some none)
    (z_str : PySem.W.nsIn K mainGlobals "str" = some none)
    (z_set : PySem.W.nsIn K mainGlobals "set" = some none)
    (ne_Book_entries_book_of : PBook_entries ≠ Pbook_of)
    (ne_Book_entries__law_by_another_road : PBook_entries ≠ P_law_by_another_road)
    (ne_book_of__law_by_another_road : Pbook_of ≠ P_law_by_another_road)
    : LawG l w K CX0 15 63 "_law_script" mg fa h := by
  have e := hfa.symm.trans (PySem.W.mg_of X G F_law.ns)
  cases e
  have N : ∀ {x : Str}, PySem.W.nsIn K mainGlobals x = some none → mg x = none := fun z => PySem.W.mg_none_of X G z
  have D_Book_where : FunD K "where" "Book.where" (defArgs s_Book_where) (defBody s_Book_where) (defScope s_Book_where) [.non] [] _ _ := ⟨⟨ocBook_where, odBook_where, .ref TBook_where, kVBook_where, dcBook_where, pmBook_where, anBook_where, cdBook_where, ctBook_where, slBook_where, rfl, F_Book_where.lk, F_Book_where.cd, .inr ⟨nofun, TBook_where, _, [.none], nTBook_where, rfl, F_Book_where.lT, rfl, (.cons rfl .nil)⟩, .inl rfl⟩, F_Book_where.kp⟩
  have D_Book_landed : FunD K "landed" "Book.landed" (defArgs s_Book_landed) (defBody s_Book_landed) (defScope s_Book_landed) [.non] [] _ _ := ⟨⟨ocBook_landed, odBook_landed, .ref TBook_landed, kVBook_landed, dcBook_landed, pmBook_landed, anBook_landed, cdBook_landed, ctBook_landed, slBook_landed, rfl, F_Book_landed.lk, F_Book_landed.cd, .inr ⟨nofun, TBook_landed, _, [.none], nTBook_landed, rfl, F_Book_landed.lT, rfl, (.cons rfl .nil)⟩, .inl rfl⟩, F_Book_landed.kp⟩
  let A : All K l.prog mg := {
    T := ⟨N z_isinstance, N z_int, N z_bool, N z_len, N z_abs, N z_max, N z_min, N z_divmod, N z_range, N z_repr, N z_zip, N z_ValueError, N z_all, N z_any, N z_sum, N z_sorted, N z_list, N z_tuple, N z_dict, N z_enumerate, N z_reversed, N z_str, N z_set⟩
    t_SMALL_LETTERS := t_SMALL_LETTERS
    g_SMALL_LETTERS := PySem.W.mg_of X G y_SMALL_LETTERS
    t_LONGEST_NAME := t_LONGEST_NAME
    g_LONGEST_NAME := PySem.W.mg_of X G y_LONGEST_NAME
    t_ASHORE := t_ASHORE
    g_ASHORE := PySem.W.mg_of X G y_ASHORE
    t_MOST_KEEPERS := t_MOST_KEEPERS
    g_MOST_KEEPERS := PySem.W.mg_of X G y_MOST_KEEPERS
    t_HIGHEST_RANK := t_HIGHEST_RANK
    g_HIGHEST_RANK := PySem.W.mg_of X G y_HIGHEST_RANK
    t_LOWEST_RANK := t_LOWEST_RANK
    g_LOWEST_RANK := PySem.W.mg_of X G y_LOWEST_RANK
    C_History := C_History
    Z_History := ⟨⟨D.pg_History, D.hd_History, D.po_History, D.sa_History⟩, PySem.W.mg_of X G D.n_History, D.kC_History⟩
    n_History_by_day := D.f_History_by_day
    C_Book := C_Book
    Z_Book := ⟨⟨D.pg_Book, D.hd_Book, D.po_Book, D.sa_Book⟩, PySem.W.mg_of X G D.n_Book, D.kC_Book⟩
    n_Book_rank_of := D.f_Book_rank_of
    n_Book_moves := D.f_Book_moves
    n_Book_landings := D.f_Book_landings
    n_Book_latest_known := D.f_Book_latest_known
    I_Book := ⟨D.ca_Book, D.cn, D.ct, D.cm_Book, kit_self, fun t ht => by
      simp only [List.mem_cons, List.not_mem_nil, or_false] at ht
      rcases ht with rfl | rfl | rfl | rfl | rfl | rfl | rfl
      · exact kit_no D.iC_Book D.tC_Book D.kt_Book_NoneType rfl
      · exact kit_no D.iC_Book D.tC_Book D.kt_Book_bool rfl
      · exact kit_no D.iC_Book D.tC_Book D.kt_Book_int rfl
      · exact kit_no D.iC_Book D.tC_Book D.kt_Book_str rfl
      · exact kit_no D.iC_Book D.tC_Book D.kt_Book_list rfl
      · exact kit_no D.iC_Book D.tC_Book D.kt_Book_tuple rfl
      · exact kit_no D.iC_Book D.tC_Book D.kt_Book_dict rfl⟩
    f_History___init__ := fHistory___init__
    d_History___init__ := _
    h_History___init__ := ⟨F_History___init__.fn, F_History___init__.fn.binds fun _ _ _ _ _ _ us hl => match us, hl with | [_], _ => rfl, F_History___init__.me⟩
    M_History := ⟨D.mk_History, F_History___init__.at_, F_History___init__.isf, D.kC_History⟩
    f_History_note := fHistory_note
    d_History_note := _
    h_History_note := ⟨F_History_note.fn, F_History_note.fn.binds fun _ _ _ _ _ _ us hl => match us, hl with | [_, _, _, _], _ => rfl, F_History_note.me⟩
    f_History_all_told := fHistory_all_told
    d_History_all_told := _
    h_History_all_told := ⟨F_History_all_told.fn, F_History_all_told.fn.binds fun _ _ _ _ _ _ us hl => match us, hl with | [_], _ => rfl, F_History_all_told.me⟩
    f_History_told_last := fHistory_told_last
    d_History_told_last := _
    h_History_told_last := ⟨F_History_told_last.fn, F_History_told_last.fn.binds fun _ _ _ _ _ _ us hl => match us, hl with | [_, _, _], _ => rfl, F_History_told_last.me⟩
    f_History_holding := fHistory_holding
    d_History_holding := _
    h_History_holding := ⟨F_History_holding.fn, F_History_holding.fn.binds fun _ _ _ _ _ _ us hl => match us, hl with | [_, _], _ => rfl, F_History_holding.me⟩
    f_Book___init__ := fBook___init__
    d_Book___init__ := _
    h_Book___init__ := ⟨F_Book___init__.fn, F_Book___init__.fn.binds fun _ _ _ _ _ _ us hl => match us, hl with | [_, _], _ => rfl, F_Book___init__.me⟩
    M_Book := ⟨D.mk_Book, F_Book___init__.at_, F_Book___init__.isf, D.kC_Book⟩
    f_Book_ranks := fBook_ranks
    d_Book_ranks := _
    h_Book_ranks := ⟨F_Book_ranks.fn, F_Book_ranks.fn.binds fun _ _ _ _ _ _ us hl => match us, hl with | [_], _ => rfl, F_Book_ranks.me⟩
    f_Book_tell := fBook_tell
    d_Book_tell := _
    h_Book_tell := ⟨F_Book_tell.fn, F_Book_tell.fn.binds fun _ _ _ _ _ _ us hl => match us, hl with | [_, _, _, _, _], _ => rfl, F_Book_tell.me⟩
    f_Book_land := fBook_land
    d_Book_land := _
    h_Book_land := ⟨F_Book_land.fn, F_Book_land.fn.binds fun _ _ _ _ _ _ us hl => match us, hl with | [_, _, _, _, _], _ => rfl, F_Book_land.me⟩
    f_Book_last_known := fBook_last_known
    d_Book_last_known := _
    h_Book_last_known := ⟨F_Book_last_known.fn, F_Book_last_known.fn.binds fun _ _ _ _ _ _ us hl => match us, hl with | [_], _ => rfl, F_Book_last_known.me⟩
    f_Book_moves_known := fBook_moves_known
    d_Book_moves_known := _
    h_Book_moves_known := ⟨F_Book_moves_known.fn, F_Book_moves_known.fn.binds fun _ _ _ _ _ _ us hl => match us, hl with | [_, _, _], _ => rfl, F_Book_moves_known.me⟩
    f_Book_landings_known := fBook_landings_known
    d_Book_landings_known := _
    h_Book_landings_known := ⟨F_Book_landings_known.fn, F_Book_landings_known.fn.binds fun _ _ _ _ _ _ us hl => match us, hl with | [_, _, _], _ => rfl, F_Book_landings_known.me⟩
    f_Book_twin := fBook_twin
    d_Book_twin := _
    h_Book_twin := ⟨F_Book_twin.fn, F_Book_twin.fn.binds fun _ _ _ _ _ _ us hl => match us, hl with | [_], _ => rfl, F_Book_twin.me⟩
    f_Book___eq__ := fBook___eq__
    d_Book___eq__ := _
    h_Book___eq__ := ⟨F_Book___eq__.fn, F_Book___eq__.fn.binds fun _ _ _ _ _ _ us hl => match us, hl with | [_, _], _ => rfl, F_Book___eq__.me⟩
    Q_Book := ⟨F_Book___eq__.at_, F_Book___eq__.isf, D.ne_Book, D.cm_Book, D.st_Book_NoneType, D.st_Book_bool, D.st_Book_int, D.st_Book_str, D.st_Book_list, D.st_Book_tuple⟩
    f_Book___len__ := fBook___len__
    d_Book___len__ := _
    h_Book___len__ := ⟨F_Book___len__.fn, F_Book___len__.fn.binds fun _ _ _ _ _ _ us hl => match us, hl with | [_], _ => rfl, F_Book___len__.me⟩
    f_Book_where := fBook_where
    d_Book_where := _
    q_Book_where := D_Book_where
    me_Book_where := ⟨F_Book_where.at_, F_Book_where.isf, F_Book_where.kp⟩
    f_Book_landed := fBook_landed
    d_Book_landed := _
    q_Book_landed := D_Book_landed
    me_Book_landed := ⟨F_Book_landed.at_, F_Book_landed.isf, F_Book_landed.kp⟩
    f_is_name := fis_name
    d_is_name := _
    h_is_name := ⟨F_is_name.fn, F_is_name.fn.binds fun _ _ _ _ _ _ us hl => match us, hl with | [_], _ => rfl, PySem.W.mg_of X G F_is_name.ns⟩
    f_is_place := fis_place
    d_is_place := _
    h_is_place := ⟨F_is_place.fn, F_is_place.fn.binds fun _ _ _ _ _ _ us hl => match us, hl with | [_], _ => rfl, PySem.W.mg_of X G F_is_place.ns⟩
    f_is_whole := fis_whole
    d_is_whole := _
    h_is_whole := ⟨F_is_whole.fn, F_is_whole.fn.binds fun _ _ _ _ _ _ us hl => match us, hl with | [_], _ => rfl, PySem.W.mg_of X G F_is_whole.ns⟩
    f_is_from := fis_from
    d_is_from := _
    h_is_from := ⟨F_is_from.fn, F_is_from.fn.binds fun _ _ _ _ _ _ us hl => match us, hl with | [_, _], _ => rfl, PySem.W.mg_of X G F_is_from.ns⟩
    f_is_within := fis_within
    d_is_within := _
    h_is_within := ⟨F_is_within.fn, F_is_within.fn.binds fun _ _ _ _ _ _ us hl => match us, hl with | [_, _, _], _ => rfl, PySem.W.mg_of X G F_is_within.ns⟩
    f_is_day := fis_day
    d_is_day := _
    h_is_day := ⟨F_is_day.fn, F_is_day.fn.binds fun _ _ _ _ _ _ us hl => match us, hl with | [_], _ => rfl, PySem.W.mg_of X G F_is_day.ns⟩
    f_check_day := fcheck_day
    d_check_day := _
    h_check_day := ⟨F_check_day.fn, F_check_day.fn.binds fun _ _ _ _ _ _ us hl => match us, hl with | [_], _ => rfl, PySem.W.mg_of X G F_check_day.ns⟩
    f_check_known := fcheck_known
    d_check_known := _
    h_check_known := ⟨F_check_known.fn, F_check_known.fn.binds fun _ _ _ _ _ _ us hl => match us, hl with | [_], _ => rfl, PySem.W.mg_of X G F_check_known.ns⟩
    f_check_days := fcheck_days
    d_check_days := _
    h_check_days := ⟨F_check_days.fn, F_check_days.fn.binds fun _ _ _ _ _ _ us hl => match us, hl with | [_, _], _ => rfl, PySem.W.mg_of X G F_check_days.ns⟩
    f_check_light := fcheck_light
    d_check_light := _
    h_check_light := ⟨F_check_light.fn, F_check_light.fn.binds fun _ _ _ _ _ _ us hl => match us, hl with | [_], _ => rfl, PySem.W.mg_of X G F_check_light.ns⟩
    f_check_place := fcheck_place
    d_check_place := _
    h_check_place := ⟨F_check_place.fn, F_check_place.fn.binds fun _ _ _ _ _ _ us hl => match us, hl with | [_], _ => rfl, PySem.W.mg_of X G F_check_place.ns⟩
    f_check_number := fcheck_number
    d_check_number := _
    h_check_number := ⟨F_check_number.fn, F_check_number.fn.binds fun _ _ _ _ _ _ us hl => match us, hl with | [_, _], _ => rfl, PySem.W.mg_of X G F_check_number.ns⟩
    f_check_keeper := fcheck_keeper
    d_check_keeper := _
    h_check_keeper := ⟨F_check_keeper.fn, F_check_keeper.fn.binds fun _ _ _ _ _ _ us hl => match us, hl with | [_, _], _ => rfl, PySem.W.mg_of X G F_check_keeper.ns⟩
    f_check_not_early := fcheck_not_early
    d_check_not_early := _
    h_check_not_early := ⟨F_check_not_early.fn, F_check_not_early.fn.binds fun _ _ _ _ _ _ us hl => match us, hl with | [_, _], _ => rfl, PySem.W.mg_of X G F_check_not_early.ns⟩
    f_are_ranks := fare_ranks
    d_are_ranks := _
    h_are_ranks := ⟨F_are_ranks.fn, F_are_ranks.fn.binds fun _ _ _ _ _ _ us hl => match us, hl with | [_], _ => rfl, PySem.W.mg_of X G F_are_ranks.ns⟩
    f__law_pot := f_law_pot
    d__law_pot := _
    h__law_pot := ⟨F__law_pot.fn, F__law_pot.fn.binds fun _ _ _ _ _ _ us hl => match us, hl with | [_, _], _ => rfl, PySem.W.mg_of X G F__law_pot.ns⟩
    f__law_take := f_law_take
    d__law_take := _
    h__law_take := ⟨F__law_take.fn, F__law_take.fn.binds fun _ _ _ _ _ _ us hl => match us, hl with | [_, _], _ => rfl, PySem.W.mg_of X G F__law_take.ns⟩
    f__law_far := f_law_far
    d__law_far := _
    h__law_far := ⟨F__law_far.fn, F__law_far.fn.binds fun _ _ _ _ _ _ us hl => match us, hl with | [_], _ => rfl, PySem.W.mg_of X G F__law_far.ns⟩
    f__law_names := f_law_names
    d__law_names := _
    h__law_names := ⟨F__law_names.fn, F__law_names.fn.binds fun _ _ _ _ _ _ us hl => match us, hl with | [_, _], _ => rfl, PySem.W.mg_of X G F__law_names.ns⟩
    f__law_plan := f_law_plan
    d__law_plan := _
    h__law_plan := ⟨F__law_plan.fn, F__law_plan.fn.binds fun _ _ _ _ _ _ us hl => match us, hl with | [_, _], _ => rfl, PySem.W.mg_of X G F__law_plan.ns⟩
    f__law_worth := f_law_worth
    d__law_worth := _
    h__law_worth := ⟨F__law_worth.fn, F__law_worth.fn.binds fun _ _ _ _ _ _ us hl => match us, hl with | [_, _, _], _ => rfl, PySem.W.mg_of X G F__law_worth.ns⟩
    f__law_event := f_law_event
    d__law_event := _
    h__law_event := ⟨F__law_event.fn, F__law_event.fn.binds fun _ _ _ _ _ _ us hl => match us, hl with | [_, _], _ => rfl, PySem.W.mg_of X G F__law_event.ns⟩
    f__law_tell := f_law_tell
    d__law_tell := _
    h__law_tell := ⟨F__law_tell.fn, F__law_tell.fn.binds fun _ _ _ _ _ _ us hl => match us, hl with | [_, _], _ => rfl, PySem.W.mg_of X G F__law_tell.ns⟩
    f__law_entries := f_law_entries
    d__law_entries := _
    h__law_entries := ⟨F__law_entries.fn, F__law_entries.fn.binds fun _ _ _ _ _ _ us hl => match us, hl with | [_], _ => rfl, PySem.W.mg_of X G F__law_entries.ns⟩
    f__law_where := f_law_where
    d__law_where := _
    h__law_where := ⟨F__law_where.fn, F__law_where.fn.binds fun _ _ _ _ _ _ us hl => match us, hl with | [_, _, _], _ => rfl, PySem.W.mg_of X G F__law_where.ns⟩
    f__law_stands := f_law_stands
    d__law_stands := _
    h__law_stands := ⟨F__law_stands.fn, F__law_stands.fn.binds fun _ _ _ _ _ _ us hl => match us, hl with | [_, _, _], _ => rfl, PySem.W.mg_of X G F__law_stands.ns⟩
    f__law_same := f_law_same
    d__law_same := _
    h__law_same := ⟨F__law_same.fn, F__law_same.fn.binds fun _ _ _ _ _ _ us hl => match us, hl with | [_, _, _], _ => rfl, PySem.W.mg_of X G F__law_same.ns⟩
    f__law_unlike := f_law_unlike
    d__law_unlike := _
    h__law_unlike := ⟨F__law_unlike.fn, F__law_unlike.fn.binds fun _ _ _ _ _ _ us hl => match us, hl with | [_, _, _], _ => rfl, PySem.W.mg_of X G F__law_unlike.ns⟩
    f_Book_entries := fBook_entries
    d_Book_entries := _
    c_Book_entries := cBook_entries
    p_Book_entries := PBook_entries
    L_Book_entries := F_Book_entries.fn
    lb_Book_entries := F_Book_entries.fn.fn.binds fun _ _ _ _ _ _ us hl => match us, hl with | [_], _ => rfl
    me_Book_entries := F_Book_entries.me
    f_book_of := fbook_of
    d_book_of := _
    c_book_of := cbook_of
    p_book_of := Pbook_of
    L_book_of := F_book_of.fn
    lb_book_of := F_book_of.fn.fn.binds fun _ _ _ _ _ _ us hl => match us, hl with | [_, _], _ => rfl
    gl_book_of := PySem.W.mg_of X G F_book_of.ns
    f__law_by_another_road := f_law_by_another_road
    d__law_by_another_road := _
    c__law_by_another_road := c_law_by_another_road
    p__law_by_another_road := P_law_by_another_road
    L__law_by_another_road := F__law_by_another_road.fn
    lb__law_by_another_road := F__law_by_another_road.fn.fn.binds fun _ _ _ _ _ _ us hl => match us, hl with | [_, _], _ => rfl
    gl__law_by_another_road := PySem.W.mg_of X G F__law_by_another_road.ns
    ne_Book_entries_book_of := ne_Book_entries_book_of
    ne_Book_entries__law_by_another_road := ne_Book_entries__law_by_another_road
    ne_book_of__law_by_another_road := ne_book_of__law_by_another_road }
  have hT : ∀ p ∈ ([(cBook_entries, PBook_entries), (cbook_of, Pbook_of), (c_law_by_another_road, P_law_by_another_road)] : List (Addr × Addr)), h.get? p.2 = some { cls := .none, data := .fields #[] } := List.forall_mem_cons.mpr ⟨ht _ tm_Book_entries, List.forall_mem_cons.mpr ⟨ht _ tm_book_of, List.forall_mem_cons.mpr ⟨ht _ tm__law_by_another_road, fun _ z => nomatch z⟩⟩⟩
  have nT : ∀ p ∈ ([(cBook_entries, PBook_entries), (cbook_of, Pbook_of), (c_law_by_another_road, P_law_by_another_road)] : List (Addr × Addr)), K.lookup p.2 = none := List.forall_mem_cons.mpr ⟨F_Book_entries.nP, List.forall_mem_cons.mpr ⟨F_book_of.nP, List.forall_mem_cons.mpr ⟨F__law_by_another_road.nP, fun _ z => nomatch z⟩⟩⟩
  have hC : ∀ p ∈ ([(cBook_entries, PBook_entries), (cbook_of, Pbook_of), (c_law_by_another_road, P_law_by_another_road)] : List (Addr × Addr)), PySem.W.CodeHd h p.1 p.2 := List.forall_mem_cons.mpr ⟨PySem.W.codeHd_of_K X F_Book_entries.hd, List.forall_mem_cons.mpr ⟨PySem.W.codeHd_of_K X F_book_of.hd, List.forall_mem_cons.mpr ⟨PySem.W.codeHd_of_K X F__law_by_another_road.hd, fun _ z => nomatch z⟩⟩⟩
  refine ⟨_, _, spLaw K (TLs A), hT, nT, hC, fun s v => .of_eq rfl, fun H a ns hl hH hS => ⟨a, ns, rfl, hS, hl, ?_, fun _ => rfl⟩, fun base _ _ TB => ok_law A ⟨TB _ (.head _), TB _ (.tail _ (.head _)), TB _ (.tail _ (.tail _ (.head _)))⟩ F_law.fn⟩
  show ∀ p ∈ ([(PBook_entries, q_lam_Book_entries), (Pbook_of, q_lam_book_of), (P_law_by_another_road, q_lam__law_by_another_road)] : List (Addr × Str)), LamX.TabS H p.1 p.2
  exact List.forall_mem_cons.mpr ⟨LamX.TabS.nil (hH _ (.head _)), List.forall_mem_cons.mpr ⟨LamX.TabS.nil (hH _ (.tail _ (.head _))), List.forall_mem_cons.mpr ⟨LamX.TabS.nil (hH _ (.tail _ (.tail _ (.head _)))), fun _ z => nomatch z⟩⟩⟩
end K63
open PySem PySem.W PyProof.Rows
set_option maxHeartbeats 0 in
theorem PySem.Challenge.cw_lightturns_k63_entries_equal_twins_holds : PySem.Challenge.rw_lightturns_k63_entries_equal_twins.Holds := by
  w_on; o_law; k_head; (case hw => w_witness2)
  k_fill
  refine LT.end_ofG (l := PySem.Challenge.rw_lightturns_k63_entries_equal_twins) (n := 63) (k := 15) (x := "_law_script") (CX := fun _ => L2.CX0) rfl (by decide) rfl ⟨rfl, by decide, by decide⟩ (fun w h Y => PySem.W.km_in_of Y) ?F (fun _ _ _ _ _ h => h)
  case F =>
    intro w mg fa h Y KX G hmg
    refine' K63.all_mk (l := PySem.Challenge.rw_lightturns_k63_entries_equal_twins) (w := w) KX G hmg (PySem.W.km_tabs_of Y) ⟨?d_n_History, ?d_n_Book, ?d_cn, ?d_ct, ?d_pg_History, ?d_hd_History, ?d_po_History, ?d_sa_History, ?d_kC_History, ?d_mk_History, ?d_f_History_by_day, ?d_pg_Book, ?d_hd_Book, ?d_po_Book, ?d_sa_Book, ?d_kC_Book, ?d_mk_Book, ?d_f_Book_rank_of, ?d_f_Book_moves, ?d_f_Book_landings, ?d_f_Book_latest_known, ?d_cm_Book, ?d_ca_Book, ?d_iC_Book, ?d_tC_Book, ?d_kt_Book_NoneType, ?d_kt_Book_bool, ?d_kt_Book_int, ?d_kt_Book_str, ?d_kt_Book_list, ?d_kt_Book_tuple, ?d_kt_Book_dict, ?d_ne_Book, ?d_st_Book_NoneType, ?d_st_Book_bool, ?d_st_Book_int, ?d_st_Book_str, ?d_st_Book_list, ?d_st_Book_tuple⟩ ⟨?m_History___init___at, ?m_History___init___lk, ?m_History___init___cd, ?m_History___init___kp, ?m_History___init___isf⟩ ⟨?m_History_note_at, ?m_History_note_lk, ?m_History_note_cd, ?m_History_note_kp, ?m_History_note_isf⟩ ⟨?m_History_all_told_at, ?m_History_all_told_lk, ?m_History_all_told_cd, ?m_History_all_told_kp, ?m_History_all_told_isf⟩ ⟨?m_History_told_last_at, ?m_History_told_last_lk, ?m_History_told_last_cd, ?m_History_told_last_kp, ?m_History_told_last_isf⟩ ⟨?m_History_holding_at, ?m_History_holding_lk, ?m_History_holding_cd, ?m_History_holding_kp, ?m_History_holding_isf⟩ ⟨?m_Book___init___at, ?m_Book___init___lk, ?m_Book___init___cd, ?m_Book___init___kp, ?m_Book___init___isf⟩ ⟨?m_Book_ranks_at, ?m_Book_ranks_lk, ?m_Book_ranks_cd, ?m_Book_ranks_kp, ?m_Book_ranks_isf⟩ ⟨?m_Book_tell_at, ?m_Book_tell_lk, ?m_Book_tell_cd, ?m_Book_tell_kp, ?m_Book_tell_isf⟩ ⟨?m_Book_land_at, ?m_Book_land_lk, ?m_Book_land_cd, ?m_Book_land_kp, ?m_Book_land_isf⟩ ⟨?m_Book_last_known_at, ?m_Book_last_known_lk, ?m_Book_last_known_cd, ?m_Book_last_known_kp, ?m_Book_last_known_isf⟩ ⟨?m_Book_moves_known_at, ?m_Book_moves_known_lk, ?m_Book_moves_known_cd, ?m_Book_moves_known_kp, ?m_Book_moves_known_isf⟩ ⟨?m_Book_landings_known_at, ?m_Book_landings_known_lk, ?m_Book_landings_known_cd, ?m_Book_landings_known_kp, ?m_Book_landings_known_isf⟩ ⟨?m_Book_twin_at, ?m_Book_twin_lk, ?m_Book_twin_cd, ?m_Book_twin_kp, ?m_Book_twin_isf⟩ ⟨?m_Book___eq___at, ?m_Book___eq___lk, ?m_Book___eq___cd, ?m_Book___eq___kp, ?m_Book___eq___isf⟩ ⟨?m_Book___len___at, ?m_Book___len___lk, ?m_Book___len___cd, ?m_Book___len___kp, ?m_Book___len___isf⟩ ⟨?m_Book_where_at, ?m_Book_where_lk, ?m_Book_where_cd, ?m_Book_where_kp, ?m_Book_where_isf, ?m_Book_where_lT⟩ ⟨?m_Book_landed_at, ?m_Book_landed_lk, ?m_Book_landed_cd, ?m_Book_landed_kp, ?m_Book_landed_isf, ?m_Book_landed_lT⟩ ⟨?l_Book_entries_at, ?l_Book_entries_lk, ?l_Book_entries_cd, ?l_Book_entries_kp, ?l_Book_entries_isf, ?l_Book_entries_lC, ?l_Book_entries_vP, ?l_Book_entries_hd, ?l_Book_entries_nP⟩ ?t_tab_Book_entries ⟨?l_book_of_ns, ?l_book_of_lk, ?l_book_of_cd, ?l_book_of_kp, ?l_book_of_lC, ?l_book_of_vP, ?l_book_of_hd, ?l_book_of_nP⟩ ?t_tab_book_of ⟨?l__law_by_another_road_ns, ?l__law_by_another_road_lk, ?l__law_by_another_road_cd, ?l__law_by_another_road_kp, ?l__law_by_another_road_lC, ?l__law_by_another_road_vP, ?l__law_by_another_road_hd, ?l__law_by_another_road_nP⟩ ?t_tab__law_by_another_road ⟨?f_is_name_ns, ?f_is_name_lk, ?f_is_name_cd, ?f_is_name_kp⟩ ⟨?f_is_place_ns, ?f_is_place_lk, ?f_is_place_cd, ?f_is_place_kp⟩ ⟨?f_is_whole_ns, ?f_is_whole_lk, ?f_is_whole_cd, ?f_is_whole_kp⟩ ⟨?f_is_from_ns, ?f_is_from_lk, ?f_is_from_cd, ?f_is_from_kp⟩ ⟨?f_is_within_ns, ?f_is_within_lk, ?f_is_within_cd, ?f_is_within_kp⟩ ⟨?f_is_day_ns, ?f_is_day_lk, ?f_is_day_cd, ?f_is_day_kp⟩ ⟨?f_check_day_ns, ?f_check_day_lk, ?f_check_day_cd, ?f_check_day_kp⟩ ⟨?f_check_known_ns, ?f_check_known_lk, ?f_check_known_cd, ?f_check_known_kp⟩ ⟨?f_check_days_ns, ?f_check_days_lk, ?f_check_days_cd, ?f_check_days_kp⟩ ⟨?f_check_light_ns, ?f_check_light_lk, ?f_check_light_cd, ?f_check_light_kp⟩ ⟨?f_check_place_ns, ?f_check_place_lk, ?f_check_place_cd, ?f_check_place_kp⟩ ⟨?f_check_number_ns, ?f_check_number_lk, ?f_check_number_cd, ?f_check_number_kp⟩ ⟨?f_check_keeper_ns, ?f_check_keeper_lk, ?f_check_keeper_cd, ?f_check_keeper_kp⟩ ⟨?f_check_not_early_ns, ?f_check_not_early_lk, ?f_check_not_early_cd, ?f_check_not_early_kp⟩ ⟨?f_are_ranks_ns, ?f_are_ranks_lk, ?f_are_ranks_cd, ?f_are_ranks_kp⟩ ⟨?f__law_pot_ns, ?f__law_pot_lk, ?f__law_pot_cd, ?f__law_pot_kp⟩ ⟨?f__law_take_ns, ?f__law_take_lk, ?f__law_take_cd, ?f__law_take_kp⟩ ⟨?f__law_far_ns, ?f__law_far_lk, ?f__law_far_cd, ?f__law_far_kp⟩ ⟨?f__law_names_ns, ?f__law_names_lk, ?f__law_names_cd, ?f__law_names_kp⟩ ⟨?f__law_plan_ns, ?f__law_plan_lk, ?f__law_plan_cd, ?f__law_plan_kp⟩ ⟨?f__law_worth_ns, ?f__law_worth_lk, ?f__law_worth_cd, ?f__law_worth_kp⟩ ⟨?f__law_event_ns, ?f__law_event_lk, ?f__law_event_cd, ?f__law_event_kp⟩ ⟨?f__law_tell_ns, ?f__law_tell_lk, ?f__law_tell_cd, ?f__law_tell_kp⟩ ⟨?f__law_entries_ns, ?f__law_entries_lk, ?f__law_entries_cd, ?f__law_entries_kp⟩ ⟨?f__law_where_ns, ?f__law_where_lk, ?f__law_where_cd, ?f__law_where_kp⟩ ⟨?f__law_stands_ns, ?f__law_stands_lk, ?f__law_stands_cd, ?f__law_stands_kp⟩ ⟨?f__law_same_ns, ?f__law_same_lk, ?f__law_same_cd, ?f__law_same_kp⟩ ⟨?f__law_unlike_ns, ?f__law_unlike_lk, ?f__law_unlike_cd, ?f__law_unlike_kp⟩ ⟨?f_law_ns, ?f_law_lk, ?f_law_cd, ?f_law_kp⟩ ?y_SMALL_LETTERS ?y_LONGEST_NAME ?y_ASHORE ?y_MOST_KEEPERS ?y_HIGHEST_RANK ?y_LOWEST_RANK ?z_isinstance ?z_int ?z_bool ?z_len ?z_abs ?z_max ?z_min ?z_divmod ?z_range ?z_repr ?z_zip ?z_ValueError ?z_all ?z_any ?z_sum ?z_sorted ?z_list ?z_tuple ?z_dict ?z_enumerate ?z_reversed ?z_str ?z_set ?n_tab_Book_entries_book_of ?n_tab_Book_entries__law_by_another_road ?n_tab_book_of__law_by_another_road
    (case d_n_History => k_is)
    (case d_n_Book => k_is)
    (case m_History___init___at => k_is)
    (case m_History_note_at => k_is)
    (case m_History_all_told_at => k_is)
    (case m_History_told_last_at => k_is)
    (case m_History_holding_at => k_is)
    (case m_Book___init___at => k_is)
    (case m_Book_ranks_at => k_is)
    (case m_Book_tell_at => k_is)
    (case m_Book_land_at => k_is)
    (case m_Book_last_known_at => k_is)
    (case m_Book_moves_known_at => k_is)
    (case m_Book_landings_known_at => k_is)
    (case m_Book_twin_at => k_is)
    (case m_Book___eq___at => k_is)
    (case m_Book___len___at => k_is)
    (case m_Book_where_at => k_is)
    (case m_Book_landed_at => k_is)
    (case l_Book_entries_at => k_is)
    (case l_book_of_ns => k_is)
    (case l__law_by_another_road_ns => k_is)
    (case f_is_name_ns => k_is)
    (case f_is_place_ns => k_is)
    (case f_is_whole_ns => k_is)
    (case f_is_from_ns => k_is)
    (case f_is_within_ns => k_is)
    (case f_is_day_ns => k_is)
    (case f_check_day_ns => k_is)
    (case f_check_known_ns => k_is)
    (case f_check_days_ns => k_is)
    (case f_check_light_ns => k_is)
    (case f_check_place_ns => k_is)
    (case f_check_number_ns => k_is)
    (case f_check_keeper_ns => k_is)
    (case f_check_not_early_ns => k_is)
    (case f_are_ranks_ns => k_is)
    (case f__law_pot_ns => k_is)
    (case f__law_take_ns => k_is)
    (case f__law_far_ns => k_is)
    (case f__law_names_ns => k_is)
    (case f__law_plan_ns => k_is)
    (case f__law_worth_ns => k_is)
    (case f__law_event_ns => k_is)
    (case f__law_tell_ns => k_is)
    (case f__law_entries_ns => k_is)
    (case f__law_where_ns => k_is)
    (case f__law_stands_ns => k_is)
    (case f__law_same_ns => k_is)
    (case f__law_unlike_ns => k_is)
    (case f_law_ns => k_is)
    (case y_SMALL_LETTERS => k_is)
    (case y_LONGEST_NAME => k_is)
    (case y_ASHORE => k_is)
    (case y_MOST_KEEPERS => k_is)
    (case y_HIGHEST_RANK => k_is)
    (case y_LOWEST_RANK => k_is)
    (case m_History___init___lk => k_is)
    (case m_History_note_lk => k_is)
    (case m_History_all_told_lk => k_is)
    (case m_History_told_last_lk => k_is)
    (case m_History_holding_lk => k_is)
    (case m_Book___init___lk => k_is)
    (case m_Book_ranks_lk => k_is)
    (case m_Book_tell_lk => k_is)
    (case m_Book_land_lk => k_is)
    (case m_Book_last_known_lk => k_is)
    (case m_Book_moves_known_lk => k_is)
    (case m_Book_landings_known_lk => k_is)
    (case m_Book_twin_lk => k_is)
    (case m_Book___eq___lk => k_is)
    (case m_Book___len___lk => k_is)
    (case m_Book_where_lk => k_is)
    (case m_Book_landed_lk => k_is)
    (case l_Book_entries_lk => k_is)
    (case l_book_of_lk => k_is)
    (case l__law_by_another_road_lk => k_is)
    (case f_is_name_lk => k_is)
    (case f_is_place_lk => k_is)
    (case f_is_whole_lk => k_is)
    (case f_is_from_lk => k_is)
    (case f_is_within_lk => k_is)
    (case f_is_day_lk => k_is)
    (case f_check_day_lk => k_is)
    (case f_check_known_lk => k_is)
    (case f_check_days_lk => k_is)
    (case f_check_light_lk => k_is)
    (case f_check_place_lk => k_is)
    (case f_check_number_lk => k_is)
    (case f_check_keeper_lk => k_is)
    (case f_check_not_early_lk => k_is)
    (case f_are_ranks_lk => k_is)
    (case f__law_pot_lk => k_is)
    (case f__law_take_lk => k_is)
    (case f__law_far_lk => k_is)
    (case f__law_names_lk => k_is)
    (case f__law_plan_lk => k_is)
    (case f__law_worth_lk => k_is)
    (case f__law_event_lk => k_is)
    (case f__law_tell_lk => k_is)
    (case f__law_entries_lk => k_is)
    (case f__law_where_lk => k_is)
    (case f__law_stands_lk => k_is)
    (case f__law_same_lk => k_is)
    (case f__law_unlike_lk => k_is)
    (case f_law_lk => k_is)
    (case m_Book_where_lT => k_is)
    (case m_Book_landed_lT => k_is)
    (case l_Book_entries_lC => k_is)
    (case l_book_of_lC => k_is)
    (case l__law_by_another_road_lC => k_is)
    (case l_Book_entries_vP => rfl)
    (case l_book_of_vP => rfl)
    (case l__law_by_another_road_vP => rfl)
    (case d_cn => k_is)
    (case d_ct => k_is)
    (case d_pg_History => k_is)
    (case d_hd_History => k_is)
    (case d_po_History => k_is)
    (case d_sa_History => k_is)
    (case d_kC_History => k_is)
    (case d_mk_History => k_is)
    (case d_f_History_by_day => k_is)
    (case d_pg_Book => k_is)
    (case d_hd_Book => k_is)
    (case d_po_Book => k_is)
    (case d_sa_Book => k_is)
    (case d_kC_Book => k_is)
    (case d_mk_Book => k_is)
    (case d_f_Book_rank_of => k_is)
    (case d_f_Book_moves => k_is)
    (case d_f_Book_landings => k_is)
    (case d_f_Book_latest_known => k_is)
    (case d_cm_Book => k_is)
    (case d_ca_Book => k_is)
    (case d_iC_Book => k_is)
    (case d_tC_Book => k_is)
    (case d_kt_Book_NoneType => k_is)
    (case d_kt_Book_bool => k_is)
    (case d_kt_Book_int => k_is)
    (case d_kt_Book_str => k_is)
    (case d_kt_Book_list => k_is)
    (case d_kt_Book_tuple => k_is)
    (case d_kt_Book_dict => k_is)
    (case d_ne_Book => k_is)
    (case d_st_Book_NoneType => k_is)
    (case d_st_Book_bool => k_is)
    (case d_st_Book_int => k_is)
    (case d_st_Book_str => k_is)
    (case d_st_Book_list => k_is)
    (case d_st_Book_tuple => k_is)
    (case m_History___init___cd => k_is)
    (case m_History___init___kp => k_is)
    (case m_History___init___isf => k_is)
    (case m_History_note_cd => k_is)
    (case m_History_note_kp => k_is)
    (case m_History_note_isf => k_is)
    (case m_History_all_told_cd => k_is)
    (case m_History_all_told_kp => k_is)
    (case m_History_all_told_isf => k_is)
    (case m_History_told_last_cd => k_is)
    (case m_History_told_last_kp => k_is)
    (case m_History_told_last_isf => k_is)
    (case m_History_holding_cd => k_is)
    (case m_History_holding_kp => k_is)
    (case m_History_holding_isf => k_is)
    (case m_Book___init___cd => k_is)
    (case m_Book___init___kp => k_is)
    (case m_Book___init___isf => k_is)
    (case m_Book_ranks_cd => k_is)
    (case m_Book_ranks_kp => k_is)
    (case m_Book_ranks_isf => k_is)
    (case m_Book_tell_cd => k_is)
    (case m_Book_tell_kp => k_is)
    (case m_Book_tell_isf => k_is)
    (case m_Book_land_cd => k_is)
    (case m_Book_land_kp => k_is)
    (case m_Book_land_isf => k_is)
    (case m_Book_last_known_cd => k_is)
    (case m_Book_last_known_kp => k_is)
    (case m_Book_last_known_isf => k_is)
    (case m_Book_moves_known_cd => k_is)
    (case m_Book_moves_known_kp => k_is)
    (case m_Book_moves_known_isf => k_is)
    (case m_Book_landings_known_cd => k_is)
    (case m_Book_landings_known_kp => k_is)
    (case m_Book_landings_known_isf => k_is)
    (case m_Book_twin_cd => k_is)
    (case m_Book_twin_kp => k_is)
    (case m_Book_twin_isf => k_is)
    (case m_Book___eq___cd => k_is)
    (case m_Book___eq___kp => k_is)
    (case m_Book___eq___isf => k_is)
    (case m_Book___len___cd => k_is)
    (case m_Book___len___kp => k_is)
    (case m_Book___len___isf => k_is)
    (case m_Book_where_cd => k_is)
    (case m_Book_where_kp => k_is)
    (case m_Book_where_isf => k_is)
    (case m_Book_landed_cd => k_is)
    (case m_Book_landed_kp => k_is)
    (case m_Book_landed_isf => k_is)
    (case l_Book_entries_cd => k_is)
    (case l_Book_entries_kp => k_is)
    (case l_Book_entries_isf => k_is)
    (case l_Book_entries_hd => kernel_rfl)
    (case l_Book_entries_nP => kernel_rfl)
    (case t_tab_Book_entries => k_mem)
    (case l_book_of_cd => k_is)
    (case l_book_of_kp => k_is)
    (case l_book_of_hd => kernel_rfl)
    (case l_book_of_nP => kernel_rfl)
    (case t_tab_book_of => k_mem)
    (case l__law_by_another_road_cd => k_is)
    (case l__law_by_another_road_kp => k_is)
    (case l__law_by_another_road_hd => kernel_rfl)
    (case l__law_by_another_road_nP => kernel_rfl)
    (case t_tab__law_by_another_road => k_mem)
    (case f_is_name_cd => k_is)
    (case f_is_name_kp => k_is)
    (case f_is_place_cd => k_is)
    (case f_is_place_kp => k_is)
    (case f_is_whole_cd => k_is)
    (case f_is_whole_kp => k_is)
    (case f_is_from_cd => k_is)
    (case f_is_from_kp => k_is)
    (case f_is_within_cd => k_is)
    (case f_is_within_kp => k_is)
    (case f_is_day_cd => k_is)
    (case f_is_day_kp => k_is)
    (case f_check_day_cd => k_is)
    (case f_check_day_kp => k_is)
    (case f_check_known_cd => k_is)
    (case f_check_known_kp => k_is)
    (case f_check_days_cd => k_is)
    (case f_check_days_kp => k_is)
    (case f_check_light_cd => k_is)
    (case f_check_light_kp => k_is)
    (case f_check_place_cd => k_is)
    (case f_check_place_kp => k_is)
    (case f_check_number_cd => k_is)
    (case f_check_number_kp => k_is)
    (case f_check_keeper_cd => k_is)
    (case f_check_keeper_kp => k_is)
    (case f_check_not_early_cd => k_is)
    (case f_check_not_early_kp => k_is)
    (case f_are_ranks_cd => k_is)
    (case f_are_ranks_kp => k_is)
    (case f__law_pot_cd => k_is)
    (case f__law_pot_kp => k_is)
    (case f__law_take_cd => k_is)
    (case f__law_take_kp => k_is)
    (case f__law_far_cd => k_is)
    (case f__law_far_kp => k_is)
    (case f__law_names_cd => k_is)
    (case f__law_names_kp => k_is)
    (case f__law_plan_cd => k_is)
    (case f__law_plan_kp => k_is)
    (case f__law_worth_cd => k_is)
    (case f__law_worth_kp => k_is)
    (case f__law_event_cd => k_is)
    (case f__law_event_kp => k_is)
    (case f__law_tell_cd => k_is)
    (case f__law_tell_kp => k_is)
    (case f__law_entries_cd => k_is)
    (case f__law_entries_kp => k_is)
    (case f__law_where_cd => k_is)
    (case f__law_where_kp => k_is)
    (case f__law_stands_cd => k_is)
    (case f__law_stands_kp => k_is)
    (case f__law_same_cd => k_is)
    (case f__law_same_kp => k_is)
    (case f__law_unlike_cd => k_is)
    (case f__law_unlike_kp => k_is)
    (case f_law_cd => k_is)
    (case f_law_kp => k_is)
    (case z_isinstance => k_is)
    (case z_int => k_is)
    (case z_bool => k_is)
    (case z_len => k_is)
    (case z_abs => k_is)
    (case z_max => k_is)
    (case z_min => k_is)
    (case z_divmod => k_is)
    (case z_range => k_is)
    (case z_repr => k_is)
    (case z_zip => k_is)
    (case z_ValueError => k_is)
    (case z_all => k_is)
    (case z_any => k_is)
    (case z_sum => k_is)
    (case z_sorted => k_is)
    (case z_list => k_is)
    (case z_tuple => k_is)
    (case z_dict => k_is)
    (case z_enumerate => k_is)
    (case z_reversed => k_is)
    (case z_str => k_is)
    (case z_set => k_is)
    (case n_tab_Book_entries_book_of => decide)
    (case n_tab_Book_entries__law_by_another_road => decide)
    (case n_tab_book_of__law_by_another_road => decide)
