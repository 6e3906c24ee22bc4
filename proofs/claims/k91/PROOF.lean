import PyProof.Rows.All
import Wide.All
import OpenK.AllK
import Wide.FinOn
import HandS.ForMost
import HandS.IsInst
import HandS.Wide
import HandS.WideBits
import HandS.EndBits
import HandS.Style
import HandS.RaiseMore
import PyProof.ReprRoads
import PyProof.ListStr
import HandS.ForExc
import HandS.Exc
import HandS.ExcIs
import HandS.CallSlots
import HandS.HotCalls
import HandS.Defaults
import HandS.MakeKw
import HandS.MakeKwOnly
import HandS.Nested
import HandS.ExcInit
import KE.KExcSuper
import HandS.ExcField
import HandS.FStr
import HandS.Words
import KE.KExcIs
import HandS.Walk
import HandS.Flow
import HandS.Zip
import PyProof.EqKinds
import PyProof.NeKinds
import KE.KFmtOwn
import HandS.OwnEq
import KE.DatumOrd
import HandS.FStrTup
import KE.DataMinMax
import HandS.TupMul
import HandS.More
import HandS.DictComp
import HandS.Sort
import HandS.Finally
import HandS.Conv
import PyProof.ListRange
import PyProof.TupleOfStr
import KE.KDictDisplayH
import HandS.MapJoin
import HandS.RevTup
import HandS.Rev
import HandS.SetTxtIn
import PyProof.StrLawsIn
import PyProof.DictUpdate
import HandS.Strs
import HandS.SetKeys
import HandS.Lambda
import KE.SortKeyHeap
import PyProof.TupleOfSeq
import HandS.SetFor
import KE.KDictZip
import HandS.GenList
import PyProof.Rows.SortShellAny
import PyProof.ReprLen
import HandS.EndTab
import HandS.BoundList
import PySem.Challenge.RW_lightturns_k91_clashes
import KE.SortData
import HandS.Small
import HandS.DictTup
import KE.KIntText
set_option Elab.async false
set_option linter.all false
set_option maxRecDepth 100000
/-! Own layer: defs called where no repr is under way (FnG), repr of data, the end of a law by such a def. -/
namespace LT
open PySem PySem.Spec PyProof.Rows L2
structure FnG (P : Program) (w : World) (K : PySem.W.Frag) (mg : Str → Option Value) (base : Heap)
    (CX : CXT) (k : Nat) (f : Addr) (fd : FuncData) (ps : List Str) (sp : Sp) : Prop where
  argc : ∀ {vs : List V} {H : Hp} {Q : VK} {E : XK}, sp vs H Q E → vs.length = ps.length
  go : ∀ {A : Around} {outer : List Env} {s : Shared} {H : Hp} {args : Args} {us : List Value} {vs : List V}
    {Q : VK} {E : XK}, A.guards = some [] → Room k A → Env0 P w K mg base A outer s H →
    BindsTo s fd args (ps.zip us) → Vals vs us → sp vs H Q E →
    codeAny (model P w) A (.call (.ref f) args) (CR CX outer P w H s Q E) s
section
variable {P : Program} {w : World} {K : PySem.W.Frag} {mg : Str → Option Value} {base : Heap}
theorem FnG.of {CX : CXT} {k : Nat} {f : Addr} {fd : FuncData} {ps : List Str} {sp : Sp}
    (F : FnOk P w K mg base CX k f fd ps sp) : FnG P w K mg base CX k f fd ps sp :=
  ⟨fun h => F.len _ _ _ _ h, fun _ hr e b v h => F.run _ _ _ _ _ _ _ _ _ hr e b v h⟩
theorem okG {x qual : Str} {st : Stmt} {f : Addr} {fd : FuncData} {N ps : List Str} {k : Nat} {sp : Sp}
    (F : Fun K x qual st f fd) (S : FnScope N ps (defScope st))
    (argc : ∀ {vs : List V} {H : Hp} {Q : VK} {E : XK}, sp vs H Q E → vs.length = ps.length)
    (body : ∀ (cdv : Value) (A : Around) (outer : List Env) (s : Shared) (H : Hp) (vs : List V) (Q : VK) (E : XK),
      A.guards = some [] → Room k (A.deeper (envOfC qual (defScope st) s.heap.objs.size f cdv)) → sp vs H Q E →
      ∃ t, PSs (cxOf CX0 P w K mg base N qual (defScope st) f cdv A outer s H E).nox (defBody st) t ∧
        t { nx := fun _ H' => Q .non H', rt := Q } (start N vs) H) :
    FnG P w K mg base CX0 (k + 1) f fd ps sp := by
  obtain ⟨oc, od, kV, doc, pm, an, cdv, ct, osl, rfl, lk, hcd⟩ := F.ex
  refine ⟨argc, ?_⟩
  intro A outer s H args us vs Q E hg hr e0 hb r hsp
  have inS : ∀ b o, base.get? b = some o → s.heap.get? b = some o := fun b o e => (e0.bs b o e).1
  have KX : K.In s.heap := e0.mod.kin.keeps inS
  have hkind : ∀ y ∈ ps.zip us, (defScope st).names.lookup y.1 = some .local ∨
      ((defScope st).names.lookup y.1 = some .cell ∧
        ((cellsFrom (s.heap.objs.size + 1) (defScope st).names []).lookup y.1).isSome = true) := by
    rintro ⟨n, v⟩ hy
    rcases S.par n (List.of_mem_zip hy).1 with q | q
    · exact Or.inl q
    · exact Or.inr ⟨q, PySem.W.cellsFrom_some _ _ _ (Or.inl q)⟩
  refine codeAny_call_function hr.depth (KX _ _ lk) rfl S.co S.gen rfl (PySem.W.codeRec_of KX hcd)
    (hb _ _ _ _ (wpAny_newFunctionEnv_cells S.kind hkind fun env he s1 x => ?_))
  subst he
  refine ⟨(e0.mod.nolimit.keeps inS).keeps x.toInCall.keep, codeAny_func ?_⟩
  obtain ⟨t, ht, hq⟩ := body cdv A outer s H vs Q E hg (hr.deeper _) hsp
  have I := inv_start (CX := CX0) (N := N) (qual := qual) (f := f) (cd := cdv) (E := E) S hr.hd e0 (argc hsp) r x
  refine wpAny_mono (ht.nox.run [] s1 (start N vs) H _ I hq) (fun fl s' hs => ?_) (fun e s' hs => hs)
  cases fl with
  | brk => obtain ⟨_, _, _, q⟩ := hs; exact q.elim
  | cont => obtain ⟨_, _, _, q⟩ := hs; exact q.elim
  | next =>
    obtain ⟨σ', H', J, q⟩ := hs
    exact ⟨V.non, H', J.os, J.bare, J.base, J.hok, rfl, q⟩
  | ret u =>
    obtain ⟨v, σ', H', J, rv, q⟩ := hs
    exact ⟨v, H', J.os, J.bare, J.base, J.hok, rv, q⟩
end
/-! ### the call of such a def -/
section
variable {X : Cx} {CX : CXT} {k : Nat} {f : Addr} {fd : FuncData} {ps : List Str} {sp : Sp} {dvs : List V}
  {ds : List Value} {E : XK} {x : Str} {p pos : Pos} {e : Expr} {es : List Expr} {t : TA}
theorem runG {pins : List (Addr × Obj)} {σ : L2.St} {H : Hp} {s : Shared} {Q : VK} {us : List Value} {vs : List V}
    (F : FnG X.prog X.w X.K X.mg X.base CX k f fd ps sp) (hg : X.A.guards = some []) (hr : Room k X.A)
    (hb : Binds X.K fd ps ds) (hd : Vals dvs ds) (hx : Passes CX X E)
    (I : Inv X pins σ H s) (r : Vals vs us) (h : sp (vs ++ dvs) H Q E) :
    wpAny (model X.prog X.w) X.A (call (.ref f) us) (EP X pins σ Q) X.xe s := by
  have r2 : Vals (vs ++ dvs) (us ++ ds) := r.append hd
  have hl : (us ++ ds).length = ps.length := r2.length.symm.trans (F.argc h)
  refine wpAny_call (codeAny_mono (F.go hg hr I.env0 (hb s us I.kIn hl) r2 h) fun r s' hq => ?_)
  match r, hq with
  | .error e, hq => exact hx pins σ H s e s' I hq
  | .ok (.ret u), hq => exact I.after hq
  | .ok .next, hq => exact hq.elim
  | .ok .brk, hq => exact hq.elim
  | .ok .cont, hq => exact hq.elim
theorem pe_callG (F : FnG X.prog X.w X.K X.mg X.base CX k f fd ps sp) (hG : X.A.guards = some []) (hr : Room k X.A)
    (hg : Gl X x) (hm : X.mg x = some (.ref f)) (hk : PySem.W.keepIn X.K (.ref f) = true) (hb : Binds X.K fd ps ds)
    (hd : Vals dvs ds) (hx : Passes CX X E) (ha : PA X (e :: es) t)
    (hdb : (x == ("__debug__" : Str)) = false := by decide)
    (he : starEach (e :: es) X.env = (false, eval e X.env) :: starEach es X.env := by rfl)
    (hpl : (backTo pos (starEach es X.env)).any (·.1) = false := by rfl) :
    PE X (.Call (.Name x p) (e :: es) [] pos) (tCall sp dvs E t) := by
  refine ⟨fun pins s σ H Q I h => wpAny_Call_Name_kw (ld_glob I hg hm ?_ hdb)⟩
  refine PySem.W.callWith_K (h₀ := X.base) I.ok.mod.kin hk ?_ he hpl
  exact thn (ha.run pos pins s σ H _ I h) fun us s1 ⟨vs, H1, I1, r, q⟩ => ⟨I1.kIn, runG F hG hr hb hd hx I1 r q⟩
end
/-! ### repr of data -/
inductive Sh (K : PySem.W.Frag) (H : Hp) : V → PyData → Prop
  | dp {v : V} {d : PyData} : Dp K H v d → d.hasDict = false → Sh K H v d
  | one {a : Addr} {k : Str} {i : Int} : H a = some (.dK [(.inr k, .int i)]) → Sh K H (.ref a) (.dict [(.str k, .int i)])
section
variable {X : Cx} {pins : List (Addr × Obj)} {σ : L2.St} {H : Hp} {s : Shared}
theorem Sh.reads (I : Inv X pins σ H s) {v : V} {d : PyData} {u : Value} (h : Sh X.K H v d) (r : RelV v u) :
    ∃ as, Reads s.heap u d as ∧ (d.hasDict = true → sysModules ∉ as) := by
  cases h with
  | dp h hd =>
    obtain ⟨as, q⟩ := Dp.reads I d v u h r
    exact ⟨as, q, PyData.noDict_hsm hd⟩
  | one h =>
    rename_i a k i
    cases r
    obtain ⟨_, hs, vs, rel, o, es, ep, ho, hx, hd, hko, hp, hn⟩ := I.hok a _ h
    cases rel with
    | cons r1 r2 =>
      cases r2
      rename_i kv
      obtain ⟨kk, uu⟩ := kv
      obtain ⟨e1, t, e2⟩ := r1
      cases e1
      cases e2
      generalize hes : es.toList = l at hp
      cases hp with
      | cons k1 k2 k3 =>
        cases k3
        rename_i e
        have k0 : keyIs (Sum.inr k) e.key = true := k1
        obtain ⟨_, _, z, _⟩ | ⟨y, t', z, e3⟩ := keyIs_shape k0
        · cases z
        · cases z
          refine ⟨_, Reads.dict (as := []) (bs := []) ho hx.1 hd ?_ ?_, fun _ z => ?_⟩
          · rw [hes, List.map_cons, List.map_nil, e3]
            exact ReadsAll.cons (Reads.str _ _) .nil
          · rw [hes, List.map_cons, List.map_nil, k2]
            exact ReadsAll.cons (Reads.int _ _) .nil
          · have z2 : sysModules = a := by simpa using z
            rw [z2] at hs
            simp at hs
theorem call_reprSh (hG : X.A.guards = some []) (hu : X.A.units + 64 < cLine) : CallR X (.builtin "repr")
    (fun xs H Q => ∃ x d, xs = [x] ∧ Sh X.K H x d ∧ d.showable = true ∧ d.depth ≤ 60 ∧ d.shown.length ≤ sizeLine ∧
      Q (.str d.shown) H) := by
  intro pins s σ H xs us Q I r h
  obtain ⟨x, d, rfl, hs, sh, dp, sz, q⟩ := h
  obtain ⟨u, rfl, ru⟩ := vals1 r
  obtain ⟨as, rd, hm⟩ := hs.reads I ru
  cases rd with
  | none => exact PySem.P.repr_of_none ⟨.str _, H, I.tok _, ⟨_, rfl⟩, q⟩
  | bool b => exact PySem.P.repr_of_bool ⟨.str _, H, I.tok _, ⟨_, rfl⟩, q⟩
  | int i t => exact PySem.P.repr_of_int (of_decide_eq_true sh) ⟨.str _, H, I.tok _, ⟨_, rfl⟩, q⟩
  | str y t => exact PySem.P.repr_of_str ⟨.str _, H, I.tok _, ⟨_, rfl⟩, q⟩ sz
  | list h1 h2 h3 h4 =>
    exact repr_of_reads' (.list h1 h2 h3 h4) sh hm hG (by omega) (fun _ _ e => e) (fun h' u tk hk => ⟨.str _, H, I.kept hk, ⟨_, rfl⟩, q⟩) sz
  | tuple h1 h2 h3 h4 =>
    exact repr_of_reads' (.tuple h1 h2 h3 h4) sh hm hG (by omega) (fun _ _ e => e) (fun h' u tk hk => ⟨.str _, H, I.kept hk, ⟨_, rfl⟩, q⟩) sz
  | dict h1 h2 h3 h4 h5 =>
    exact repr_of_reads' (.dict h1 h2 h3 h4 h5) sh hm hG (by omega) (fun _ _ e => e) (fun h' u tk hk => ⟨.str _, H, I.kept hk, ⟨_, rfl⟩, q⟩) sz
end
/-! ### text * number, list(text) -/
/-! ### the end of a law whose def wants that no repr is under way -/
end LT
set_option Elab.async false
set_option linter.all false
set_option maxRecDepth 100000
/-! Own layer: a def to which the caught error is handed; isinstance of it there. -/
namespace LT
open PySem PySem.Spec PyProof.Rows L2
/-! ### isinstance of the pinned error -/
end LT
set_option Elab.async false
set_option linter.all false
set_option maxRecDepth 100000
set_option maxHeartbeats 1600000
/-! an own error whose __init__ begins with super().__init__(..): the def by its body -/
namespace LT
open PySem PySem.Spec PyProof.Rows L2 NdefX
/-- what the written part says of it -/
structure SupC (K : PySem.W.Frag) (prog : Program) (mg : Str → Option Value) (C cc : Addr) (F : NF) (ar : Arg) : Prop where
  oex : OexC K C
  cl : F.cl = [(("__class__" : Str), cc)]
  cell : ∃ a b c, K.lookup cc = some ⟨a, b, .cell (some (.ref C)), c⟩
  file : ∃ (a : Value) (b : Option Addr) (vs : Array Value) (c : Array (Option Value)) (fl : Str) (tf : Tok), K.lookup F.c = some ⟨a, b, .fields vs, c⟩ ∧ vs[2]? = some (.str fl tf) ∧ ((prog.main.file : Str) == fl) = true
  hsub : PySem.W.mroIn K C (.ref C) = some true
  sup : PySem.W.ks_superIn K C C "__init__" = some (some (.builtin "ValueError.__init__"))
  sB : PySem.W.subIn K (.ref C) (.type "ValueError") = some true
  op : PySem.W.nsIn K cStatics "thirdparty.any" = some none
  hp : (F.params.posonlyargs ++ F.params.args).head? = some ar
  cd : PySem.W.codeIn K (.ref F.c) F.qual = true
  ks : F.scope.names.lookup ("super" : Str) = some .globalImplicit
  top : (prog.main.scope.names.lookup ("super" : Str)).isSome = false
  ms : mg "super" = none
end LT
set_option Elab.async false
set_option linter.all false
set_option maxRecDepth 100000
set_option maxHeartbeats 1600000
/-! Own layer: a def to which a caught error with a field is handed: isinstance of it, its field; repr of lists of data; the __init__ of such errors. -/
namespace LT
open PySem PySem.Spec PyProof.Rows L2 NdefX
/-! ### an own error's __init__(self, field): super().__init__(f".. {field}"); self.field = field -/
abbrev nfI (st : Stmt) (qual : Str) (cc c : Addr) : NF := ⟨"__init__", qual, defArgs st, defBody st, defScope st, [(("__class__" : Str), cc)], c⟩
abbrev arI (st : Stmt) : Arg := ((defArgs st).posonlyargs ++ (defArgs st).args).head!
abbrev LkI (K : PySem.W.Frag) (F : NF) (f : Addr) (fd : FuncData) : Prop := ∃ (oc : Value) (od : Option Addr) (dV kV doc pm : Value) (an : Option Addr) (ct : Value) (osl : Array (Option Value)), fd = PySem.W.fnX F.name F.qual F.params F.body F.scope F.cl dV kV doc pm an (.ref F.c) ct ∧ K.lookup f = some ⟨oc, od, .func fd, osl⟩
/-! ### repr of a list of data, among them dicts without entries -/
inductive Sd (K : PySem.W.Frag) (H : Hp) : V → PyData → Prop
  | dp {v : V} {d : PyData} : Dp K H v d → d.hasDict = false → Sd K H v d
  | ed {a : Addr} : H a = some (.dK []) → Sd K H (.ref a) (.dict [])
theorem Sd.mono {K : PySem.W.Frag} {H H' : Hp} {v : V} {d : PyData} (s : Same H H') (h : Sd K H v d) (hm : Dp K H v d → Dp K H' v d) : Sd K H' v d := by
  cases h with
  | dp h hd => exact .dp (hm h) hd
  | ed h => exact .ed (s _ _ h)
section
variable {X : Cx} {pins : List (Addr × Obj)} {σ : L2.St} {H : Hp} {s : Shared}
theorem Sd.reads (I : Inv X pins σ H s) {v : V} {d : PyData} {u : Value} (h : Sd X.K H v d) (r : RelV v u) :
    ∃ as, Reads s.heap u d as ∧ (d.hasDict = true → sysModules ∉ as) := by
  cases h with
  | dp h hd =>
    obtain ⟨as, q⟩ := Dp.reads I d v u h r
    exact ⟨as, q, PyData.noDict_hsm hd⟩
  | ed h =>
    rename_i a
    cases r
    obtain ⟨_, hs, vs, rel, o, es, ep, ho, hx, hd, hko, hp, hn⟩ := I.hok a _ h
    cases rel
    generalize hes : es.toList = l at hp
    cases hp
    refine ⟨_, Reads.dict (as := []) (bs := []) (kvs := []) ho hx.1 hd ?_ ?_, fun _ z => ?_⟩
    · rw [hes]; exact .nil
    · rw [hes]; exact .nil
    · have z2 : sysModules = a := by simpa using z
      rw [z2] at hs
      simp at hs
theorem Sd.all (I : Inv X pins σ H s) : ∀ {vs : List V} {ds : List PyData} {us : List Value}, Paired (Sd X.K H) vs ds → Vals vs us → PyData.showableAll ds = true → (∀ t ∈ PyData.shownAll ds, t.length ≤ sizeLine) →
    ∃ as bs, ReadsAll s.heap us ds as ∧ ReadAtMost s.heap (PyData.depthAll ds) bs ∧ ReprAllK X.prog X.w bs s.heap (PyData.depthAll ds) us (PyData.shownAll ds)
  | _, _, _, .nil, r, _, _ => by
    cases r
    exact ⟨_, [], .nil, (fun _ h => nomatch h), by simp only [PyData.shownAll]; exact .nil⟩
  | _ :: _, d :: ds, _, .cons h hs, r, sh, hz => by
    cases r with
    | cons r1 r2 =>
      have sh' : d.showable = true ∧ PyData.showableAll ds = true := by simpa [PyData.showableAll] using sh
      obtain ⟨as, q1, n1⟩ := h.reads I r1
      obtain ⟨b1, hb1, k1⟩ := ReprK.of_reads (prog := X.prog) (w := X.w) q1 sh'.1 n1 (hz _ (by simp only [PyData.shownAll]; exact List.mem_cons_self ..))
      obtain ⟨bs, b2, q2, hb2, k2⟩ := Sd.all I hs r2 sh'.2 (fun t ht => hz t (by simp only [PyData.shownAll]; exact List.mem_cons_of_mem _ ht))
      refine ⟨_, b1 ++ b2, .cons q1 q2, ?_, ?_⟩
      · simp only [PyData.depthAll]
        exact (hb1.mono (Nat.le_max_left _ _)).append (hb2.mono (Nat.le_max_right _ _))
      · simp only [PyData.depthAll, PyData.shownAll]
        exact .cons ((k1.more fun b hb => List.mem_append_left _ hb).level_le (Nat.le_max_left _ _)) (k2.more_le (fun b hb => List.mem_append_right _ hb) (Nat.le_max_right _ _))
theorem call_reprSd (hG : X.A.guards = some []) (hu : X.A.units + 64 < cLine) : CallR X (.builtin "repr")
    (fun xs H Q => ∃ l vs ds, xs = [.ref l] ∧ SqL X.K H l vs ∧ Paired (Sd X.K H) vs ds ∧ (PyData.list ds).showable = true ∧ (PyData.list ds).depth ≤ 60 ∧ (PyData.list ds).shown.length ≤ sizeLine ∧
      Q (.str (PyData.list ds).shown) H) := by
  intro pins s σ H xs us Q I r h
  obtain ⟨l, vs, ds, rfl, hl, hs, sh, dp, sz, q⟩ := h
  obtain ⟨u, rfl, ru⟩ := vals1 r
  cases ru
  obtain ⟨its, rv, ⟨o, n, ho, hc, _, hd⟩, _⟩ := I.list hl
  have hz' : (listText (PyData.shownAll ds)).length ≤ sizeLine := by simpa only [PyData.shown] using sz
  obtain ⟨as, bs, rd, hb, hk⟩ := Sd.all I hs rv (by simpa [PyData.showable] using sh) (fun t ht => Nat.le_trans (listText_mem_le ht) hz')
  have hna : l ∉ bs := not_mem_of_deeper (.list ho hc hd rd) (by simp only [PyData.depth]; omega) hb
  have dp2 : PyData.depthAll ds + 1 ≤ 60 := by simpa only [PyData.depth] using dp
  have q2 : Q (.str (listText (PyData.shownAll ds))) H := by simpa only [PyData.shown] using q
  refine call_repr_slot (by omega) (show s.TypeIs (.ref l) "list" from ⟨o, ho, hc⟩) F.slot_list_repr.toG ?_
  cases its with
  | nil =>
    cases rd
    simp only [PyData.shownAll, listText_nil] at q2
    exact call_list_repr_empty ⟨o, ho, hc⟩ ho hd ⟨_, _, rfl, ⟨.str _, H, I.kept fun _ _ e => e, ⟨_, rfl⟩, q2⟩⟩
  | cons x l' =>
    exact call_list_reprK (A := X.A.in1) ho hc hd hna (by simpa using hk.length_eq) (fun i y e => hk.item i y (by simpa using e)) hG (fun b _ => Clear.nil b) (by show X.A.units + 1 + _ < cLine; omega) (fun _ _ e => e)
      (fun h' u tk hk' => ⟨_, _, rfl, ⟨.str _, H, I.kept hk', ⟨_, rfl⟩, q2⟩⟩) hz'
end
/-! ### keywords in any turn, no defaults -/
theorem kbn_of {K : PySem.W.Frag} {y qual : Str} {st : Stmt} {f : Addr} {fd : FuncData} {ps : List Str} (F : Fun K y qual st f fd) (n : Nat) (ks : List Str) (g : {α : Type} → List α → List α → List α)
    (hrel : ∀ {vs zs : List V} {us ws : List Value}, Vals vs us → Vals zs ws → Vals (g vs zs) (g us ws))
    (h : ∀ (kV doc pm : Value) (an : Option Addr) (cdv ct : Value) (us ws : List Value), us.length = n → ws.length = ks.length →
      bindArgs (PySem.W.fnOf y qual (defArgs st) (defBody st) (defScope st) .none kV doc pm an cdv ct) ⟨us, ks.zip ws⟩ = pure (ps.zip (g us ws))) :
    KBn K fd ps n ks (fun us ws => g us ws) (fun vs zs => g vs zs) := by
  obtain ⟨oc, od, kV, doc, pm, an, cdv, ct, osl, rfl, lk, hcd⟩ := F.ex
  exact ⟨fun s us ws _ l1 l2 => .of_eq (h kV doc pm an cdv ct us ws l1 l2), fun r1 r2 => hrel r1 r2⟩
end LT
set_option Elab.async false
set_option linter.all false
set_option maxRecDepth 100000
/-! Own layer: shown texts have signs of the alphabet alone (strOk). -/
namespace LT
open PySem PySem.Spec PyProof.Rows L2
end LT
set_option Elab.async false
set_option linter.all false
set_option maxRecDepth 100000
set_option maxHeartbeats 1600000
/-! Own layer: what every law of this program wants: names of defs, things handed in, pots, heaps that grow. -/
namespace LT
open PySem PySem.Spec PyProof.Rows L2 NdefX
/-- names that are still the built-in ones -/
structure Tx (mg : Str → Option Value) : Prop where
  isi : mg "isinstance" = none
  int : mg "int" = none
  bool : mg "bool" = none
  len : mg "len" = none
  abs : mg "abs" = none
  max : mg "max" = none
  min : mg "min" = none
  divmod : mg "divmod" = none
  range : mg "range" = none
  repr : mg "repr" = none
  zip : mg "zip" = none
  ve : mg "ValueError" = none
  all : mg "all" = none
  any : mg "any" = none
  sum : mg "sum" = none
  sorted : mg "sorted" = none
  list : mg "list" = none
  tuple : mg "tuple" = none
  dict : mg "dict" = none
  enumerate : mg "enumerate" = none
  reversed : mg "reversed" = none
  str : mg "str" = none
  set : mg "set" = none
/-- a def that stands as a name of the module -/
structure Has (K : PySem.W.Frag) (mg : Str → Option Value) (x : Str) (ps : List Str) (st : Stmt) (f : Addr) (fd : FuncData) : Prop where
  fn : Fun K x x st f fd
  bd : L2.Binds K fd ps []
  gl : mg x = some (.ref f)
/-- a method of the class at C -/
structure Mth (K : PySem.W.Frag) (C : Addr) (m q : Str) (ps : List Str) (st : Stmt) (f : Addr) (fd : FuncData) : Prop where
  fn : Fun K m q st f fd
  bd : L2.Binds K fd ps []
  me : Meth K C m f
/-- what is handed in -/
inductive Odd (H : Hp) : V → Prop
  | non : Odd H .non
  | bl (b : Bool) : Odd H (.bl b)
  | int (i : Int) : Odd H (.int i)
  | str (z : Str) : Odd H (.str z)
  | lst {a : Addr} {xs : List V} : H a = some (.lst xs) → Odd H (.ref a)
  | tup {a : Addr} {xs : List V} : H a = some (.tup xs) → Odd H (.ref a)
  | dK {a : Addr} {kvs : List (Key × V)} : H a = some (.dK kvs) → Odd H (.ref a)
theorem Odd.mono {H H' : Hp} (s : Same H H') {v : V} (h : Odd H v) : Odd H' v := by
  cases h with
  | non => exact .non
  | bl b => exact .bl b
  | int i => exact .int i
  | str z => exact .str z
  | lst e => exact .lst (s _ _ e)
  | tup e => exact .tup (s _ _ e)
  | dK e => exact .dK (s _ _ e)
def isInt : V → Bool
  | .int _ => true
  | .bl _ => true
  | _ => false
def isBl : V → Bool
  | .bl _ => true
  | _ => false
theorem Odd.ty {K : PySem.W.Frag} {H : Hp} {v : V} (h : Odd H v) : ∃ t, TyX K H v t ∧ PySem.W.kitOne K t (.type "int") = some (isInt v) ∧ PySem.W.kitOne K t (.type "bool") = some (isBl v) := by
  cases h with
  | non => exact ⟨_, .base .non, kit_ty (show kitB "NoneType" "int" = some false by decide +kernel), kit_ty (show kitB "NoneType" "bool" = some false by decide +kernel)⟩
  | bl b => exact ⟨_, .base (.bl b), kit_ty (show kitB "bool" "int" = some true by decide +kernel), kit_ty (show kitB "bool" "bool" = some true by decide +kernel)⟩
  | int i => exact ⟨_, .base (.int i), kit_ty (show kitB "int" "int" = some true by decide +kernel), kit_ty (show kitB "int" "bool" = some false by decide +kernel)⟩
  | str z => exact ⟨_, .base (.str z), kit_ty (show kitB "str" "int" = some false by decide +kernel), kit_ty (show kitB "str" "bool" = some false by decide +kernel)⟩
  | lst e => exact ⟨_, .base (.lst e), kit_ty (show kitB "list" "int" = some false by decide +kernel), kit_ty (show kitB "list" "bool" = some false by decide +kernel)⟩
  | tup e => exact ⟨_, .base (.tup e), kit_ty (show kitB "tuple" "int" = some false by decide +kernel), kit_ty (show kitB "tuple" "bool" = some false by decide +kernel)⟩
  | dK e => exact ⟨_, .base (.dK e), kit_ty (show kitB "dict" "int" = some false by decide +kernel), kit_ty (show kitB "dict" "bool" = some false by decide +kernel)⟩
def wholeB : V → Bool
  | .int _ => true
  | _ => false
theorem whole_eq (v : V) : (isInt v && !isBl v) = wholeB v := by cases v <;> rfl
def fromB : V → Int → Bool
  | .int i, l => decide (l ≤ i)
  | _, _ => false
def withinB : V → Int → Int → Bool
  | .int i, l, m => decide (l ≤ i) && decide (i ≤ m)
  | _, _, _ => false
theorem bool_false {b : Bool} (h : ¬ b = true) : b = false := by cases b <;> first | rfl | exact absurd rfl h
theorem same_upd {H : Hp} {p : Addr} {o : HO} (h : H p = none) : Same H (upd H p o) := fun b x e => by
  rw [upd_ne (ne_of_none e h)]
  exact e
theorem same_app {H H1 : Hp} {p : Addr} {o : HO} (h : H p = none) (s : Same H H1) : Same H (upd H1 p o) := fun b x e => by
  rw [upd_ne (ne_of_none e h)]
  exact s _ _ e
/-- a pot: two numbers -/
def Pot (H : Hp) (p : Addr) : Prop := ∃ a b : Int, H p = some (.lst [.int a, .int b]) ∧ 0 ≤ a ∧ 0 ≤ b ∧ b < 2147483647
/-- all but what stands at p is as it was -/
def SameB (p : Addr) (H H' : Hp) : Prop := ∀ b o, b ≠ p → H b = some o → H' b = some o
theorem SameB.trans {p : Addr} {H H1 H2 : Hp} (a : SameB p H H1) (b : SameB p H1 H2) : SameB p H H2 := fun c o n h => b c o n (a c o n h)
theorem SameB.of {p : Addr} {H H' : Hp} (s : Same H H') : SameB p H H' := fun b o _ e => s b o e
theorem SameB.upd {p : Addr} {H H' : Hp} {o : HO} (s : SameB p H H') : SameB p H (upd H' p o) := fun b x n e => by
  rw [upd_ne n]
  exact s b x n e
theorem SameB.new {p q : Addr} {H H' : Hp} {o : HO} (h : H q = none) (s : SameB p H H') : SameB p H (L2.upd H' q o) := fun b x n e => by
  rw [upd_ne (ne_of_none e h)]
  exact s b x n e
theorem Pot.ne {H : Hp} {p q : Addr} (h : Pot H p) (n : H q = none) : q ≠ p := fun e => by
  obtain ⟨a, b, e1, _⟩ := h
  rw [← e, n] at e1
  cases e1
theorem SameB.none {p q : Addr} {H H1 : Hp} (s : SameB p H H1) (h : Pot H1 p) (n : H1 q = none) : H q = none := by
  cases e : H q with
  | none => rfl
  | some o =>
    rw [s q o (h.ne n) e] at n
    cases n
theorem Pot.upd {H : Hp} {p q : Addr} {o : HO} (h : Pot H p) (n : q ≠ p) : Pot (L2.upd H q o) p := by
  obtain ⟨a, b, e, r⟩ := h
  exact ⟨a, b, by rw [upd_ne n.symm]; exact e, r⟩
theorem Pot.mono {H H' : Hp} {p : Addr} (h : Pot H p) (s : Same H H') : Pot H' p := by
  obtain ⟨a, b, e, r⟩ := h
  exact ⟨a, b, s _ _ e, r⟩
theorem ne_of_pot {H : Hp} {p q : Addr} {o : HO} (h : Pot H p) (e : H q = some o) (n : ∀ a b : Int, o ≠ .lst [.int a, .int b] := by intros; nofun) : q ≠ p := by
  obtain ⟨a, b, ep, _⟩ := h
  exact ne_of e ep (n a b)
theorem sameB_new {p : Addr} {H H1 H2 : Hp} (n : H p = none) (s : Same H H1) (b : SameB p H1 H2) : Same H H2 := fun c o e => b c o (ne_of_none e n) (s c o e)
theorem same_made {H : Hp} {x dx C : Addr} {o : HO} (nx : H x = none) (nd : H dx = none) : Same H (upd (upd H dx (.own x)) x o) := fun b z e => by
  rw [upd_ne (ne_of_none e nx), upd_ne (ne_of_none e nd)]
  exact e
/-- a list of one own error with its field: facts of the class and its __init__ -/
structure Nx (K : PySem.W.Frag) (P : Program) (mg : Str → Option Value) (st : Stmt) (nm q fld : Str) (CN fN cc c : Addr) (fdN : FuncData) : Prop where
  sup : SupC K P mg CN cc (nfI st q cc c) (arI st)
  lk : LkI K (nfI st q cc c) fN fdN
  hno : PySem.W.findIn K (.ref CN) fld = some none
  ini : PySem.W.findIn K (.ref CN) "__init__" = some (some (.ref fN))
  tI : PySem.W.typeIn K (.ref fN) = some (.type "function")
  bd : L2.Binds K fdN ["self", fld] []
  gl : mg nm = some (.ref CN)
/-! ### isinstance, in an except suite, of an error of any class -/
section
variable {X : Cx} {a : Addr} {oe : Obj} {cls : Value} {d : Option Addr}
/-- the error's dict stands -/
def HasD (d : Option Addr) (H : Hp) : Prop := d = none ∨ ∃ (dd : Addr) (fs : List (Str × V)), d = some dd ∧ H dd = some (.xd fs)
theorem HasD.mono {H H' : Hp} (h : HasD d H) (s : Same H H') : HasD d H' := by
  rcases h with h | ⟨dd, fs, e, h⟩
  · exact .inl h
  · exact .inr ⟨dd, fs, e, s _ _ h⟩
end
/-! ### things of all sorts, with their data -/
inductive Th (H : Hp) : V → PyData → Prop
  | non : Th H .non .none
  | bl (b : Bool) : Th H (.bl b) (.bool b)
  | int (i : Int) : i.natAbs ≤ 10 ^ 61 → Th H (.int i) (.int i)
  | str (z : Str) : (PyData.str z).showable = true → (PyData.str z).shown.length ≤ 1921 → PyData.strOk (PyData.str z).shown = true → Th H (.str z) (.str z)
  | lst {a : Addr} (n : Int) : n.natAbs ≤ 10 ^ 61 → H a = some (.lst [.int n]) → Th H (.ref a) (.list [.int n])
  | tup {a : Addr} (n : Int) : n.natAbs ≤ 10 ^ 61 → H a = some (.tup [.int n]) → Th H (.ref a) (.tuple [.int n])
  | dk {a : Addr} : H a = some (.dK []) → Th H (.ref a) (.dict [])
theorem lg61 {i : Int} (h : i.natAbs ≤ 10 ^ 61) : i.natAbs.log2 < 1920 := by
  rcases Nat.eq_zero_or_pos i.natAbs with z | z
  · rw [z]; decide
  · rw [Nat.log2_lt (by omega)]
    exact Nat.lt_of_le_of_lt h (by decide)
theorem tlen61 {i : Int} (h : i.natAbs ≤ 10 ^ 61) : (Str.ofString (toString i)).length ≤ 204 := by
  rw [PySem.ofString_length]
  rcases Nat.eq_zero_or_pos i.natAbs with z | z
  · rw [show i = 0 by omega]; decide
  · have : i.natAbs.log2 < 203 := by
      rw [Nat.log2_lt (by omega)]
      exact Nat.lt_of_le_of_lt h (by decide)
    exact Nat.le_trans (int_text_length_le (k := 203) (by decide) this) (by decide)
theorem Th.mono {H H' : Hp} {v : V} {d : PyData} (h : Th H v d) (s : Same H H') : Th H' v d := by
  cases h with
  | non => exact .non
  | bl b => exact .bl b
  | int i hi => exact .int i hi
  | str z a b c => exact .str z a b c
  | lst n hn e => exact .lst n hn (s _ _ e)
  | tup n hn e => exact .tup n hn (s _ _ e)
  | dk e => exact .dk (s _ _ e)
theorem Th.upd {H : Hp} {th : Addr} {v : V} {d : PyData} {xs : List V} {o : HO} (h : Th H v d) (ht : H th = some (.lst xs)) (hl : xs.length ≠ 1) : Th (L2.upd H th o) v d := by
  cases h with
  | non => exact .non
  | bl b => exact .bl b
  | int i hi => exact .int i hi
  | str z a b c => exact .str z a b c
  | lst n hn e => exact .lst n hn (by rw [upd_ne (ne_of e ht (by intro z; cases z; exact hl rfl))]; exact e)
  | tup n hn e => exact .tup n hn (by rw [upd_ne (ne_of e ht (by intro z; cases z))]; exact e)
  | dk e => exact .dk (by rw [upd_ne (ne_of e ht (by intro z; cases z))]; exact e)
theorem Th.sd {K : PySem.W.Frag} {H : Hp} {v : V} {d : PyData} (h : Th H v d) : Sd K H v d := by
  cases h with
  | non => exact .dp .non (by simp [PyData.hasDict])
  | bl b => exact .dp (.bl b) (by simp [PyData.hasDict])
  | int i hi => exact .dp (.int i) (by simp [PyData.hasDict])
  | str z a b c => exact .dp (.str _) (by simp [PyData.hasDict])
  | lst n hn e => exact .dp (.lst (SqL.of e) (.cons (.int n) .nil)) (by simp [PyData.hasDict, PyData.hasDictAll])
  | tup n hn e => exact .dp (.tup (SqT.of e) (.cons (.int n) .nil)) (by simp [PyData.hasDict, PyData.hasDictAll])
  | dk e => exact .ed e
theorem shown_one (n : Int) : (PyData.list [.int n]).shown = listText [Str.ofString (toString n)] ∧ (PyData.tuple [.int n]).shown = tupleText [Str.ofString (toString n)] := by
  constructor
  · simp only [PyData.shown, PyData.shownAll]
  · simp only [PyData.shown, PyData.shownAll]
theorem Th.fit {H : Hp} {v : V} {d : PyData} (h : Th H v d) : d.showable = true ∧ d.depth ≤ 1 ∧ d.shown.length ≤ 1921 := by
  cases h with
  | non => exact ⟨by simp [PyData.showable], by simp [PyData.depth], by decide +kernel⟩
  | bl b => cases b <;> exact ⟨by simp [PyData.showable], by simp [PyData.depth], by decide +kernel⟩
  | int i hi => exact ⟨by simpa [PyData.showable] using lg61 hi, by simp [PyData.depth], by simp only [PyData.shown]; exact Nat.le_trans (tlen61 hi) (by decide)⟩
  | str z a b c => exact ⟨a, by simp [PyData.depth], b⟩
  | lst n hn e =>
    refine ⟨by simpa [PyData.showable, PyData.showableAll] using lg61 hn, by simp [PyData.depth, PyData.depthAll], ?_⟩
    rw [(shown_one n).1]
    have := listText_len_le [Str.ofString (toString n)]
    have := tlen61 hn
    simp only [List.map_cons, List.map_nil, List.sum_cons, List.sum_nil, List.length_cons, List.length_nil] at *
    omega
  | tup n hn e =>
    refine ⟨by simpa [PyData.showable, PyData.showableAll] using lg61 hn, by simp [PyData.depth, PyData.depthAll], ?_⟩
    rw [(shown_one n).2]
    have := tupleText_len_le [Str.ofString (toString n)]
    have := tlen61 hn
    simp only [List.map_cons, List.map_nil, List.sum_cons, List.sum_nil, List.length_cons, List.length_nil] at *
    omega
  | dk e => exact ⟨by decide +kernel, by decide +kernel, by decide +kernel⟩
/-! ### xs.count(y), flat things -/
end LT
set_option Elab.async false
set_option linter.all false
set_option maxRecDepth 100000
/-! Own layer: ==, != of instances of a class with its own __eq__; repr, str of such; a method called by keywords. -/
namespace LT
open PySem PySem.Spec PyProof.Rows L2
/-! ### == by an own __eq__ -/
/-- what the class says of its __eq__ -/
structure EqC (K : PySem.W.Frag) (C f : Addr) : Prop where
  eq : PySem.W.findIn K (.ref C) "__eq__" = some (some (.ref f))
  fn : PySem.W.isFn K (.ref f) = true
  ne : PySem.W.findIn K (.ref C) "__ne__" = some (some (.builtin "object.__ne__"))
  ob : PySem.W.mroIn K C (.type "object") = some true
  sN : PySem.W.subIn K (.ref C) (.type "NoneType") = some false
  sB : PySem.W.subIn K (.ref C) (.type "bool") = some false
  sI : PySem.W.subIn K (.ref C) (.type "int") = some false
  sS : PySem.W.subIn K (.ref C) (.type "str") = some false
  sL : PySem.W.subIn K (.ref C) (.type "list") = some false
  sT : PySem.W.subIn K (.ref C) (.type "tuple") = some false
/-! ### x in [y], [y] == [x] -/
/-! ### the same over the layer -/
/-! ### the same, the answer told ahead, the heap as it was -/
/-! ### != by an own __eq__ -/
/-! ### o.m(k = v): a method by keywords alone, what is raised wished for at the slots -/
end LT
set_option Elab.async false
set_option linter.all false
set_option maxRecDepth 100000
set_option maxHeartbeats 1600000
/-! Own layer: enumerate, methods that raise in a try, what is new on the heap, lists of ints. -/
namespace LT
open PySem PySem.Spec PyProof.Rows L2
/-! ### enumerate -/
/-! ### o.m(e, ..), where what it raises is caught -/
/-! ### what is new -/
def new (H H' : Hp) : Hp := fun c => match H c with | none => H' c | some _ => none
theorem new_iff {H H' : Hp} {c : Addr} {o : HO} : new H H' c = some o ↔ H c = none ∧ H' c = some o := by
  unfold new
  cases h : H c with
  | none => simp
  | some x => simp
/-! ### one by place, one by its name -/
/-! ### lists of ints -/
end LT
set_option Elab.async false
set_option linter.all false
set_option maxRecDepth 100000
set_option maxHeartbeats 1600000
/-! Own layer: repr of an own thing whose __repr__ shows a list; a list of ints in an f-string; min of a list of pairs. -/
namespace LT
open PySem PySem.Spec PyProof.Rows L2
/-! ### min of a list of pairs of ints -/
theorem vals_ix : ∀ {vs : List V} {us : List Value}, Vals vs us → ∀ (i : Nat) {v : V} {u : Value}, vs[i]? = some v → us[i]? = some u → RelV v u
  | _, _, .cons r _, 0, _, _, hv, hu => by
    cases hv
    cases hu
    exact r
  | _, _, .cons _ t, i + 1, _, _, hv, hu => vals_ix t i hv hu
end LT
set_option Elab.async false
set_option linter.all false
set_option maxRecDepth 100000
set_option maxHeartbeats 1600000
/-! Own layer, numbers alone: how many are on in a slot; the slots where that may be least; even begins. -/
namespace LT
/-! ### sums -/
/-! ### even begins -/
end LT
set_option Elab.async false
set_option linter.all false
set_option maxRecDepth 100000
set_option maxHeartbeats 1600000
namespace LT
open PySem PySem.Spec PyProof.Rows L2
/-! ### the text of a list of ints -/
end LT
set_option Elab.async false
set_option linter.all false
set_option maxRecDepth 100000
set_option maxHeartbeats 1600000
set_option pp.maxSteps 700
/-! Own layer: a def that shows a list while something else is being shown; repr of a tuple that holds an own thing. -/
namespace LT
open PySem PySem.Spec PyProof.Rows L2
/-- a def that may ask what is being shown -/
structure FnGc (P : Program) (w : World) (K : PySem.W.Frag) (mg : Str → Option Value) (base : Heap)
    (CX : CXT) (k : Nat) (f : Addr) (fd : FuncData) (ps : List Str) (sp : List Code → Sp) : Prop where
  argc : ∀ {g : List Code} {vs : List V} {H : Hp} {Q : VK} {E : XK}, sp g vs H Q E → vs.length = ps.length
  go : ∀ {g : List Code} {A : Around} {outer : List Env} {s : Shared} {H : Hp} {args : Args} {us : List Value} {vs : List V}
    {Q : VK} {E : XK}, A.guards = some g → Room k A → Env0 P w K mg base A outer s H →
    BindsTo s fd args (ps.zip us) → Vals vs us → sp g vs H Q E →
    codeAny (model P w) A (.call (.ref f) args) (CR CX outer P w H s Q E) s
section
variable {P : Program} {w : World} {K : PySem.W.Frag} {mg : Str → Option Value} {base : Heap}
theorem FnGc.toG {CX : CXT} {k : Nat} {f : Addr} {fd : FuncData} {ps : List Str} {sp : List Code → Sp} (F : FnGc P w K mg base CX k f fd ps sp) : FnG P w K mg base CX k f fd ps (sp []) :=
  ⟨fun h => F.argc h, fun hg hr e b v h => F.go hg hr e b v h⟩
end
section
variable {X : Cx} {C f : Addr} {fd : FuncData} {ps : List Str} {sp : List Code → Sp} {n : Nat}
theorem run_strGc {g : List Code} {A : Around} {pins : List (Addr × Obj)} {σ : L2.St} {H : Hp} {s : Shared} {Q : VK} {a : Addr}
    (F : FnGc X.prog X.w X.K X.mg X.base CX0 n f fd ps sp) (hG : A.guards = some g) (sb : L2.Sub X n A) (hb : L2.Binds X.K fd ps []) (I : Inv X pins σ H s)
    (h : sp g [.ref a] H (fun z H' => ∃ t, z = .str t ∧ Q z H') E0) :
    wpAny (model X.prog X.w) A (call (.ref f) [.ref a]) (PySem.W.StrBack (EP X pins σ Q)) X.xe s := by
  have e0 : Env0 X.prog X.w X.K X.mg X.base A X.stack s H := by
    have e := I.env0
    exact ⟨by rw [sb.fr]; exact e.frames, e.mod, e.bs, e.bsz, e.funs, e.frf, e.hok, e.bare⟩
  have r2 : Vals [V.ref a] [Value.ref a] := .cons rfl .nil
  have hl := F.argc h
  have b := hb s [.ref a] I.kIn (by simpa using hl)
  rw [List.append_nil] at b
  refine wpAny_call (codeAny_mono (F.go (args := ⟨[.ref a], []⟩) (us := [.ref a]) hG sb.room e0 b r2 h) fun r s' hq => ?_)
  match r, hq with
  | .error _, hq => exact hq.elim
  | .ok .next, hq => exact hq.elim
  | .ok .brk, hq => exact hq.elim
  | .ok .cont, hq => exact hq.elim
  | .ok (.ret z), hq =>
    obtain ⟨z', H', I', rz, t, rfl, q⟩ := I.after hq
    obtain ⟨tk, rfl⟩ := rz
    exact ⟨.str t, H', I', ⟨tk, rfl⟩, q⟩
/-! ### {l} in an f-string, l a list of ints that is not being shown -/
end
section
variable {prog : Program} {w : World} {K : PySem.W.Frag} {A : Around} {E : Value → Shared → Prop} {s : Shared} {x C f : Addr} {ox : Obj} {od : Option Obj}
theorem boundBy_ownC {M : Model} {last : Value → List Value → Sem Value} {name : Str} {Q : Option Value → Shared → Prop} (X : K.In s.heap) (I : PySem.W.InstAt s.heap x ox C od)
    (hs : PySem.W.findIn K (.ref C) name = some (some (.ref f))) (hf : PySem.W.isFn K (.ref f) = true)
    (h : wpAny M A (last (.ref f) [.ref x]) (fun v => Q (some v)) E s) : wpAny M A (callSpecialIfBoundBy? last (.ref x) name) Q E s := by
  simp only [callSpecialIfBoundBy?, bindSpecialIfBound?]
  refine wpAny_holding (wpAny_bind (wpAny_bind (wpAny_bind (I.type.here ((PySem.W.looks_findIn X hs).here ?_)))))
  refine wpAny_bind (wpAny_askSetting (wpAny_ite ?_))
  have back : wpAny M A (last (.ref f) [.ref x] >>= fun v => pure (some v)) Q E s := wpAny_bind (wpAny_mono h (fun v s' z => wpAny_pure z) fun _ _ z => z)
  split
  · exact wpAny_bind ((PySem.W.bind_fn X _ (beq_iff_eq.mp hf)).here (wpAny_pure (by exact back)))
  · exact wpAny_tryCatch (wpAny_bind ((PySem.W.bind_fn X _ (beq_iff_eq.mp hf)).here (wpAny_pure (by exact back))))
theorem under_ownC {b : Nat} {Q : Str → Shared → Prop} (hb : b ≤ sizeLine) (hu : A.units < cLine) (X : K.In s.heap) (I : PySem.W.InstAt s.heap x ox C od)
    (hs : PySem.W.findIn K (.ref C) "__repr__" = some (some (.ref f))) (hf : PySem.W.isFn K (.ref f) = true)
    (h : wpAny (model prog w) A (call (.ref f) [.ref x]) (fun v s' => ∃ t u, v = .str t u ∧ Q t s') E s) : wpAny (model prog w) A (pyReprUnder b (.ref x)) Q E s := by
  refine wpAny_pyReprUnder_ref hb ?_
  unfold pyReprObjUnder pyReprObjBy
  refine wpAny_bind (wpAny_cRoomFor hu ?_)
  refine wpAny_bind (wpAny_bind (I.type.here ((PySem.W.looks_findIn X hs).here ?_)))
  show wpAny _ _ (if (some (Value.ref f)).isNone = true then _ else _) _ _ _
  rw [if_neg (by simp)]
  refine wpAny_bind (m := callSpecialIfBoundBy? _ (.ref x) (Str.ofString "__repr__")) (boundBy_ownC X I hs hf (wpAny_mono h (fun r s' hr => ?_) fun _ _ y => y))
  obtain ⟨t, u, rfl, q⟩ := hr
  exact wpAny_bind (wpAny_isInstance (typeIs_str _ _ _) isSubtype_str_str (wpAny_pure ⟨t, u, rfl, q⟩))
end
end LT
set_option Elab.async false
set_option linter.all false
set_option maxRecDepth 100000
set_option maxHeartbeats 1600000
set_option pp.maxSteps 700
/-! Own layer: repr of a list that holds own things and lists of ints; min of two pairs. -/
namespace LT
open PySem PySem.Spec PyProof.Rows L2
theorem sub_guardC {X : Cx} {n : Nat} {A : Around} (sb : L2.Sub X (n + 1) A) (args : Args) : L2.Sub X n (A.under (.builtin "list.__repr__.loop" args)) := by
  have hw : (Code.builtin "list.__repr__.loop" args).weight ≤ 1 := by
    show (Code.builtin "list.__repr__.loop" ⟨[], []⟩).weight ≤ 1
    decide +kernel
  have hc : (Code.builtin "list.__repr__.loop" args).cUnits ≤ 10 := by
    show (Code.builtin "list.__repr__.loop" ⟨[], []⟩).cUnits ≤ 10
    decide +kernel
  have he : (Code.builtin "list.__repr__.loop" args).envs = [] := rfl
  obtain ⟨⟨h1, h2, h3⟩, h4⟩ := sb
  refine ⟨⟨h1, ?_, ?_⟩, ?_⟩
  · show A.depth + _ + 3 * n + 5 < _
    omega
  · show A.units + _ + 16 * n + 200 < _
    omega
  · unfold Around.under
    simp [he, pushEnvs, h4]
/-! ### min of two pairs -/
end LT
set_option Elab.async false
set_option linter.all false
set_option maxRecDepth 100000
set_option maxHeartbeats 1600000
namespace LT
open PySem PySem.Spec PyProof.Rows L2 NdefX
/-! ### one of two readings -/
/-! ### len of an own thing -/
/-! ### an own thing made within a try -/
end LT
set_option Elab.async false
set_option linter.all false
set_option maxRecDepth 100000
set_option maxHeartbeats 1600000
set_option pp.maxSteps 700
/-! Own layer: repr of a tuple of three things, among them lists and tuples of things, and dicts. -/
namespace LT
open PySem PySem.Spec PyProof.Rows L2 NdefX
/-- a thing within a list -/
def Tn (H : Hp) (v : V) (d : PyData) : Prop := Th H v d ∧ d.hasDict = false
theorem Tn.mono {H H' : Hp} {v : V} {d : PyData} (h : Tn H v d) (s : Same H H') : Tn H' v d := ⟨h.1.mono s, h.2⟩
theorem Tn.dp {K : PySem.W.Frag} {H : Hp} {v : V} {d : PyData} (h : Tn H v d) : Dp K H v d := by
  cases h.1.sd (K := K) with
  | dp q _ => exact q
  | ed e => exact absurd h.2 (by simp [PyData.hasDict])
theorem Paired.map {α β : Type} {R S : α → β → Prop} (f : ∀ a b, R a b → S a b) : ∀ {xs : List α} {ys : List β}, Paired R xs ys → Paired S xs ys
  | _, _, .nil => .nil
  | _, _, .cons h r => .cons (f _ _ h) (Paired.map f r)
theorem tn_all {K : PySem.W.Frag} {H : Hp} : ∀ {vs : List V} {ds : List PyData}, Paired (Tn H) vs ds → DpAll K H vs ds
  | _, _, .nil => .nil
  | _, _, .cons h r => .cons h.dp (tn_all r)
theorem tn_no {H : Hp} : ∀ {vs : List V} {ds : List PyData}, Paired (Tn H) vs ds → PyData.hasDictAll ds = false
  | _, _, .nil => by simp [PyData.hasDictAll]
  | _, _, .cons h r => by simp [PyData.hasDictAll, h.2, tn_no r]
theorem tn_fit {H : Hp} : ∀ {vs : List V} {ds : List PyData}, Paired (Tn H) vs ds → PyData.showableAll ds = true ∧ PyData.depthAll ds ≤ 1 ∧ ((PyData.shownAll ds).map (·.length)).sum ≤ 1921 * vs.length ∧ (PyData.shownAll ds).length = vs.length
  | _, _, .nil => ⟨by simp [PyData.showableAll], by simp [PyData.depthAll], by simp [PyData.shownAll], by simp [PyData.shownAll]⟩
  | _, _, .cons h r => by
    obtain ⟨a, b, c⟩ := h.1.fit
    obtain ⟨a', b', c', d'⟩ := tn_fit r
    refine ⟨by simp [PyData.showableAll, a, a'], ?_, ?_, ?_⟩
    · simp only [PyData.depthAll]
      omega
    · simp only [PyData.shownAll, List.map_cons, List.sum_cons, List.length_cons]
      omega
    · simp only [PyData.shownAll, List.length_cons, d']
/-- what is handed to a round -/
inductive Sx (H : Hp) : V → PyData → Prop
  | th {v : V} {d : PyData} : Th H v d → Sx H v d
  | lst {a : Addr} {xs : List V} {ds : List PyData} : H a = some (.lst xs) → xs.length ≤ 100 → Paired (Tn H) xs ds → Sx H (.ref a) (.list ds)
  | tup {a : Addr} {xs : List V} {ds : List PyData} : H a = some (.tup xs) → xs.length ≤ 100 → Paired (Tn H) xs ds → Sx H (.ref a) (.tuple ds)
  | zz {a : Addr} : H a = some (.dK [(.inl 0, .int 0)]) → Sx H (.ref a) (.dict [(.int 0, .int 0)])
theorem Sx.mono {H H' : Hp} {v : V} {d : PyData} (h : Sx H v d) (s : Same H H') : Sx H' v d := by
  cases h with
  | th h => exact .th (h.mono s)
  | lst e l p => exact .lst (s _ _ e) l (Paired.map (fun _ _ h => h.mono s) p)
  | tup e l p => exact .tup (s _ _ e) l (Paired.map (fun _ _ h => h.mono s) p)
  | zz e => exact .zz (s _ _ e)
theorem Sx.fit {H : Hp} {v : V} {d : PyData} (h : Sx H v d) : d.showable = true ∧ d.depth ≤ 2 ∧ d.shown.length ≤ 200000 := by
  cases h with
  | th h =>
    obtain ⟨a, b, c⟩ := h.fit
    exact ⟨a, by omega, by omega⟩
  | lst e l p =>
    rename_i xs ds
    obtain ⟨a, b, c, d⟩ := tn_fit p
    refine ⟨by simpa [PyData.showable] using a, by simp only [PyData.depth]; omega, ?_⟩
    have := listText_len_le (PyData.shownAll ds)
    simp only [PyData.shown]
    omega
  | tup e l p =>
    rename_i xs ds
    obtain ⟨a, b, c, d⟩ := tn_fit p
    refine ⟨by simpa [PyData.showable] using a, by simp only [PyData.depth]; omega, ?_⟩
    have := tupleText_len_le (PyData.shownAll ds)
    simp only [PyData.shown]
    omega
  | zz e => exact ⟨by decide +kernel, by decide +kernel, by decide +kernel⟩
section
variable {X : Cx} {pins : List (Addr × Obj)} {σ : L2.St} {H : Hp} {s : Shared}
theorem Sx.reads (I : Inv X pins σ H s) {v : V} {d : PyData} {u : Value} (h : Sx H v d) (r : RelV v u) :
    ∃ as, Reads s.heap u d as ∧ (d.hasDict = true → sysModules ∉ as) := by
  cases h with
  | th h => exact (h.sd (K := X.K)).reads I r
  | lst e l p =>
    have hd : Dp X.K H _ _ := .lst (SqL.of e) (tn_all p)
    obtain ⟨as, q⟩ := Dp.reads I _ _ u hd r
    exact ⟨as, q, PyData.noDict_hsm (by simpa [PyData.hasDict] using tn_no p)⟩
  | tup e l p =>
    have hd : Dp X.K H _ _ := .tup (SqT.of e) (tn_all p)
    obtain ⟨as, q⟩ := Dp.reads I _ _ u hd r
    exact ⟨as, q, PyData.noDict_hsm (by simpa [PyData.hasDict] using tn_no p)⟩
  | zz h =>
    rename_i a
    cases r
    obtain ⟨_, hs, vs, rel, o, es, ep, ho, hx, hd, hko, hp, hn⟩ := I.hok a _ h
    cases rel with
    | cons r1 r2 =>
      cases r2
      rename_i kv
      obtain ⟨kk, uu⟩ := kv
      obtain ⟨e1, t, e2⟩ := r1
      cases e1
      cases e2
      generalize hes : es.toList = l at hp
      cases hp with
      | cons k1 k2 k3 =>
        cases k3
        rename_i e
        have k0 : keyIs (Sum.inl 0) e.key = true := k1
        obtain ⟨y, t', z, e3⟩ | ⟨_, _, z, _⟩ := keyIs_shape k0
        · cases z
          refine ⟨_, Reads.dict (as := []) (bs := []) ho hx.1 hd ?_ ?_, fun _ z => ?_⟩
          · rw [hes, List.map_cons, List.map_nil, e3]
            exact ReadsAll.cons (Reads.int _ _) .nil
          · rw [hes, List.map_cons, List.map_nil, k2]
            exact ReadsAll.cons (Reads.int _ _) .nil
          · have z2 : sysModules = a := by simpa using z
            rw [z2] at hs
            simp at hs
        · cases z
theorem Sx.all (I : Inv X pins σ H s) : ∀ {vs : List V} {ds : List PyData} {us : List Value}, Paired (Sx H) vs ds → Vals vs us →
    ∃ as bs, ReadsAll s.heap us ds as ∧ ReadAtMost s.heap (PyData.depthAll ds) bs ∧ ReprAllK X.prog X.w bs s.heap (PyData.depthAll ds) us (PyData.shownAll ds)
  | _, _, _, .nil, r => by
    cases r
    exact ⟨_, [], .nil, (fun _ h => nomatch h), by simp only [PyData.shownAll]; exact .nil⟩
  | _ :: _, d :: ds, _, .cons h hs, r => by
    cases r with
    | cons r1 r2 =>
      obtain ⟨f1, f2, f3⟩ := h.fit
      obtain ⟨as, q1, n1⟩ := h.reads I r1
      obtain ⟨b1, hb1, k1⟩ := ReprK.of_reads (prog := X.prog) (w := X.w) q1 f1 n1 (by rw [sizeLine_eq]; omega)
      obtain ⟨bs, b2, q2, hb2, k2⟩ := Sx.all I hs r2
      refine ⟨_, b1 ++ b2, .cons q1 q2, ?_, ?_⟩
      · simp only [PyData.depthAll]
        exact (hb1.mono (Nat.le_max_left _ _)).append (hb2.mono (Nat.le_max_right _ _))
      · simp only [PyData.depthAll, PyData.shownAll]
        exact .cons ((k1.more fun b hb => List.mem_append_left _ hb).level_le (Nat.le_max_left _ _)) (k2.more_le (fun b hb => List.mem_append_right _ hb) (Nat.le_max_right _ _))
end
end LT
set_option Elab.async false
set_option linter.all false
set_option maxRecDepth 100000
set_option maxHeartbeats 1600000
/-! Own layer: what the top of a program has left, put by name, for any law (tools/g.py writes the list of it). -/
namespace LT
open PySem PySem.Spec PyProof.Rows L2 NdefX
/-- an own class -/
structure ClF (K : PySem.W.Frag) (mg : Str → Option Value) (x : Str) (C : Addr) : Prop where
  cl : Cls K C
  gl : mg x = some (.ref C)
  kp : PySem.W.keepIn K (.ref C) = true
/-- isinstance of an own thing -/
structure IsC (K : PySem.W.Frag) (C : Addr) : Prop where
  ha : PySem.W.findIn K (.ref C) "__class__" = some (some (.builtin "object.__class__"))
  hn : PySem.W.specialIn K (.builtin "object.__class__") "__get__" = some (some (.builtin "getset_descriptor.__get__"))
  ht : PySem.W.takesIn K (.builtin "object.__class__") = some true
  hm : PySem.W.mroIn K C (.type "object") = some true
  own : PySem.W.kitOne K (.ref C) (.ref C) = some true
  bt : ∀ T ∈ ["NoneType", "bool", "int", "str", "list", "tuple", "dict"], PySem.W.kitOne K (.type T) (.ref C) = some false
theorem kit_self {K : PySem.W.Frag} {a : Addr} : PySem.W.kitOne K (.ref a) (.ref a) = some true := if_pos (c := ((Value.ref a) == (Value.ref a)) = true) (beq_self_eq_true (Value.ref a))
theorem cls_of {K : PySem.W.Frag} {t : Value} {C : Addr} {b : Bool} (i : PySem.W.isClsIn K C = true) (ty : PySem.W.typeIn K (.ref C) = some (.type "type")) (s : PySem.W.subIn K t (.ref C) = some b) : PySem.W.kitCls K t (.ref C) = some b := by
  have i' : (PySem.W.clsIn K C).isSome = true := i
  show (if ((PySem.W.clsIn K C).isSome && PySem.W.typeIn K (.ref C) == some (.type "type")) = true then PySem.W.subIn K t (.ref C) else none) = some b
  rw [i', ty]
  exact s
theorem kit_no {K : PySem.W.Frag} {t : Value} {C : Addr} (i : PySem.W.isClsIn K C = true) (ty : PySem.W.typeIn K (.ref C) = some (.type "type")) (s : PySem.W.subIn K t (.ref C) = some false) (q : (t == .ref C) = false) : PySem.W.kitOne K t (.ref C) = some false := by
  unfold PySem.W.kitOne
  rw [q]
  exact cls_of i ty s
/-! ### what the top has left -/
structure Left (K : PySem.W.Frag) (x : Str) (st : Stmt) (f : Addr) (oc : Value) (od an : Option Addr) (kV dc pm cd ct : Value) (sl : Array (Option Value)) : Prop where
  ns : PySem.W.nsIn K mainGlobals x = some (some (.ref f))
  lk : K.lookup f = some ⟨oc, od, .func (PySem.W.fnOf x x (defArgs st) (defBody st) (defScope st) .none kV dc pm an cd ct), sl⟩
  cd : PySem.W.codeIn K cd x = true
  kp : PySem.W.keepIn K (.ref f) = true
theorem Left.fn {K : PySem.W.Frag} {x : Str} {st : Stmt} {f : Addr} {oc : Value} {od an : Option Addr} {kV dc pm cd ct : Value} {sl : Array (Option Value)} (h : Left K x st f oc od an kV dc pm cd ct sl) :
    Fun K x x st f (PySem.W.fnOf x x (defArgs st) (defBody st) (defScope st) .none kV dc pm an cd ct) := fun_mk h.lk h.cd h.kp
structure LeftM (K : PySem.W.Frag) (C : Addr) (x q : Str) (st : Stmt) (f : Addr) (oc : Value) (od an : Option Addr) (kV dc pm cd ct : Value) (sl : Array (Option Value)) : Prop where
  at_ : PySem.W.findIn K (.ref C) x = some (some (.ref f))
  lk : K.lookup f = some ⟨oc, od, .func (PySem.W.fnOf x q (defArgs st) (defBody st) (defScope st) .none kV dc pm an cd ct), sl⟩
  cd : PySem.W.codeIn K cd q = true
  kp : PySem.W.keepIn K (.ref f) = true
  isf : PySem.W.isFn K (.ref f) = true
theorem LeftM.fn {K : PySem.W.Frag} {C : Addr} {x q : Str} {st : Stmt} {f : Addr} {oc : Value} {od an : Option Addr} {kV dc pm cd ct : Value} {sl : Array (Option Value)} (h : LeftM K C x q st f oc od an kV dc pm cd ct sl) :
    Fun K x q st f (PySem.W.fnOf x q (defArgs st) (defBody st) (defScope st) .none kV dc pm an cd ct) := fun_mk h.lk h.cd h.kp
theorem LeftM.me {K : PySem.W.Frag} {C : Addr} {x q : Str} {st : Stmt} {f : Addr} {oc : Value} {od an : Option Addr} {kV dc pm cd ct : Value} {sl : Array (Option Value)} (h : LeftM K C x q st f oc od an kV dc pm cd ct sl) :
    Meth K C x f := ⟨h.at_, h.isf, h.kp⟩
/-- a method with defaults -/
structure LeftMD (K : PySem.W.Frag) (C : Addr) (x q : Str) (st : Stmt) (va : Array Value) (f T : Addr) (oc : Value) (od an : Option Addr) (kV dc pm cd ct : Value) (sl : Array (Option Value)) (oT : Value) (dT : Option Addr) (nT : Nat) (sT : Array (Option Value)) : Prop where
  at_ : PySem.W.findIn K (.ref C) x = some (some (.ref f))
  lk : K.lookup f = some ⟨oc, od, .func (PySem.W.fnOf x q (defArgs st) (defBody st) (defScope st) (.ref T) kV dc pm an cd ct), sl⟩
  cd : PySem.W.codeIn K cd q = true
  kp : PySem.W.keepIn K (.ref f) = true
  isf : PySem.W.isFn K (.ref f) = true
  lT : K.lookup T = some ⟨oT, dT, .seq va nT, sT⟩
end LT
set_option Elab.async false
set_option linter.all false
set_option maxRecDepth 100000
set_option maxHeartbeats 1600000
/-! Own layer: x != y, x an own thing with __eq__, y any thing. -/
namespace LT
open PySem PySem.Spec PyProof.Rows L2 NdefX
end LT
set_option Elab.async false
set_option linter.all false
set_option maxRecDepth 100000
set_option maxHeartbeats 1600000
/-! Own layer: slices as take and drop. -/
namespace LT
open PySem PySem.Spec PyProof.Rows L2 NdefX
theorem sIx_pos {n d : Nat} {i : Int} (h : 0 ≤ i) : HT.sIx n d (some i) = min i.toNat n := by
  show (if i < 0 then (i + (n : Int)).toNat else min i.toNat n) = min i.toNat n
  rw [if_neg (by omega)]
end LT
set_option Elab.async false
set_option linter.all false
set_option maxRecDepth 100000
set_option maxHeartbeats 1600000
/-! Own layer: dicts as lists of pairs of keys and worths of any kind; walks over locked dicts. -/
namespace LT
open PySem PySem.Spec PyProof.Rows L2 NdefX
section
variable {κ α : Type} [DecidableEq κ]
def getA (kvs : List (κ × α)) (k : κ) : Option α := (kvs.find? fun p => decide (p.1 = k)).map (·.2)
def putA (kvs : List (κ × α)) (k : κ) (v : α) : List (κ × α) := if (kvs.any fun p => decide (p.1 = k)) = true then kvs.map (fun p => if p.1 = k then (p.1, v) else p) else kvs ++ [(k, v)]
def enA (g : κ → Key) (f : α → V) (kvs : List (κ × α)) : List (Key × V) := kvs.map fun p => (g p.1, f p.2)
theorem enA_len (g : κ → Key) (f : α → V) (kvs : List (κ × α)) : (enA g f kvs).length = kvs.length := List.length_map ..
theorem getA_nil {k : κ} : getA ([] : List (κ × α)) k = none := rfl
theorem getA_pos {p : κ × α} {r : List (κ × α)} {k : κ} (e : p.1 = k) : getA (p :: r) k = some p.2 := by simp [getA, List.find?_cons, e]
theorem getA_neg {p : κ × α} {r : List (κ × α)} {k : κ} (e : ¬ p.1 = k) : getA (p :: r) k = getA r k := by simp [getA, List.find?_cons, e]
theorem getA_any (k : κ) : ∀ kvs : List (κ × α), (kvs.any fun p => decide (p.1 = k)) = (getA kvs k).isSome
  | [] => rfl
  | p :: r => by
    rw [List.any_cons]
    by_cases e : p.1 = k
    · rw [decide_eq_true e, getA_pos e]; rfl
    · rw [decide_eq_false e, getA_neg e, getA_any k r]; rfl
theorem getA_none_iff {k : κ} : ∀ {kvs : List (κ × α)}, getA kvs k = none ↔ k ∉ kvs.map (·.1)
  | [] => by simp [getA_nil]
  | p :: r => by
    by_cases e : p.1 = k
    · rw [getA_pos e]; simp [e]
    · rw [getA_neg e, getA_none_iff, List.map_cons, List.mem_cons]
      constructor
      · intro h h2
        rcases h2 with rfl | h2
        · exact e rfl
        · exact h h2
      · exact fun h h2 => h (.inr h2)
theorem getA_mem {k : κ} {v : α} : ∀ {kvs : List (κ × α)}, getA kvs k = some v → (k, v) ∈ kvs
  | [], h => nomatch h
  | p :: r, h => by
    by_cases e : p.1 = k
    · rw [getA_pos e] at h
      cases h
      subst e
      exact List.mem_cons_self
    · rw [getA_neg e] at h
      exact List.mem_cons_of_mem _ (getA_mem h)
theorem getA_of_mem {k : κ} {v : α} : ∀ {kvs : List (κ × α)}, (kvs.map (·.1)).Nodup → (k, v) ∈ kvs → getA kvs k = some v
  | [], _, h => nomatch h
  | p :: r, nd, h => by
    rw [List.map_cons, List.nodup_cons] at nd
    rcases List.mem_cons.mp h with rfl | h
    · exact getA_pos rfl
    · rw [getA_neg (fun e => nd.1 (e ▸ List.mem_map.mpr ⟨_, h, rfl⟩))]
      exact getA_of_mem nd.2 h
theorem val_en {g : κ → Key} {f : α → V} (hg : ∀ a b, g a = g b → a = b) (k : κ) : ∀ kvs : List (κ × α), valV (enA g f kvs) (g k) = (getA kvs k).map f
  | [] => rfl
  | p :: r => by
    show valV ((g p.1, f p.2) :: enA g f r) (g k) = _
    by_cases e : p.1 = k
    · rw [valV_pos (by rw [e]), getA_pos e]; rfl
    · rw [valV_neg (fun z => e (hg _ _ z)), getA_neg e, val_en hg k r]
theorem put_en {g : κ → Key} {f : α → V} (hg : ∀ a b, g a = g b → a = b) (kvs : List (κ × α)) (k : κ) (v : α) : putK (enA g f kvs) (g k) (f v) = enA g f (putA kvs k v) := by
  have e : ((enA g f kvs).any fun kv => decide (kv.1 = g k)) = (kvs.any fun p => decide (p.1 = k)) := by
    rw [valV_any, val_en hg, getA_any]
    cases getA kvs k <;> rfl
  unfold putK putA
  rw [e]
  split
  · unfold enA
    rw [List.map_map, List.map_map]
    refine List.map_congr_left fun p _ => ?_
    show (if g p.1 = g k then (g p.1, f v) else (g p.1, f p.2)) = (g (if p.1 = k then (p.1, v) else p).1, f (if p.1 = k then (p.1, v) else p).2)
    by_cases h : p.1 = k
    · rw [if_pos (by rw [h]), if_pos h]
    · rw [if_neg (fun z => h (hg _ _ z)), if_neg h]
  · unfold enA
    rw [List.map_append]
    rfl
theorem putA_new {kvs : List (κ × α)} {k : κ} {v : α} (h : getA kvs k = none) : putA kvs k v = kvs ++ [(k, v)] := by
  unfold putA
  rw [getA_any, h]
  rfl
theorem getA_app {k : κ} : ∀ {q rs : List (κ × α)}, k ∉ q.map (·.1) → getA (q ++ rs) k = getA rs k
  | [], _, _ => rfl
  | p :: q, rs, h => by
    rw [List.map_cons, List.mem_cons, not_or] at h
    rw [List.cons_append, getA_neg (fun e => h.1 e.symm), getA_app h.2]
theorem getA_map (k j : κ) (y : α) : ∀ kvs : List (κ × α), getA (kvs.map fun p => if p.1 = k then (p.1, y) else p) j = (getA kvs j).map fun x => if j = k then y else x
  | [] => rfl
  | p :: r => by
    rw [List.map_cons]
    by_cases e : p.1 = k
    · rw [if_pos e]
      by_cases h : p.1 = j
      · rw [getA_pos (p := (p.1, y)) h, getA_pos h, Option.map_some, if_pos (by rw [← h, e])]
      · rw [getA_neg (p := (p.1, y)) h, getA_neg h, getA_map k j y r]
    · rw [if_neg e]
      by_cases h : p.1 = j
      · rw [getA_pos h, getA_pos h, Option.map_some, if_neg (fun z => e (h.trans z))]
      · rw [getA_neg h, getA_neg h, getA_map k j y r]
theorem getA_put (kvs : List (κ × α)) (k j : κ) (y : α) : getA (putA kvs k y) j = if j = k then some y else getA kvs j := by
  by_cases h : getA kvs k = none
  · rw [putA_new h]
    by_cases e : j = k
    · rw [if_pos e, e, getA_app (getA_none_iff.mp h), getA_pos rfl]
    · rw [if_neg e]
      by_cases hj : getA kvs j = none
      · rw [getA_app (getA_none_iff.mp hj), getA_neg (fun z => e z.symm), hj]; rfl
      · obtain ⟨v, hv⟩ := Option.ne_none_iff_exists'.mp hj
        rw [hv]
        clear h hj
        induction kvs with
        | nil => cases hv
        | cons p r ih =>
          by_cases hp : p.1 = j
          · rw [getA_pos hp] at hv
            rw [List.cons_append, getA_pos hp, hv]
          · rw [getA_neg hp] at hv
            rw [List.cons_append, getA_neg hp, ih hv]
  · obtain ⟨v, hv⟩ := Option.ne_none_iff_exists'.mp h
    unfold putA
    rw [getA_any, hv]
    simp only [Option.isSome_some, if_true]
    rw [getA_map]
    by_cases e : j = k
    · rw [if_pos e, e, hv]; simp
    · rw [if_neg e]
      cases getA kvs j <;> simp [e]
theorem keys_put {kvs : List (κ × α)} {k : κ} {v : α} : (putA kvs k v).map (·.1) = if k ∈ kvs.map (·.1) then kvs.map (·.1) else kvs.map (·.1) ++ [k] := by
  by_cases h : k ∈ kvs.map (·.1)
  · rw [if_pos h]
    unfold putA
    rw [if_pos]
    · rw [List.map_map]
      refine List.map_congr_left fun p _ => ?_
      show (if p.1 = k then (p.1, v) else p).1 = p.1
      split <;> rfl
    · obtain ⟨p, hp, rfl⟩ := List.mem_map.mp h
      exact List.any_eq_true.mpr ⟨p, hp, decide_eq_true rfl⟩
  · rw [if_neg h, putA_new (getA_none_iff.mpr h), List.map_append]
    rfl
theorem nodup_put {kvs : List (κ × α)} {k : κ} {v : α} (h : (kvs.map (·.1)).Nodup) : ((putA kvs k v).map (·.1)).Nodup := by
  rw [keys_put]
  split
  · exact h
  · rename_i hk
    rw [List.nodup_append]
    refine ⟨h, List.nodup_cons.mpr ⟨nofun, List.nodup_nil⟩, fun a ha b hb => ?_⟩
    rw [List.mem_singleton.mp hb]
    rintro rfl
    exact hk ha
theorem putA_len {kvs : List (κ × α)} {k : κ} {v : α} : (putA kvs k v).length ≤ kvs.length + 1 := by
  unfold putA
  split
  · rw [List.length_map]; omega
  · rw [List.length_append]; exact Nat.le_refl _
theorem mem_put {kvs : List (κ × α)} {k : κ} {v : α} {p : κ × α} (h : p ∈ putA kvs k v) : p = (k, v) ∨ p ∈ kvs := by
  unfold putA at h
  split at h
  · obtain ⟨q, hq, rfl⟩ := List.mem_map.mp h
    by_cases e : q.1 = k
    · rw [if_pos e]; exact .inl (by rw [e])
    · rw [if_neg e]; exact .inr hq
  · rcases List.mem_append.mp h with h | h
    · exact .inr h
    · exact .inl (List.mem_singleton.mp h)
end
theorem inr_inj : ∀ a b : Str, (Sum.inr a : Key) = Sum.inr b → a = b := fun _ _ e => Sum.inr.inj e
theorem inl_inj : ∀ a b : Int, (Sum.inl a : Key) = Sum.inl b → a = b := fun _ _ e => Sum.inl.inj e
/-- a statement that lets nothing out -/
theorem PS.nox {X : Cx} {st : Stmt} {t : TS} (h : PS X.nox st t) : PS X st t := ⟨fun pins s σ H D I hw =>
  wpAny_mono (h.run pins s σ H D (I.wish _) hw) (fun _ _ q => q.unwish) fun _ _ z => False.elim z⟩
/-- two ways joined -/
theorem joinA {α : Type} {J : α → Hp → Prop} {sl : α → L2.St} {rest : L2.St → Hp → Prop} {goal : Prop} (k : (∀ a Hx, J a Hx → rest (sl a) Hx) → goal) (h : ∀ a Hx, J a Hx → rest (sl a) Hx) : goal := k h
/-! ### walks over locked dicts -/
theorem lock_back {H Hx : Hp} {d : Addr} {u : HO} {od : Obj} (hd : H d = some u) (s : Same (upd H d (.frz od u)) Hx) : Same H (upd Hx d u) := fun b o e => by
  by_cases hb : b = d
  · subst hb
    rw [upd_same, ← e, hd]
  · rw [upd_ne hb]
    exact s _ _ (by rw [upd_ne hb]; exact e)
theorem dget_frz {H : Hp} {a : Addr} {kvs : List (Key × V)} {k : Key} {od : Obj} (e : H a = some (.frz od (.dK kvs))) : DGet H a (kV k) (valV kvs k) := .inl ⟨kvs, k, .inr ⟨od, e⟩, rfl, rfl⟩
end LT
set_option Elab.async false
set_option linter.all false
set_option maxRecDepth 100000
set_option maxHeartbeats 1600000
/-! Own layer: sum(d.values()); names; stores (a dict from names to weights). -/
namespace LT
open PySem PySem.Spec PyProof.Rows L2 NdefX
/-! ### sum(d.values()) -/
/-! ### names -/
def small (c : Nat) : Bool := decide (97 ≤ c) && decide (c ≤ 122)
def nameB : V → Bool
  | .str z => decide (1 ≤ z.length) && decide (z.length ≤ 8) && z.cps.toList.all small
  | _ => false
theorem letters : (Str.ofString "abcdefghijklmnopqrstuvwxyz").cps.toList = List.range' 97 26 := by decide +kernel
theorem small_mem (c : Nat) : decide (c ∈ (Str.ofString "abcdefghijklmnopqrstuvwxyz").cps.toList) = small c := by
  rw [letters]
  unfold small
  rw [Bool.eq_iff_iff, decide_eq_true_iff, List.mem_range'_1, Bool.and_eq_true, decide_eq_true_iff, decide_eq_true_iff]
  omega
theorem take_more {α β : Type} (f : α → β) {xs : List α} {i : Nat} {x : α} (h : xs[i]? = some x) : (xs.take i).map f ++ [f x] = (xs.take (i + 1)).map f := by
  rw [List.take_add_one, h, List.map_append]
  rfl
theorem joinL_nil : ∀ l : List (List Nat), TL.joinL [] l = l.flatten
  | [] => rfl
  | [p] => by simp [TL.joinL]
  | p :: q :: r => by
    show p ++ ([] ++ TL.joinL [] (q :: r)) = _
    rw [joinL_nil (q :: r)]
    rfl
theorem join_codes (ys : List Str) : (Txt.join (Str.ofString "") ys).cps.toList = (ys.map fun y => y.cps.toList).flatten := by
  rw [TL.join_eq]
  have h := TL.tl_join (Str.ofString "") ys
  have e : TL.tl (Str.ofString "") = [] := by decide +kernel
  rw [e, joinL_nil] at h
  exact h
theorem flat_len : ∀ (ys : List Str), (∀ y ∈ ys, y.length = 1) → (ys.map fun y => y.cps.toList).flatten.length = ys.length
  | [], _ => rfl
  | y :: ys, h => by
    rw [List.map_cons, List.flatten_cons, List.length_append, flat_len ys fun z hz => h z (List.mem_cons_of_mem _ hz), Array.length_toList, List.length_cons]
    have : y.cps.size = 1 := h y List.mem_cons_self
    omega
theorem sum_len : ∀ (ys : List Str), (∀ y ∈ ys, y.length = 1) → (ys.map fun y => y.length).sum = ys.length
  | [], _ => rfl
  | y :: ys, h => by
    rw [List.map_cons, List.sum_cons, sum_len ys fun z hz => h z (List.mem_cons_of_mem _ hz), h y List.mem_cons_self, List.length_cons]
    omega
/-- a name -/
structure Nm (z : Str) : Prop where
  l1 : 1 ≤ z.length
  l8 : z.length ≤ 8
  al : ∀ c ∈ z.cps.toList, small c = true
theorem Nm.b {z : Str} (h : Nm z) : nameB (.str z) = true := by
  show (decide (1 ≤ z.length) && decide (z.length ≤ 8) && z.cps.toList.all small) = true
  rw [decide_eq_true h.l1, decide_eq_true h.l8, List.all_eq_true.mpr h.al]
  rfl
/-! ### stores -/
def sd (kvs : List (Str × Int)) : List (Key × V) := kvs.map fun p => (Sum.inr p.1, V.int p.2)
def wsum (kvs : List (Str × Int)) : Int := (kvs.map (·.2)).sum
structure Kv (kvs : List (Str × Int)) : Prop where
  nd : (kvs.map (·.1)).Nodup
  nm : ∀ p ∈ kvs, Nm p.1
  w1 : ∀ p ∈ kvs, 1 ≤ p.2
  w2 : ∀ p ∈ kvs, p.2 ≤ 10 ^ 70
theorem sd_len (kvs : List (Str × Int)) : (sd kvs).length = kvs.length := List.length_map ..
def putS (kvs : List (Str × Int)) (z : Str) (w : Int) : List (Str × Int) := if z ∈ kvs.map (·.1) then kvs.map fun p => if p.1 = z then (p.1, w) else p else kvs ++ [(z, w)]
theorem Kv.put {kvs : List (Str × Int)} {z : Str} {w : Int} (h : Kv kvs) (hz : Nm z) (h1 : 1 ≤ w) (h2 : w ≤ 10 ^ 70) : Kv (putS kvs z w) ∧ (putS kvs z w).length ≤ kvs.length + 1 := by
  unfold putS
  by_cases hm : z ∈ kvs.map (·.1)
  · rw [if_pos hm]
    have ek : (kvs.map fun p => if p.1 = z then (p.1, w) else p).map (·.1) = kvs.map (·.1) := by
      rw [List.map_map]
      refine List.map_congr_left fun p _ => ?_
      show (if p.1 = z then (p.1, w) else p).1 = p.1
      split <;> rfl
    have mem : ∀ q ∈ (kvs.map fun p => if p.1 = z then (p.1, w) else p), (∃ p ∈ kvs, q.1 = p.1) ∧ (q.2 = w ∨ q ∈ kvs) := by
      intro q hq
      obtain ⟨p, hp, rfl⟩ := List.mem_map.mp hq
      by_cases e : p.1 = z
      · rw [if_pos e]
        exact ⟨⟨p, hp, rfl⟩, .inl rfl⟩
      · rw [if_neg e]
        exact ⟨⟨p, hp, rfl⟩, .inr hp⟩
    refine ⟨⟨by rw [ek]; exact h.nd, fun q hq => ?_, fun q hq => ?_, fun q hq => ?_⟩, by rw [List.length_map]; omega⟩
    · obtain ⟨⟨p, hp, e⟩, _⟩ := mem q hq
      rw [e]
      exact h.nm p hp
    · rcases (mem q hq).2 with e | e
      · omega
      · exact h.w1 q e
    · rcases (mem q hq).2 with e | e
      · omega
      · exact h.w2 q e
  · rw [if_neg hm]
    refine ⟨⟨?_, fun q hq => ?_, fun q hq => ?_, fun q hq => ?_⟩, by rw [List.length_append]; exact Nat.le_refl _⟩
    · rw [List.map_append]
      refine List.nodup_append.mpr ⟨h.nd, by simp, fun a ha b hb e => ?_⟩
      have e2 : b = z := by simpa using hb
      rw [e, e2] at ha
      exact hm ha
    · rcases List.mem_append.mp hq with e | e
      · exact h.nm q e
      · rw [List.mem_singleton.mp e]; exact hz
    · rcases List.mem_append.mp hq with e | e
      · exact h.w1 q e
      · rw [List.mem_singleton.mp e]; exact h1
    · rcases List.mem_append.mp hq with e | e
      · exact h.w2 q e
      · rw [List.mem_singleton.mp e]; exact h2
theorem Kv.nil : Kv [] := ⟨List.nodup_nil, (fun _ h => nomatch h), (fun _ h => nomatch h), (fun _ h => nomatch h)⟩
theorem wsum_nonneg : ∀ {kvs : List (Str × Int)}, (∀ p ∈ kvs, 1 ≤ p.2) → 0 ≤ wsum kvs
  | [], _ => Int.le_refl _
  | p :: r, h => by
    have := wsum_nonneg (kvs := r) fun q hq => h q (List.mem_cons_of_mem _ hq)
    have := h p List.mem_cons_self
    unfold wsum at *
    rw [List.map_cons, List.sum_cons]
    omega
theorem wsum_le : ∀ {kvs : List (Str × Int)}, (∀ p ∈ kvs, p.2 ≤ 10 ^ 70) → wsum kvs ≤ kvs.length * 10 ^ 70
  | [], _ => Int.le_refl _
  | p :: r, h => by
    have := wsum_le (kvs := r) fun q hq => h q (List.mem_cons_of_mem _ hq)
    have := h p List.mem_cons_self
    unfold wsum at *
    rw [List.map_cons, List.sum_cons, List.length_cons]
    omega
/-- stores, None as none -/
inductive StV (H : Hp) : V → Int → Prop
  | non : StV H .non 0
  | dict {d : Addr} {kvs : List (Str × Int)} : H d = some (.dK (sd kvs)) → Kv kvs → kvs.length ≤ 8 → StV H (.ref d) (wsum kvs)
theorem StV.mono {H H' : Hp} {v : V} {k : Int} (h : StV H v k) (s : Same H H') : StV H' v k := by
  cases h with
  | non => exact .non
  | dict e k l => exact .dict (s _ _ e) k l
theorem StV.bd {H : Hp} {v : V} {k : Int} (h : StV H v k) : 0 ≤ k ∧ k ≤ 10 ^ 71 := by
  cases h with
  | non => exact ⟨by omega, by omega⟩
  | dict e k l =>
    have := wsum_nonneg k.w1
    have := wsum_le k.w2
    constructor
    · omega
    · omega
end LT
set_option Elab.async false
set_option linter.all false
set_option maxRecDepth 100000
set_option maxHeartbeats 1600000
/-! Own layer: comprehensions within comprehensions, dict comprehensions, tables of rows (dicts from letters to numbers). -/
namespace LT
open PySem PySem.Spec PyProof.Rows L2 NdefX
/-! ### comprehensions within comprehensions -/
section
variable {J : It} {n : Nat} {G : Hp → Prop} {Y : Nat → Hp → V → Hp → Prop}
/-- a dict comprehension over a walk -/
theorem dc_it (w : Walk J n G Y) {g : TG} {tt : TT} {tk tv : TE} {vs : List Nat} {σ : L2.St} {H1 : Hp} {D : Addr} {Qd : Hp → Prop} (Pv : Nat → Hp → Prop) (h0 : Pv 0 (upd H1 D (.dK []))) (hG : ∀ i H, i ≤ n → Pv i H → G H)
    (hs : ∀ i x H H', i < n → Pv i H → Y i H x H' → g x (wipe σ vs) H' fun σ2 H2 => wipe σ2 vs = wipe σ vs ∧ tt σ2 H2 fun b H3 =>
      if b = true then tk σ2 H3 fun y H4 => tv σ2 H4 fun z H5 => ∃ kvs k, y = kV k ∧ H5 D = some (.dK kvs) ∧ kvs.length < sizeLine ∧ Pv (i + 1) (upd H5 D (.dK (putK kvs k z))) else Pv (i + 1) H3) (hd : ∀ H, Pv n H → Qd H) :
    ∃ W : Nat → Nat → Hp → Prop, (∃ m, W 0 m (upd H1 D (.dK []))) ∧ ∀ i m H, W i m H →
      (J.stop i H ∧ Qd H) ∨ (J.go i H ∧ ∃ Nx : Hp → Prop, (∀ H', Nx H' → ∃ m', m' < m ∧ W (i + 1) m' H') ∧ ∀ x H', J.yld i H x H' → g x (wipe σ vs) H' fun σ2 H2 => wipe σ2 vs = wipe σ vs ∧ tt σ2 H2 fun b H3 =>
        if b = true then tk σ2 H3 fun y H4 => tv σ2 H4 fun z H5 => ∃ kvs k, y = kV k ∧ H5 D = some (.dK kvs) ∧ kvs.length < sizeLine ∧ Nx (upd H5 D (.dK (putK kvs k z))) else Nx H3) := by
  refine ⟨fun i m H => m = n - i ∧ i ≤ n ∧ Pv i H, ⟨n, by simp, Nat.zero_le _, h0⟩, ?_⟩
  rintro i m H ⟨rfl, hi, p⟩
  have q := hG i H hi p
  by_cases hlt : i < n
  · exact .inr ⟨w.goes i H hlt q, Pv (i + 1), fun H' p' => ⟨n - (i + 1), by omega, rfl, hlt, p'⟩, fun x H' y => hs i x H H' hlt p (w.yields i H x H' hlt q y)⟩
  · have e : i = n := by omega
    subst e
    exact .inl ⟨w.stops H q, hd H p⟩
end
/-! ### rows and tables -/
abbrev KRow := List (Str × Int)
abbrev KTab := List KRow
/-- one small letter -/
def Ltr (z : Str) : Prop := ∃ c, small c = true ∧ z = ⟨#[c]⟩
def letts : List Str := (List.range' 97 26).map fun c => ⟨#[c]⟩
theorem Ltr.mem {z : Str} (h : Ltr z) : z ∈ letts := by
  obtain ⟨c, hc, rfl⟩ := h
  unfold small at hc
  rw [Bool.and_eq_true, decide_eq_true_eq, decide_eq_true_eq] at hc
  refine List.mem_map.mpr ⟨c, ?_, rfl⟩
  rw [List.mem_range'_1]
  omega
theorem letts_few {zs : List Str} (nd : zs.Nodup) (h : ∀ z ∈ zs, Ltr z) : zs.length ≤ 26 := by
  have := List.Nodup.length_le_of_subset nd (fun z hz => (h z hz).mem)
  simpa [letts] using this
structure KRw (n : Nat) (r : KRow) : Prop where
  ne : r ≠ []
  nd : (r.map (·.1)).Nodup
  lt : ∀ p ∈ r, Ltr p.1
  bd : ∀ p ∈ r, 0 ≤ p.2 ∧ p.2 < n
theorem KRw.len {n : Nat} {r : KRow} (h : KRw n r) : r.length ≤ 26 := by
  have := letts_few h.nd (fun z hz => by
    obtain ⟨p, hp, rfl⟩ := List.mem_map.mp hz
    exact h.lt p hp)
  simpa using this
theorem KRw.mono {n m : Nat} {r : KRow} (h : KRw n r) (l : n ≤ m) : KRw m r := ⟨h.ne, h.nd, h.lt, fun p hp => by have := h.bd p hp; omega⟩
theorem KRw.get {n : Nat} {r : KRow} {z : Str} {v : Int} (h : KRw n r) (e : getA r z = some v) : 0 ≤ v ∧ v < n := h.bd _ (getA_mem e)
theorem KRw.put {n : Nat} {r : KRow} {z : Str} {v : Int} (h : KRw n r) (hz : Ltr z) (h0 : 0 ≤ v) (h1 : v < n) : KRw n (putA r z v) := by
  refine ⟨fun e => ?_, nodup_put h.nd, fun p hp => ?_, fun p hp => ?_⟩
  · have : getA (putA r z v) z = some v := by rw [getA_put, if_pos rfl]
    rw [e] at this
    cases this
  · rcases mem_put hp with rfl | hp
    · exact hz
    · exact h.lt p hp
  · rcases mem_put hp with rfl | hp
    · exact ⟨h0, h1⟩
    · exact h.bd p hp
structure KTb (t : KTab) : Prop where
  l1 : 1 ≤ t.length
  l2 : t.length ≤ 1000
  rw : ∀ r ∈ t, KRw t.length r
theorem KTb.at_ {t : KTab} (h : KTb t) {i : Nat} {r : KRow} (e : t[i]? = some r) : KRw t.length r := h.rw r (List.mem_of_getElem? e)
/-- the rows stand -/
structure KRows (H : Hp) (ds : List Addr) (t : KTab) : Prop where
  len : ds.length = t.length
  at_ : ∀ (i : Nat) (d : Addr) (r : KRow), ds[i]? = some d → t[i]? = some r → H d = some (.dK (sd r))
theorem KRows.nil {H : Hp} : KRows H [] [] := ⟨rfl, fun i d r h => by simp at h⟩
theorem KRows.get {H : Hp} {ds : List Addr} {t : KTab} (h : KRows H ds t) {i : Nat} (hi : i < t.length) : ∃ d r, ds[i]? = some d ∧ t[i]? = some r ∧ H d = some (.dK (sd r)) := by
  have h2 : i < ds.length := by rw [h.len]; exact hi
  exact ⟨ds[i], t[i], List.getElem?_eq_getElem h2, List.getElem?_eq_getElem hi, h.at_ i _ _ (List.getElem?_eq_getElem h2) (List.getElem?_eq_getElem hi)⟩
theorem KRows.by {H H' : Hp} {ds : List Addr} {t : KTab} (h : KRows H ds t) (f : ∀ d ∈ ds, ∀ r, H d = some (.dK (sd r)) → H' d = some (.dK (sd r))) : KRows H' ds t :=
  ⟨h.len, fun i d r h1 h2 => f d (List.mem_of_getElem? h1) r (h.at_ i d r h1 h2)⟩
theorem KRows.mono {H H' : Hp} {ds : List Addr} {t : KTab} (h : KRows H ds t) (s : Same H H') : KRows H' ds t := h.by fun d _ r e => s _ _ e
theorem KRows.mem {H : Hp} {ds : List Addr} {t : KTab} (h : KRows H ds t) {d : Addr} (hd : d ∈ ds) : ∃ r, H d = some (.dK (sd r)) := by
  obtain ⟨i, hi, rfl⟩ := List.mem_iff_getElem.mp hd
  have h2 : i < t.length := by rw [← h.len]; exact hi
  exact ⟨_, h.at_ i _ _ (List.getElem?_eq_getElem hi) (List.getElem?_eq_getElem h2)⟩
theorem KRows.upd {H : Hp} {a : Addr} {o : HO} {ds : List Addr} {t : KTab} (h : KRows H ds t) (ha : a ∉ ds) : KRows (L2.upd H a o) ds t := h.by fun d hd r e => by
  have n : d ≠ a := fun z => ha (by rw [← z]; exact hd)
  rw [upd_ne n]
  exact e
theorem KRows.snoc {H : Hp} {ds : List Addr} {t : KTab} {d : Addr} {r : KRow} (h : KRows H ds t) (e : H d = some (.dK (sd r))) : KRows H (ds ++ [d]) (t ++ [r]) := by
  refine ⟨by rw [List.length_append, List.length_append, h.len]; rfl, fun i d' r' h1 h2 => ?_⟩
  by_cases hi : i < ds.length
  · rw [List.getElem?_append_left hi] at h1
    rw [List.getElem?_append_left (by rw [← h.len]; exact hi)] at h2
    exact h.at_ i d' r' h1 h2
  · rw [List.getElem?_append_right (by omega)] at h1
    rw [List.getElem?_append_right (by rw [← h.len]; omega), ← h.len] at h2
    cases hj : i - ds.length with
    | zero =>
      rw [hj] at h1 h2
      cases h1
      cases h2
      exact e
    | succ j =>
      rw [hj] at h1
      simp at h1
theorem KRows.rd {H : Hp} {ds : List Addr} {t : KTab} (h : KRows H ds t) {i : Nat} {v : V} (e : (ds.map V.ref)[i]? = some v) : ∃ d r, v = .ref d ∧ ds[i]? = some d ∧ t[i]? = some r ∧ H d = some (.dK (sd r)) := by
  rw [List.getElem?_map] at e
  cases hd : ds[i]? with
  | none => rw [hd] at e; cases e
  | some d =>
    rw [hd] at e
    cases e
    have hi : i < t.length := by rw [← h.len]; exact (List.getElem?_eq_some_iff.mp hd).1
    exact ⟨d, t[i], rfl, rfl, List.getElem?_eq_getElem hi, h.at_ i d _ hd (List.getElem?_eq_getElem hi)⟩
/-- a table stands at a -/
structure TabAt (H : Hp) (a : Addr) (ds : List Addr) (t : KTab) : Prop where
  ls : H a = some (.lst (ds.map V.ref))
  rows : KRows H ds t
  nd : ds.Nodup
theorem TabAt.mono {H H' : Hp} {a : Addr} {ds : List Addr} {t : KTab} (h : TabAt H a ds t) (s : Same H H') : TabAt H' a ds t := ⟨s _ _ h.ls, h.rows.mono s, h.nd⟩
theorem TabAt.ne {H : Hp} {a d : Addr} {ds : List Addr} {t : KTab} (h : TabAt H a ds t) (hd : d ∈ ds) : d ≠ a := by
  obtain ⟨r, e⟩ := h.rows.mem hd
  exact ne_of e h.ls (by intro z; cases z)
theorem TabAt.item {H : Hp} {a : Addr} {ds : List Addr} {t : KTab} (h : TabAt H a ds t) {i : Int} (h0 : 0 ≤ i) (h1 : i < t.length) : ∃ d r, ds[i.toNat]? = some d ∧ t[i.toNat]? = some r ∧ H d = some (.dK (sd r)) ∧ atI (ds.map V.ref) i = some (.ref d) := by
  obtain ⟨d, r, e1, e2, e3⟩ := h.rows.get (i := i.toNat) (by omega)
  refine ⟨d, r, e1, e2, e3, ?_⟩
  have : i = ((i.toNat : Nat) : Int) := by omega
  rw [this]
  exact atI_nat (by rw [List.getElem?_map, e1]; rfl)
theorem val_row {r : KRow} {z : Str} : valV (sd r) (Sum.inr z) = (getA r z).map V.int := val_en inr_inj z r
/-! ### a row by rising letters -/
def rowOf (r : KRow) (ys : List Str) : KRow := ys.map fun z => (z, (getA r z).getD 0)
def Rise (r r' : KRow) : Prop := ∃ ys, ys.Perm (r.map (·.1)) ∧ sortedS ys = true ∧ r' = rowOf r ys
theorem rowOf_keys (r : KRow) (ys : List Str) : (rowOf r ys).map (·.1) = ys := by
  unfold LT.rowOf
  rw [List.map_map]
  exact List.map_id' ys
theorem getA_some_of {r : KRow} {z : Str} (h : z ∈ r.map (·.1)) : ∃ v, getA r z = some v := by
  cases e : getA r z with
  | some v => exact ⟨v, rfl⟩
  | none => exact absurd h (getA_none_iff.mp e)
theorem Rise.get {r r' : KRow} (h : Rise r r') (nd : (r.map (·.1)).Nodup) (z : Str) : getA r' z = getA r z := by
  obtain ⟨ys, hp, _, rfl⟩ := h
  by_cases hz : z ∈ ys
  · obtain ⟨v, hv⟩ := getA_some_of (hp.mem_iff.mp hz)
    rw [hv]
    refine getA_of_mem (by rw [rowOf_keys]; exact hp.nodup_iff.mpr nd) ?_
    refine List.mem_map.mpr ⟨z, hz, ?_⟩
    rw [hv]
    rfl
  · rw [getA_none_iff.mpr (by rw [rowOf_keys]; exact hz), getA_none_iff.mpr fun h => hz (hp.mem_iff.mpr h)]
theorem Rise.rw {n : Nat} {r r' : KRow} (h : Rise r r') (k : KRw n r) : KRw n r' := by
  have g := h.get k.nd
  obtain ⟨ys, hp, _, rfl⟩ := h
  have hk := rowOf_keys r ys
  have nd : ((rowOf r ys).map (·.1)).Nodup := by rw [hk]; exact hp.nodup_iff.mpr k.nd
  refine ⟨fun e => ?_, nd, fun p hp' => ?_, fun p hp' => ?_⟩
  · have := hp.length_eq
    rw [e] at hk
    rw [← hk] at this
    simp at this
    exact k.ne (List.length_eq_zero_iff.mp this.symm)
  · have : p.1 ∈ r.map (·.1) := hp.mem_iff.mp (hk ▸ List.mem_map.mpr ⟨p, hp', rfl⟩)
    obtain ⟨p2, hp2, e⟩ := List.mem_map.mp this
    rw [← e]
    exact k.lt p2 hp2
  · have := getA_of_mem nd (k := p.1) (v := p.2) hp'
    rw [g] at this
    exact k.get this
/-- every row risen -/
structure RiseT (t t' : KTab) : Prop where
  len : t'.length = t.length
  at_ : ∀ (i : Nat) (r r' : KRow), t[i]? = some r → t'[i]? = some r' → Rise r r'
theorem RiseT.row {t t' : KTab} (h : RiseT t t') {i : Nat} {r : KRow} (e : t[i]? = some r) : ∃ r', t'[i]? = some r' ∧ Rise r r' := by
  have hi : i < t'.length := by rw [h.len]; exact (List.getElem?_eq_some_iff.mp e).1
  exact ⟨t'[i], List.getElem?_eq_getElem hi, h.at_ i r _ e (List.getElem?_eq_getElem hi)⟩
/-! ### isinstance of str, of all sorts of things -/
def isStr : V → Bool
  | .str _ => true
  | _ => false
theorem Odd.tyS {K : PySem.W.Frag} {H : Hp} {v : V} (h : Odd H v) : ∃ t, TyX K H v t ∧ PySem.W.kitOne K t (.type "str") = some (isStr v) := by
  cases h with
  | non => exact ⟨_, .base .non, kit_ty (show kitB "NoneType" "str" = some false by decide +kernel)⟩
  | bl b => exact ⟨_, .base (.bl b), kit_ty (show kitB "bool" "str" = some false by decide +kernel)⟩
  | int i => exact ⟨_, .base (.int i), kit_ty (show kitB "int" "str" = some false by decide +kernel)⟩
  | str z => exact ⟨_, .base (.str z), kit_ty (show kitB "str" "str" = some true by decide +kernel)⟩
  | lst e => exact ⟨_, .base (.lst e), kit_ty (show kitB "list" "str" = some false by decide +kernel)⟩
  | tup e => exact ⟨_, .base (.tup e), kit_ty (show kitB "tuple" "str" = some false by decide +kernel)⟩
  | dK e => exact ⟨_, .base (.dK e), kit_ty (show kitB "dict" "str" = some false by decide +kernel)⟩
end LT
namespace LT
open PySem PySem.Spec PyProof.Rows L2 NdefX
/-- a row's letters and numbers, pair by pair -/
theorem walk_rows {d : Addr} {o : Obj} {r : KRow} : Walk (Iti d o (sd r)) r.length (fun H => H d = some (.frz o (.dK (sd r)))) (fun i H x H' => ∃ T p, r[i]? = some p ∧ x = .ref T ∧ H T = none ∧ H' = upd H T (.tup [.str p.1, .int p.2])) := by
  refine ⟨fun i H hi q => ⟨q, by rw [sd_len]; exact hi⟩, fun H q => ⟨q, by rw [sd_len]; exact Nat.le_refl _⟩, fun i H x H' hi _ y => ?_⟩
  obtain ⟨T, k, v, h1, rfl, h3, rfl⟩ := y
  unfold sd at h1
  rw [List.getElem?_map, List.getElem?_eq_getElem hi] at h1
  cases h1
  exact ⟨T, r[i], List.getElem?_eq_getElem hi, rfl, h3, rfl⟩
/-- a row's letters -/
theorem walk_rowk {d : Addr} {o : Obj} {r : KRow} : Walk (Itk d o (sd r)) r.length (fun H => H d = some (.frz o (.dK (sd r)))) (fun i H x H' => H' = H ∧ ∃ p, r[i]? = some p ∧ x = .str p.1) := by
  refine ⟨fun i H hi q => ⟨q, by rw [sd_len]; exact hi⟩, fun H q => ⟨q, by rw [sd_len]; exact Nat.le_refl _⟩, fun i H x H' hi _ y => ?_⟩
  obtain ⟨rfl, k, v, h1, rfl⟩ := y
  unfold sd at h1
  rw [List.getElem?_map, List.getElem?_eq_getElem hi] at h1
  cases h1
  exact ⟨rfl, r[i], List.getElem?_eq_getElem hi, rfl⟩
theorem rep_succ {α : Type} (i : Nat) (a : α) : List.replicate i a ++ [a] = List.replicate (i + 1) a := by rw [List.replicate_succ']
theorem rep_all (i : Nat) : (List.replicate i true).all id = true := by
  rw [List.all_eq_true]
  intro b hb
  rw [(List.mem_replicate.mp hb).2]
  rfl
end LT
set_option Elab.async false
set_option linter.all false
set_option maxRecDepth 100000
set_option maxHeartbeats 1600000
/-! Own layer: books. What is told of keepers and lights, as a list of what was told; histories; what of them holds. -/
namespace LT
open PySem PySem.Spec PyProof.Rows L2 NdefX
theorem snoc_ind {α : Type} {p : List α → Prop} (h0 : p []) (hs : ∀ l a, p l → p (l ++ [a])) : ∀ l, p l := by
  intro l
  rw [← List.reverse_reverse l]
  induction l.reverse with
  | nil => exact h0
  | cons a r ih =>
    rw [List.reverse_cons]
    exact hs _ _ ih
/-- what a book is told: of a move or of a landing, known, who, day, worth -/
structure Evt where
  mv : Bool
  kn : Int
  who : Str
  day : Int
  w : V
abbrev Told := List (Int × V)
abbrev Hist := List (Int × Told)
def ctK : Option Int → Int → Bool
  | none, _ => true
  | some m, k => decide (k ≤ m)
def knV : Option Int → V
  | none => .non
  | some k => .int k
/-- what was told last, of that which counts -/
def LastW (t : Told) (kn : Option Int) (w : V) : Prop :=
  ((∀ p ∈ t, ctK kn p.1 = false) ∧ w = .non) ∨ ∃ k, getA t k = some w ∧ ctK kn k = true ∧ ∀ p ∈ t, ctK kn p.1 = true → p.1 ≤ k
theorem LastW.uniq {t : Told} {kn : Option Int} {w w' : V} (h : LastW t kn w) (h' : LastW t kn w') : w = w' := by
  rcases h with ⟨a, rfl⟩ | ⟨k, a1, a2, a3⟩
  · rcases h' with ⟨_, rfl⟩ | ⟨k, b1, b2, _⟩
    · rfl
    · have := a _ (getA_mem b1)
      rw [b2] at this
      cases this
  · rcases h' with ⟨b, rfl⟩ | ⟨k', b1, b2, b3⟩
    · have := b _ (getA_mem a1)
      rw [a2] at this
      cases this
    · have e : k = k' := Int.le_antisymm (b3 _ (getA_mem a1) a2) (a3 _ (getA_mem b1) b2)
      subst e
      rw [a1] at b1
      exact Option.some.inj b1
theorem LastW.nil {kn : Option Int} : LastW [] kn .non := .inl ⟨nofun, rfl⟩
def noteH (h : Hist) (kn day : Int) (w : V) : Hist := putA h day (putA ((getA h day).getD []) kn w)
def ofE (mv : Bool) (who : Str) (e : Evt) : Bool := decide (e.mv = mv) && decide (e.who = who)
def stepH (mv : Bool) (who : Str) (h : Hist) (e : Evt) : Hist := if ofE mv who e = true then noteH h e.kn e.day e.w else h
def histE (es : List Evt) (mv : Bool) (who : Str) : Hist := es.foldl (stepH mv who) []
theorem histE_snoc (es : List Evt) (e : Evt) (mv : Bool) (who : Str) : histE (es ++ [e]) mv who = stepH mv who (histE es mv who) e := by
  unfold histE
  rw [List.foldl_append]
  rfl
def heldP (mv : Bool) (who : Str) (kn : Option Int) (day : Int) (e : Evt) : Bool := ofE mv who e && ctK kn e.kn && decide (e.day = day)
def heldO (es : List Evt) (mv : Bool) (who : Str) (kn : Option Int) (day : Int) : Option V := ((es.filter (heldP mv who kn day)).getLast?).map (·.w)
def heldE (es : List Evt) (mv : Bool) (who : Str) (kn : Option Int) (day : Int) : V := (heldO es mv who kn day).getD .non
theorem heldO_snoc (es : List Evt) (e : Evt) (mv : Bool) (who : Str) (kn : Option Int) (day : Int) :
    heldO (es ++ [e]) mv who kn day = if heldP mv who kn day e = true then some e.w else heldO es mv who kn day := by
  unfold heldO
  rw [List.filter_append]
  by_cases h : heldP mv who kn day e = true
  · rw [if_pos h, List.filter_cons_of_pos h, List.filter_nil, List.getLast?_append]
    rfl
  · rw [if_neg h, List.filter_cons_of_neg h, List.filter_nil, List.append_nil]
theorem heldO_mem {es : List Evt} {mv : Bool} {who : Str} {kn : Option Int} {day : Int} {w : V} (h : heldO es mv who kn day = some w) : ∃ e ∈ es, heldP mv who kn day e = true ∧ e.w = w := by
  unfold heldO at h
  rw [Option.map_eq_some_iff] at h
  obtain ⟨e, h1, h2⟩ := h
  have hm := List.mem_of_getLast? h1
  rw [List.mem_filter] at hm
  exact ⟨e, hm.1, hm.2, h2⟩
theorem ofE_iff {mv : Bool} {who : Str} {e : Evt} : ofE mv who e = true ↔ e.mv = mv ∧ e.who = who := by
  unfold ofE
  rw [Bool.and_eq_true, decide_eq_true_iff, decide_eq_true_iff]
theorem heldP_iff {mv : Bool} {who : Str} {kn : Option Int} {day : Int} {e : Evt} : heldP mv who kn day e = true ↔ (e.mv = mv ∧ e.who = who) ∧ ctK kn e.kn = true ∧ e.day = day := by
  unfold heldP
  rw [Bool.and_eq_true, Bool.and_eq_true, ofE_iff, decide_eq_true_iff, and_assoc]
theorem getA_note (h : Hist) (kn day d : Int) (w : V) : getA (noteH h kn day w) d = if d = day then some (putA ((getA h day).getD []) kn w) else getA h d := getA_put _ _ _ _
/-- what stands in a history was told -/
theorem hist_of (mv : Bool) (who : Str) : ∀ es : List Evt, ∀ d t, getA (histE es mv who) d = some t → (t.map (·.1)).Nodup ∧ t.length ≤ es.length ∧ t ≠ [] ∧ ∀ p ∈ t, ∃ e ∈ es, (e.mv = mv ∧ e.who = who) ∧ e.kn = p.1 ∧ e.day = d ∧ e.w = p.2 := by
  refine snoc_ind (fun d t h => by cases h) fun es e ih d t h => ?_
  have old : getA (histE es mv who) d = some t → (t.map (·.1)).Nodup ∧ t.length ≤ (es ++ [e]).length ∧ t ≠ [] ∧ ∀ p ∈ t, ∃ e' ∈ es ++ [e], (e'.mv = mv ∧ e'.who = who) ∧ e'.kn = p.1 ∧ e'.day = d ∧ e'.w = p.2 := fun h => by
    obtain ⟨a, b, n, c⟩ := ih d t h
    refine ⟨a, by rw [List.length_append]; omega, n, fun p hp => ?_⟩
    obtain ⟨e', h1, h2⟩ := c p hp
    exact ⟨e', List.mem_append_left _ h1, h2⟩
  rw [histE_snoc] at h
  unfold stepH at h
  by_cases ho : ofE mv who e = true
  · rw [if_pos ho, getA_note] at h
    by_cases hd : d = e.day
    · rw [if_pos hd] at h
      cases h
      subst hd
      have hi : (((getA (histE es mv who) e.day).getD []).map (·.1)).Nodup ∧ ((getA (histE es mv who) e.day).getD []).length ≤ es.length ∧ ∀ p ∈ (getA (histE es mv who) e.day).getD [], ∃ e' ∈ es, (e'.mv = mv ∧ e'.who = who) ∧ e'.kn = p.1 ∧ e'.day = e.day ∧ e'.w = p.2 := by
        cases hg : getA (histE es mv who) e.day with
        | none => exact ⟨List.nodup_nil, Nat.zero_le _, nofun⟩
        | some t =>
          obtain ⟨a, b, _, c⟩ := ih _ t hg
          exact ⟨a, b, c⟩
      obtain ⟨a, b, c⟩ := hi
      refine ⟨nodup_put a, ?_, ?_, fun p hp => ?_⟩
      · have := putA_len (kvs := (getA (histE es mv who) e.day).getD []) (k := e.kn) (v := e.w)
        rw [List.length_append, List.length_singleton]
        omega
      · intro z
        have := getA_put ((getA (histE es mv who) e.day).getD []) e.kn e.kn e.w
        rw [z, if_pos rfl] at this
        cases this
      · rcases mem_put hp with rfl | hp
        · exact ⟨e, List.mem_append_right _ List.mem_cons_self, ofE_iff.mp ho, rfl, rfl, rfl⟩
        · obtain ⟨e', h1, h2⟩ := c p hp
          exact ⟨e', List.mem_append_left _ h1, h2⟩
    · rw [if_neg hd] at h
      exact old h
  · rw [if_neg ho] at h
    exact old h
theorem hist_keys (mv : Bool) (who : Str) : ∀ es : List Evt, ((histE es mv who).map (·.1)).Nodup ∧ (histE es mv who).length ≤ es.length := by
  refine snoc_ind ⟨List.nodup_nil, Nat.le_refl _⟩ fun es e ih => ?_
  rw [histE_snoc]
  unfold stepH
  have hl : (es ++ [e]).length = es.length + 1 := by rw [List.length_append]; rfl
  rw [hl]
  split
  · refine ⟨nodup_put ih.1, ?_⟩
    have := putA_len (kvs := histE es mv who) (k := e.day) (v := putA ((getA (histE es mv who) e.day).getD []) e.kn e.w)
    have := ih.2
    unfold noteH
    omega
  · exact ⟨ih.1, by have := ih.2; omega⟩
abbrev Rising (es : List Evt) : Prop := es.Pairwise fun a b => a.kn ≤ b.kn
/-- what holds, by rising days -/
structure HoldF (f : Int → V) (L : List (Int × V)) : Prop where
  up : L.Pairwise fun a b => a.1 < b.1
  mem : ∀ d w, (d, w) ∈ L ↔ w ≠ .non ∧ f d = w
theorem HoldF.uniq {f : Int → V} : ∀ {L L' : List (Int × V)}, HoldF f L → HoldF f L' → L = L' := by
  intro L
  induction L generalizing f with
  | nil =>
    intro L' h h'
    cases L' with
    | nil => rfl
    | cons p r => exact nomatch (h.mem p.1 p.2).mpr ((h'.mem p.1 p.2).mp List.mem_cons_self)
  | cons p r ih =>
    intro L' h h'
    cases L' with
    | nil => exact nomatch (h'.mem p.1 p.2).mpr ((h.mem p.1 p.2).mp List.mem_cons_self)
    | cons p' r' =>
      have u := List.pairwise_cons.mp h.up
      have u' := List.pairwise_cons.mp h'.up
      have hp := (h.mem p.1 p.2).mp List.mem_cons_self
      have hp' := (h'.mem p'.1 p'.2).mp List.mem_cons_self
      have e1 : p.1 = p'.1 := by
        have a : p'.1 ≤ p.1 := by
          rcases List.mem_cons.mp ((h'.mem p.1 p.2).mpr hp) with e | e
          · exact Int.le_of_eq (congrArg Prod.fst e).symm
          · exact Int.le_of_lt (u'.1 _ e)
        have b : p.1 ≤ p'.1 := by
          rcases List.mem_cons.mp ((h.mem p'.1 p'.2).mpr hp') with e | e
          · exact Int.le_of_eq (congrArg Prod.fst e).symm
          · exact Int.le_of_lt (u.1 _ e)
        omega
      have e2 : p.2 = p'.2 := by rw [← hp.2, ← hp'.2, e1]
      have e : p = p' := Prod.ext e1 e2
      subst e
      congr 1
      refine ih (f := fun d => if d = p.1 then .non else f d) ⟨u.2, fun d w => ?_⟩ ⟨u'.2, fun d w => ?_⟩
      · by_cases hd : d = p.1
        · rw [if_pos hd]
          constructor
          · intro hm
            have := u.1 _ hm
            omega
          · rintro ⟨a, b⟩
            exact absurd b.symm a
        · rw [if_neg hd, ← h.mem]
          constructor
          · exact List.mem_cons_of_mem _
          · intro hm
            rcases List.mem_cons.mp hm with e | e
            · exact absurd (congrArg Prod.fst e) hd
            · exact e
      · by_cases hd : d = p.1
        · rw [if_pos hd]
          constructor
          · intro hm
            have := u'.1 _ hm
            omega
          · rintro ⟨a, b⟩
            exact absurd b.symm a
        · rw [if_neg hd, ← h'.mem]
          constructor
          · exact List.mem_cons_of_mem _
          · intro hm
            rcases List.mem_cons.mp hm with e | e
            · exact absurd (congrArg Prod.fst e) hd
            · exact e
/-- where one is on a day, by what holds of each day -/
def IsWhere (f : Int → V) (day : Int) (r : V) : Prop :=
  (∃ on, on ≤ day ∧ f on = r ∧ r ≠ .non ∧ ∀ o, o ≤ day → f o ≠ .non → o ≤ on) ∨ ((∀ o, o ≤ day → f o = .non) ∧ r = .str (Str.ofString ""))
theorem IsWhere.uniq {f : Int → V} {day : Int} {r r' : V} (h : IsWhere f day r) (h' : IsWhere f day r') : r = r' := by
  rcases h with ⟨o, a1, a2, a3, a4⟩ | ⟨a, rfl⟩
  · rcases h' with ⟨o', b1, b2, b3, b4⟩ | ⟨b, rfl⟩
    · have : o = o' := Int.le_antisymm (b4 _ a1 (by rw [a2]; exact a3)) (a4 _ b1 (by rw [b2]; exact b3))
      rw [← a2, ← b2, this]
    · exact absurd (a2.symm.trans (b o a1)) a3
  · rcases h' with ⟨o', b1, b2, b3, b4⟩ | ⟨b, rfl⟩
    · exact absurd (b2.symm.trans (a o' b1)) b3
    · rfl
end LT
set_option Elab.async false
set_option linter.all false
set_option maxRecDepth 100000
set_option maxHeartbeats 1600000
/-! Own layer: a reading told anew; indices. -/
namespace LT
open PySem PySem.Spec PyProof.Rows L2 NdefX
theorem paired_imp {α β : Type} {R S : α → β → Prop} (f : ∀ a b, R a b → S a b) : ∀ {xs : List α} {ys : List β}, Paired R xs ys → Paired S xs ys
  | _, _, .nil => .nil
  | _, _, .cons h t => .cons (f _ _ h) (paired_imp f t)
theorem ne_of_none' {H : Hp} {a b : Addr} {o : HO} (n : H a = none) (e : H b = some o) : a ≠ b := (ne_of_none e n).symm
/-- a row without one letter -/
def dropA (r : KRow) (z : Str) : KRow := r.filter fun p => decide (p.1 ≠ z)
theorem KRw.drop {n : Nat} {r : KRow} {z : Str} (h : KRw n r) (hl : 1 < r.length) : KRw n (dropA r z) := by
  refine ⟨fun e => ?_, ?_, fun p hp => h.lt p (List.mem_filter.mp hp).1, fun p hp => h.bd p (List.mem_filter.mp hp).1⟩
  · have all : ∀ p ∈ r, p.1 = z := by
      intro p hp
      by_cases hz : p.1 = z
      · exact hz
      · have : p ∈ dropA r z := List.mem_filter.mpr ⟨hp, decide_eq_true hz⟩
        rw [e] at this
        cases this
    match r, hl, h.nd, all with
    | a :: b :: r, _, nd, all =>
      rw [List.map_cons, List.map_cons, List.nodup_cons] at nd
      refine nd.1 ?_
      rw [all a List.mem_cons_self, ← all b (List.mem_cons_of_mem _ List.mem_cons_self)]
      exact List.mem_cons_self
  · exact h.nd.sublist (List.Sublist.map _ List.filter_sublist)
end LT
set_option Elab.async false
set_option linter.all false
set_option maxRecDepth 100000
set_option maxHeartbeats 1600000
/-! Own layer: books on the heap. -/
namespace LT
open PySem PySem.Spec PyProof.Rows L2 NdefX
/-- all but what stands at some addresses is as it was -/
def SameL (S : List Addr) (H H' : Hp) : Prop := ∀ b o, b ∉ S → H b = some o → H' b = some o
theorem SameL.of {S : List Addr} {H H' : Hp} (s : Same H H') : SameL S H H' := fun b o _ e => s b o e
theorem SameL.ofB {p : Addr} {S : List Addr} {H H' : Hp} (hp : p ∈ S) (s : SameB p H H') : SameL S H H' := fun b o n e => s b o (fun h => n (h ▸ hp)) e
theorem SameL.trans {S : List Addr} {H H1 H2 : Hp} (a : SameL S H H1) (b : SameL S H1 H2) : SameL S H H2 := fun c o n e => b c o n (a c o n e)
theorem SameL.mono {S T : List Addr} {H H' : Hp} (h : ∀ a ∈ S, a ∈ T) (s : SameL S H H') : SameL T H H' := fun b o n e => s b o (fun z => n (h b z)) e
theorem SameL.upd {S : List Addr} {H H' : Hp} {p : Addr} {o : HO} (hp : p ∈ S) (s : SameL S H H') : SameL S H (L2.upd H' p o) := fun b x n e => by
  rw [upd_ne (fun z : b = p => n (by rw [z]; exact hp))]
  exact s b x n e
/-- what was new may change, too -/
theorem SameL.fresh {S T : List Addr} {H H1 H2 : Hp} (a : SameL S H H1) (b : SameL T H1 H2) (h : ∀ c ∈ T, c ∈ S ∨ H c = none) : SameL S H H2 := fun c o n e => by
  refine b c o (fun z => ?_) (a c o n e)
  rcases h c z with h | h
  · exact n h
  · rw [h] at e
    cases e
theorem SameL.same {S : List Addr} {H H' : Hp} (s : SameL S H H') (h : ∀ c ∈ S, H c = none) : Same H H' := fun b o e => s b o (fun z => by rw [h b z] at e; cases e) e
theorem SameL.free {S : List Addr} {H H' : Hp} {a : Addr} (s : SameL S H H') (h : H' a = none) (n : a ∉ S) : H a = none := by
  cases e : H a with
  | none => rfl
  | some o =>
    rw [s a o n e] at h
    cases h
/-! ### a heap without what may change -/
def Ho (M : List Addr) (H : Hp) : Hp := fun a => if a ∈ M then none else H a
theorem ho_iff {M : List Addr} {H : Hp} {a : Addr} {o : HO} : Ho M H a = some o ↔ a ∉ M ∧ H a = some o := by
  unfold Ho
  split <;> simp_all
theorem ho_le {M : List Addr} {H : Hp} : Same (Ho M H) H := fun a o e => (ho_iff.mp e).2
theorem ho_step {M M' S : List Addr} {H H' : Hp} (s : SameL S H H') (hs : ∀ a ∈ S, a ∈ M) (hm : ∀ a ∈ M', a ∈ M ∨ H a = none) : Same (Ho M H) (Ho M' H') := fun a o e => by
  obtain ⟨n, e⟩ := ho_iff.mp e
  refine ho_iff.mpr ⟨fun h => ?_, s a o (fun h => n (hs a h)) e⟩
  rcases hm a h with h | h
  · exact n h
  · rw [h] at e
    cases e
theorem ho_in {M : List Addr} {H : Hp} {a : Addr} {o : HO} (n : a ∉ M) (e : H a = some o) : Ho M H a = some o := ho_iff.mpr ⟨n, e⟩
/-! ### histories -/
structure HA where
  x : Addr
  dx : Addr
  D : Addr
  g : List (Int × Addr)
  h : Hist
def HA.fp (a : HA) : List Addr := a.x :: a.D :: a.g.map (·.2)
def toldK (t : Told) : List (Key × V) := enA Sum.inl id t
def dayK (g : List (Int × Addr)) : List (Key × V) := enA Sum.inl V.ref g
def DayR (H : Hp) (p : Int × Addr) (e : Int × Told) : Prop := p.1 = e.1 ∧ H p.2 = some (.dK (toldK e.2))
structure HistAt (C : Addr) (H : Hp) (a : HA) : Prop where
  ix : H a.x = some (.ins C a.dx [("by_day", .ref a.D)])
  bd : H a.D = some (.dK (dayK a.g))
  ta : Paired (DayR H) a.g a.h
  nd : a.fp.Nodup
  nk : (a.h.map (·.1)).Nodup
theorem HistAt.by {C : Addr} {H H' : Hp} {a : HA} (h : HistAt C H a) (f : ∀ c ∈ a.fp, ∀ o, H c = some o → H' c = some o) : HistAt C H' a := by
  refine ⟨f _ List.mem_cons_self _ h.ix, f _ (List.mem_cons_of_mem _ List.mem_cons_self) _ h.bd, ?_, h.nd, h.nk⟩
  have : ∀ {g : List (Int × Addr)} {t : Hist}, (∀ c ∈ g.map (·.2), c ∈ a.fp) → Paired (DayR H) g t → Paired (DayR H') g t := by
    intro g t hg hp
    induction hp with
    | nil => exact .nil
    | cons r _ ih => exact .cons ⟨r.1, f _ (hg _ List.mem_cons_self) _ r.2⟩ (ih fun c hc => hg c (List.mem_cons_of_mem _ hc))
  exact this (fun c hc => List.mem_cons_of_mem _ (List.mem_cons_of_mem _ hc)) h.ta
theorem HistAt.mono {C : Addr} {H H' : Hp} {a : HA} (h : HistAt C H a) (s : Same H H') : HistAt C H' a := h.by fun c _ o e => s c o e
theorem HistAt.monoL {C : Addr} {S : List Addr} {H H' : Hp} {a : HA} (h : HistAt C H a) (s : SameL S H H') (n : ∀ c ∈ a.fp, c ∉ S) : HistAt C H' a := h.by fun c hc o e => s c o (n c hc) e
theorem HistAt.ex {C : Addr} {H : Hp} {a : HA} (h : HistAt C H a) : ∀ c ∈ a.fp, ∃ o, H c = some o := by
  intro c hc
  rcases List.mem_cons.mp hc with rfl | hc
  · exact ⟨_, h.ix⟩
  rcases List.mem_cons.mp hc with rfl | hc
  · exact ⟨_, h.bd⟩
  have : ∀ {g : List (Int × Addr)} {t : Hist}, Paired (DayR H) g t → c ∈ g.map (·.2) → ∃ o, H c = some o := by
    intro g t hp
    induction hp with
    | nil => exact nofun
    | cons r _ ih =>
      intro hc
      rcases List.mem_cons.mp hc with rfl | hc
      · exact ⟨_, r.2⟩
      · exact ih hc
  exact this h.ta hc
theorem paired_at {H : Hp} {d : Int} {g : List (Int × Addr)} {h : Hist} (p : Paired (DayR H) g h) : (getA g d = none ∧ getA h d = none) ∨ ∃ T t, getA g d = some T ∧ getA h d = some t ∧ H T = some (.dK (toldK t)) := by
  induction p with
  | nil => exact .inl ⟨rfl, rfl⟩
  | cons r _ ih =>
    rename_i x y xs ys _
    by_cases e : y.1 = d
    · exact .inr ⟨x.2, y.2, getA_pos (r.1.trans e), getA_pos e, r.2⟩
    · rw [getA_neg (fun z => e (r.1.symm.trans z)), getA_neg e]
      exact ih
theorem day_val (g : List (Int × Addr)) (d : Int) : valV (dayK g) (Sum.inl d) = (getA g d).map V.ref := val_en inl_inj d g
theorem told_put (t : Told) (k : Int) (v : V) : putK (toldK t) (Sum.inl k) v = toldK (putA t k v) := put_en (f := id) inl_inj t k v
theorem day_put (g : List (Int × Addr)) (d : Int) (T : Addr) : putK (dayK g) (Sum.inl d) (V.ref T) = dayK (putA g d T) := put_en inl_inj g d T
theorem told_len (t : Told) : (toldK t).length = t.length := enA_len ..
theorem day_len (g : List (Int × Addr)) : (dayK g).length = g.length := enA_len ..
/-- a day's dict put anew -/
theorem paired_set {H H' : Hp} {d : Int} {T : Addr} {t' : Told} {g : List (Int × Addr)} {h : Hist} (p : Paired (DayR H) g h) (hg : getA g d = some T) (nk : (h.map (·.1)).Nodup)
    (hT : H' T = some (.dK (toldK t'))) (ho : ∀ c ∈ g.map (·.2), c ≠ T → ∀ o, H c = some o → H' c = some o) (nd : (g.map (·.2)).Nodup) : Paired (DayR H') g (h.map fun e => if e.1 = d then (e.1, t') else e) := by
  induction p with
  | nil => exact .nil
  | cons r p ih =>
    rename_i x y xs ys
    have nk' := (List.nodup_cons.mp nk)
    have nd' := (List.nodup_cons.mp nd)
    by_cases e : y.1 = d
    · have e1 : x.2 = T := by
        rw [getA_pos (r.1.trans e)] at hg
        exact Option.some.inj hg
      refine .cons ?_ ?_
      · show DayR H' x (if y.1 = d then (y.1, t') else y)
        rw [if_pos e]
        exact ⟨r.1, by rw [e1]; exact hT⟩
      · have em : ys.map (fun e => if e.1 = d then (e.1, t') else e) = ys := by
          have : ∀ q ∈ ys, (if q.1 = d then (q.1, t') else q) = q := fun q hq => if_neg fun z => nk'.1 (List.mem_map.mpr ⟨q, hq, z.trans e.symm⟩)
          exact (List.map_congr_left this).trans (List.map_id _)
        rw [em]
        have : ∀ {g : List (Int × Addr)} {t : Hist}, (∀ c ∈ g.map (·.2), c ∈ xs.map (·.2)) → Paired (DayR H) g t → Paired (DayR H') g t := by
          intro g t hg hp
          induction hp with
          | nil => exact .nil
          | cons r' _ ih' =>
            refine .cons ⟨r'.1, ho _ (List.mem_cons_of_mem _ (hg _ List.mem_cons_self)) (fun z => ?_) _ r'.2⟩ (ih' fun c hc => hg c (List.mem_cons_of_mem _ hc))
            have := hg _ List.mem_cons_self
            rw [z, ← e1] at this
            exact nd'.1 this
        exact this (fun c hc => hc) p
    · rw [getA_neg (fun z => e (r.1.symm.trans z))] at hg
      have hx : x.2 ≠ T := fun z => nd'.1 (by show x.2 ∈ _; rw [z]; exact List.mem_map.mpr ⟨_, getA_mem hg, rfl⟩)
      refine .cons ?_ (ih hg nk'.2 (fun c hc => ho c (List.mem_cons_of_mem _ hc)) nd'.2)
      show DayR H' x (if y.1 = d then (y.1, t') else y)
      rw [if_neg e]
      exact ⟨r.1, ho _ List.mem_cons_self hx _ r.2⟩
theorem putA_old {κ α : Type} [DecidableEq κ] {kvs : List (κ × α)} {k : κ} {v x : α} (h : getA kvs k = some x) : putA kvs k v = kvs.map fun p => if p.1 = k then (p.1, v) else p := by
  unfold putA
  rw [getA_any, h]
  rfl
theorem paired_snoc' {α β : Type} {R : α → β → Prop} : ∀ {xs : List α} {ys : List β} {x : α} {y : β}, Paired R xs ys → R x y → Paired R (xs ++ [x]) (ys ++ [y]) := by
  intro xs ys x y p r
  induction p with
  | nil => exact .cons r .nil
  | cons r' _ ih => exact .cons r' ih
/-- a note of a day that was told of -/
theorem HistAt.note1 {C : Addr} {H H' : Hp} {a : HA} {d kn : Int} {w : V} {T : Addr} {t : Told} (h : HistAt C H a) (hg : getA a.g d = some T) (hh : getA a.h d = some t)
    (hT : H' T = some (.dK (toldK (putA t kn w)))) (ho : ∀ c, c ≠ T → ∀ o, H c = some o → H' c = some o) : HistAt C H' { a with h := noteH a.h kn d w } := by
  have nd := h.nd
  have nd1 := List.nodup_cons.mp nd
  have nd2 := List.nodup_cons.mp nd1.2
  have mT : T ∈ a.g.map (·.2) := List.mem_map.mpr ⟨_, getA_mem hg, rfl⟩
  refine ⟨ho _ (fun z : a.x = T => nd1.1 (List.mem_cons_of_mem _ (by rw [z]; exact mT))) _ h.ix, ho _ (fun z : a.D = T => nd2.1 (by rw [z]; exact mT)) _ h.bd, ?_, h.nd, nodup_put h.nk⟩
  show Paired (DayR H') a.g (noteH a.h kn d w)
  unfold noteH
  rw [hh, Option.getD_some, putA_old hh]
  exact paired_set h.ta hg h.nk hT (fun c _ n o e => ho c n o e) nd2.2
/-- a note of another day -/
theorem HistAt.note2 {C : Addr} {H H' : Hp} {a : HA} {d kn : Int} {w : V} {T : Addr} (h : HistAt C H a) (hg : getA a.g d = none) (hh : getA a.h d = none) (nT : H T = none)
    (hT : H' T = some (.dK (toldK [(kn, w)]))) (hD : H' a.D = some (.dK (dayK (a.g ++ [(d, T)])))) (ho : ∀ c, c ≠ T → c ≠ a.D → ∀ o, H c = some o → H' c = some o) : HistAt C H' { a with g := a.g ++ [(d, T)], h := noteH a.h kn d w } := by
  have nd := h.nd
  have nd1 := List.nodup_cons.mp nd
  have nd2 := List.nodup_cons.mp nd1.2
  have nTf : T ∉ a.fp := fun z => by
    obtain ⟨o, e⟩ := h.ex T z
    rw [nT] at e
    cases e
  refine ⟨ho _ (fun z : a.x = T => nTf (by rw [← z]; exact List.mem_cons_self)) (fun z : a.x = a.D => nd1.1 (by rw [z]; exact List.mem_cons_self)) _ h.ix, hD, ?_, ?_, nodup_put h.nk⟩
  · show Paired (DayR H') (a.g ++ [(d, T)]) (noteH a.h kn d w)
    unfold noteH
    rw [hh, Option.getD_none, putA_new hh]
    refine paired_snoc' ?_ ⟨rfl, hT⟩
    have : ∀ {g : List (Int × Addr)} {t : Hist}, (∀ c ∈ g.map (·.2), c ∈ a.g.map (·.2)) → Paired (DayR H) g t → Paired (DayR H') g t := by
      intro g t hg hp
      induction hp with
      | nil => exact .nil
      | cons r' _ ih' =>
        have m := hg _ List.mem_cons_self
        exact .cons ⟨r'.1, ho _ (fun z => nTf (by rw [← z]; exact List.mem_cons_of_mem _ (List.mem_cons_of_mem _ m))) (fun z => nd2.1 (by rw [← z]; exact m)) _ r'.2⟩ (ih' fun c hc => hg c (List.mem_cons_of_mem _ hc))
    exact this (fun c hc => hc) h.ta
  · show (a.x :: a.D :: (a.g ++ [(d, T)]).map (·.2)).Nodup
    rw [List.map_append]
    have e : a.x :: a.D :: (a.g.map (·.2) ++ [T]) = a.fp ++ [T] := rfl
    show (a.x :: a.D :: (a.g.map (·.2) ++ [T])).Nodup
    rw [e, List.nodup_append]
    refine ⟨nd, List.nodup_cons.mpr ⟨nofun, List.nodup_nil⟩, fun x hx y hy z => ?_⟩
    rw [List.mem_singleton.mp hy] at z
    exact nTf (by rw [← z]; exact hx)
def OKH (a : HA) : Prop := a.h.length ≤ 60 ∧ ∀ e ∈ a.h, e.2.length ≤ 60
theorem OKH.of {es : List Evt} {mv : Bool} {who : Str} {a : HA} (h : a.h = histE es mv who) (hl : es.length ≤ 60) : OKH a := by
  obtain ⟨k1, k2⟩ := hist_keys mv who es
  refine ⟨by rw [h]; omega, fun e he => ?_⟩
  rw [h] at he
  have := (hist_of mv who es e.1 e.2 (getA_of_mem k1 he)).2.1
  omega
def spHInit (C : Addr) : Sp := fun vs H Q _ => ∃ (x dx : Addr), vs = [.ref x] ∧ H x = some (.ins C dx []) ∧
  ∀ (a : HA) (H' : Hp), a.x = x → a.h = [] → a.g = [] → H a.D = none → HistAt C H' a → SameB x H H' → Q .non H'
def spNote (C : Addr) : Sp := fun vs H Q _ => ∃ (a : HA) (kn d : Int) (w : V), vs = [.ref a.x, .int kn, .int d, w] ∧ HistAt C H a ∧ OKH a ∧
  ∀ (a' : HA) (H' : Hp), a'.x = a.x → a'.h = noteH a.h kn d w → HistAt C H' a' → (∀ c ∈ a'.fp, c ∈ a.fp ∨ H c = none) → SameL a.fp H H' → Q .non H'
/-- tuples of a day and a worth -/
def RowsP (H : Hp) (ts : List Addr) (L : List (Int × V)) : Prop := Paired (fun t (p : Int × V) => H t = some (.tup [.int p.1, p.2])) ts L
theorem RowsP.mono {H H' : Hp} {ts : List Addr} {L : List (Int × V)} (h : RowsP H ts L) (s : Same H H') : RowsP H' ts L := paired_imp (fun _ _ h => s _ _ h) h
theorem RowsP.snoc {H : Hp} {ts : List Addr} {L : List (Int × V)} {t : Addr} {d : Int} {w : V} (h : RowsP H ts L) (e : H t = some (.tup [.int d, w])) : RowsP H (ts ++ [t]) (L ++ [(d, w)]) := paired_snoc' h e
theorem RowsP.upd {H : Hp} {ts : List Addr} {L : List (Int × V)} {F : Addr} {xs : List V} {o : HO} (h : RowsP H ts L) (e : H F = some (.lst xs)) : RowsP (L2.upd H F o) ts L := paired_imp (fun t p h => by rw [upd_ne (ne_of h e (by intro z; cases z))]; exact h) h
theorem RowsP.at_ {H : Hp} {ts : List Addr} {L : List (Int × V)} {i : Nat} {v : V} (h : RowsP H ts L) (e : (ts.map V.ref)[i]? = some v) : ∃ t p, v = .ref t ∧ L[i]? = some p ∧ H t = some (.tup [.int p.1, p.2]) := by
  rw [List.getElem?_map, Option.map_eq_some_iff] at e
  obtain ⟨t, e, rfl⟩ := e
  obtain ⟨p, h1, h2⟩ := paired_get h e
  exact ⟨t, p, rfl, h1, h2⟩
/-- a list of them -/
def RowsAt (H : Hp) (l : Addr) (L : List (Int × V)) : Prop := ∃ ts : List Addr, H l = some (.lst (ts.map V.ref)) ∧ RowsP H ts L
theorem RowsAt.mono {H H' : Hp} {l : Addr} {L : List (Int × V)} (h : RowsAt H l L) (s : Same H H') : RowsAt H' l L := by
  obtain ⟨ts, a, b⟩ := h
  exact ⟨ts, s _ _ a, b.mono s⟩
theorem HistAt.glen {C : Addr} {H : Hp} {a : HA} (h : HistAt C H a) : a.g.length = a.h.length := Paired.length h.ta
end LT
set_option Elab.async false
set_option linter.all false
set_option maxRecDepth 100000
set_option maxHeartbeats 1600000
/-! Own layer: a book on the heap. -/
namespace LT
open PySem PySem.Spec PyProof.Rows L2 NdefX
structure BA where
  b : Addr
  dx : Addr
  R : Addr
  M : Addr
  L : Addr
  mv : List (Str × HA)
  ld : List (Str × HA)
  rk : List (Str × Int)
  es : List Evt
def hsfp (hs : List (Str × HA)) : List Addr := hs.flatMap fun e => e.2.fp
def hsK (hs : List (Str × HA)) : List (Key × V) := enA Sum.inr (fun a : HA => V.ref a.x) hs
def BA.fp (B : BA) : List Addr := B.b :: B.R :: B.M :: B.L :: (hsfp B.mv ++ hsfp B.ld)
def lateV (es : List Evt) : V := match es.getLast? with
  | none => .non
  | some e => .int e.kn
/-- ranks -/
structure Rk (rk : List (Str × Int)) : Prop where
  nd : (rk.map (·.1)).Nodup
  nm : ∀ p ∈ rk, Nm p.1
  b1 : ∀ p ∈ rk, 1 ≤ p.2 ∧ p.2 ≤ 9
  ln : rk.length ≤ 30
def Pl (z : Str) : Prop := z = Str.ofString "" ∨ Nm z
structure EvOK (rk : List (Str × Int)) (e : Evt) : Prop where
  k0 : 0 ≤ e.kn
  d0 : 0 ≤ e.day
  d1 : e.day < 10 ^ 55
  mw : e.mv = true → e.who ∈ rk.map (·.1) ∧ (e.w = .non ∨ ∃ z, e.w = .str z ∧ Pl z)
  lw : e.mv = false → Nm e.who ∧ ∃ n : Int, e.w = .int n ∧ 0 ≤ n ∧ n < 10 ^ 57
structure BkH (CB CH : Addr) (H : Hp) (B : BA) (v : V) : Prop where
  ix : H B.b = some (.ins CB B.dx [("rank_of", .ref B.R), ("moves", .ref B.M), ("landings", .ref B.L), ("latest_known", v)])
  rd : H B.R = some (.dK (sd B.rk))
  md : H B.M = some (.dK (hsK B.mv))
  ldd : H B.L = some (.dK (hsK B.ld))
  hm : ∀ e ∈ B.mv, HistAt CH H e.2
  hl : ∀ e ∈ B.ld, HistAt CH H e.2
  nd : B.fp.Nodup
structure BkP (B : BA) : Prop where
  rk : Rk B.rk
  km : B.mv.map (·.1) = B.rk.map (·.1)
  lk : (B.ld.map (·.1)).Nodup
  hm : ∀ e ∈ B.mv, e.2.h = histE B.es true e.1
  hl : ∀ e ∈ B.ld, e.2.h = histE B.es false e.1
  ln : ∀ e ∈ B.es, e.mv = false → e.who ∈ B.ld.map (·.1)
  up : Rising B.es
  ev : ∀ e ∈ B.es, EvOK B.rk e
theorem hsfp_app (a b : List (Str × HA)) : hsfp (a ++ b) = hsfp a ++ hsfp b := List.flatMap_append
theorem hsfp_cons (e : Str × HA) (b : List (Str × HA)) : hsfp (e :: b) = e.2.fp ++ hsfp b := rfl
theorem hsfp_mem {hs : List (Str × HA)} {c : Addr} : c ∈ hsfp hs ↔ ∃ e ∈ hs, c ∈ e.2.fp := List.mem_flatMap
theorem BkH.ex {CB CH : Addr} {H : Hp} {B : BA} {v : V} (h : BkH CB CH H B v) : ∀ c ∈ B.fp, ∃ o, H c = some o := by
  intro c hc
  rcases List.mem_cons.mp hc with rfl | hc
  · exact ⟨_, h.ix⟩
  rcases List.mem_cons.mp hc with rfl | hc
  · exact ⟨_, h.rd⟩
  rcases List.mem_cons.mp hc with rfl | hc
  · exact ⟨_, h.md⟩
  rcases List.mem_cons.mp hc with rfl | hc
  · exact ⟨_, h.ldd⟩
  rcases List.mem_append.mp hc with hc | hc
  · obtain ⟨e, he, hc⟩ := hsfp_mem.mp hc
    exact (h.hm e he).ex c hc
  · obtain ⟨e, he, hc⟩ := hsfp_mem.mp hc
    exact (h.hl e he).ex c hc
theorem BkH.by {CB CH : Addr} {H H' : Hp} {B : BA} {v : V} (h : BkH CB CH H B v) (f : ∀ c ∈ B.fp, ∀ o, H c = some o → H' c = some o) : BkH CB CH H' B v := by
  have m1 : B.b ∈ B.fp := List.mem_cons_self
  have m2 : B.R ∈ B.fp := List.mem_cons_of_mem _ List.mem_cons_self
  have m3 : B.M ∈ B.fp := List.mem_cons_of_mem _ (List.mem_cons_of_mem _ List.mem_cons_self)
  have m4 : B.L ∈ B.fp := List.mem_cons_of_mem _ (List.mem_cons_of_mem _ (List.mem_cons_of_mem _ List.mem_cons_self))
  have mt : ∀ c ∈ hsfp B.mv ++ hsfp B.ld, c ∈ B.fp := fun c hc => List.mem_cons_of_mem _ (List.mem_cons_of_mem _ (List.mem_cons_of_mem _ (List.mem_cons_of_mem _ hc)))
  exact ⟨f _ m1 _ h.ix, f _ m2 _ h.rd, f _ m3 _ h.md, f _ m4 _ h.ldd,
    fun e he => (h.hm e he).by fun c hc => f c (mt c (List.mem_append_left _ (hsfp_mem.mpr ⟨e, he, hc⟩))),
    fun e he => (h.hl e he).by fun c hc => f c (mt c (List.mem_append_right _ (hsfp_mem.mpr ⟨e, he, hc⟩))), h.nd⟩
theorem nodup_swap {X F F' Y : List Addr} (h : (X ++ (F ++ Y)).Nodup) (h' : F'.Nodup) (hs : ∀ c ∈ F', c ∈ F ∨ (c ∉ X ∧ c ∉ Y)) : (X ++ (F' ++ Y)).Nodup := by
  rw [List.nodup_append, List.nodup_append] at h ⊢
  obtain ⟨a, ⟨b, c, d⟩, e⟩ := h
  refine ⟨a, ⟨h', c, fun x hx y hy z => ?_⟩, fun x hx y hy z => ?_⟩
  · subst z
    rcases hs x hx with h | h
    · exact d x h x hy rfl
    · exact h.2 hy
  · subst z
    rcases List.mem_append.mp hy with hy | hy
    · rcases hs x hy with h | h
      · exact e x hx x (List.mem_append_left _ h) rfl
      · exact h.1 hx
    · exact e x hx x (List.mem_append_right _ hy) rfl
theorem get_split {α : Type} {z : Str} {a : α} : ∀ {hs : List (Str × α)}, getA hs z = some a → ∃ l1 l2, hs = l1 ++ (z, a) :: l2 ∧ z ∉ l1.map (·.1)
  | [], h => nomatch h
  | p :: r, h => by
    by_cases e : p.1 = z
    · rw [getA_pos e] at h
      cases h
      subst e
      exact ⟨[], r, rfl, nofun⟩
    · rw [getA_neg e] at h
      obtain ⟨l1, l2, rfl, n⟩ := get_split h
      refine ⟨p :: l1, l2, rfl, fun hm => ?_⟩
      rcases List.mem_cons.mp hm with hm | hm
      · exact e hm.symm
      · exact n hm
theorem hsK_swap {l1 l2 : List (Str × HA)} {z : Str} {a a' : HA} (h : a'.x = a.x) : hsK (l1 ++ (z, a') :: l2) = hsK (l1 ++ (z, a) :: l2) := by
  unfold hsK enA
  rw [List.map_append, List.map_append, List.map_cons, List.map_cons]
  show _ ++ ((Sum.inr z : Key), V.ref a'.x) :: _ = _ ++ ((Sum.inr z : Key), V.ref a.x) :: _
  rw [h]
theorem step_eq (mv : Bool) (kn : Int) (z : Str) (d : Int) (w : V) (h : Hist) : stepH mv z h ⟨mv, kn, z, d, w⟩ = noteH h kn d w := by
  unfold stepH
  rw [show ofE mv z ⟨mv, kn, z, d, w⟩ = true from ofE_iff.mpr ⟨rfl, rfl⟩]
  rfl
theorem step_ne {mv : Bool} {who : Str} {h : Hist} {e : Evt} (n : ¬ (e.mv = mv ∧ e.who = who)) : stepH mv who h e = h := by
  unfold stepH
  rw [if_neg (fun z => n (ofE_iff.mp z))]
/-- one keeper's history put otherwise -/
theorem BkH.setM {CB CH : Addr} {H H' : Hp} {B : BA} {v : V} {l1 l2 : List (Str × HA)} {z : Str} {a a' : HA} (h : BkH CB CH H B v) (e : B.mv = l1 ++ (z, a) :: l2)
    (h' : HistAt CH H' a') (ex : a'.x = a.x) (fr : ∀ c ∈ a'.fp, c ∈ a.fp ∨ H c = none) (s : SameL a.fp H H') :
    BkH CB CH H' { B with mv := l1 ++ (z, a') :: l2 } v ∧ (∀ c ∈ BA.fp { B with mv := l1 ++ (z, a') :: l2 }, c ∈ B.fp ∨ H c = none) ∧ SameL B.fp H H' := by
  have efp : B.fp = (B.b :: B.R :: B.M :: B.L :: hsfp l1) ++ (a.fp ++ (hsfp l2 ++ hsfp B.ld)) := by
    unfold BA.fp
    rw [e, hsfp_app, hsfp_cons, List.append_assoc, List.append_assoc]
    rfl
  have efp' : BA.fp { B with mv := l1 ++ (z, a') :: l2 } = (B.b :: B.R :: B.M :: B.L :: hsfp l1) ++ (a'.fp ++ (hsfp l2 ++ hsfp B.ld)) := by
    unfold BA.fp
    show B.b :: B.R :: B.M :: B.L :: (hsfp (l1 ++ (z, a') :: l2) ++ hsfp B.ld) = _
    rw [hsfp_app, hsfp_cons, List.append_assoc, List.append_assoc]
    rfl
  have nd := h.nd
  rw [efp] at nd
  have nd0 := nd
  rw [List.nodup_append, List.nodup_append] at nd
  obtain ⟨_, ⟨_, _, n3⟩, n4⟩ := nd
  have offX : ∀ c ∈ B.b :: B.R :: B.M :: B.L :: hsfp l1, c ∉ a.fp := fun c hc hf => n4 c hc c (List.mem_append_left _ hf) rfl
  have offY : ∀ c ∈ hsfp l2 ++ hsfp B.ld, c ∉ a.fp := fun c hc hf => n3 c hf c hc rfl
  have exf := h.ex
  refine ⟨⟨s _ _ (offX _ List.mem_cons_self) h.ix, s _ _ (offX _ (List.mem_cons_of_mem _ List.mem_cons_self)) h.rd, ?_, s _ _ (offX _ (List.mem_cons_of_mem _ (List.mem_cons_of_mem _ (List.mem_cons_of_mem _ List.mem_cons_self)))) h.ldd, ?_, ?_, ?_⟩, ?_, ?_⟩
  · show H' B.M = some (.dK (hsK (l1 ++ (z, a') :: l2)))
    rw [hsK_swap ex, ← e]
    exact s _ _ (offX _ (List.mem_cons_of_mem _ (List.mem_cons_of_mem _ List.mem_cons_self))) h.md
  · intro q hq
    rcases List.mem_append.mp hq with hq | hq
    · exact (h.hm q (by rw [e]; exact List.mem_append_left _ hq)).monoL s fun c hc => offX c (List.mem_cons_of_mem _ (List.mem_cons_of_mem _ (List.mem_cons_of_mem _ (List.mem_cons_of_mem _ (hsfp_mem.mpr ⟨q, hq, hc⟩)))))
    · rcases List.mem_cons.mp hq with rfl | hq
      · exact h'
      · exact (h.hm q (by rw [e]; exact List.mem_append_right _ (List.mem_cons_of_mem _ hq))).monoL s fun c hc => offY c (List.mem_append_left _ (hsfp_mem.mpr ⟨q, hq, hc⟩))
  · exact fun q hq => (h.hl q hq).monoL s fun c hc => offY c (List.mem_append_right _ (hsfp_mem.mpr ⟨q, hq, hc⟩))
  · rw [efp']
    refine nodup_swap nd0 h'.nd fun c hc => ?_
    rcases fr c hc with f | f
    · exact .inl f
    · refine .inr ⟨fun z => ?_, fun z => ?_⟩
      · obtain ⟨o, w⟩ := exf c (by rw [efp]; exact List.mem_append_left _ z)
        rw [f] at w
        cases w
      · obtain ⟨o, w⟩ := exf c (by rw [efp]; exact List.mem_append_right _ (List.mem_append_right _ z))
        rw [f] at w
        cases w
  · intro c hc
    rw [efp'] at hc
    rw [efp]
    rcases List.mem_append.mp hc with hc | hc
    · exact .inl (List.mem_append_left _ hc)
    · rcases List.mem_append.mp hc with hc | hc
      · exact (fr c hc).imp (fun f => List.mem_append_right _ (List.mem_append_left _ f)) id
      · exact .inl (List.mem_append_right _ (List.mem_append_right _ hc))
  · refine s.mono fun c hc => ?_
    rw [efp]
    exact List.mem_append_right _ (List.mem_append_left _ hc)
/-- one light's history put otherwise -/
theorem BkH.setL {CB CH : Addr} {H H' : Hp} {B : BA} {v : V} {l1 l2 : List (Str × HA)} {z : Str} {a a' : HA} (h : BkH CB CH H B v) (e : B.ld = l1 ++ (z, a) :: l2)
    (h' : HistAt CH H' a') (ex : a'.x = a.x) (fr : ∀ c ∈ a'.fp, c ∈ a.fp ∨ H c = none) (s : SameL a.fp H H') :
    BkH CB CH H' { B with ld := l1 ++ (z, a') :: l2 } v ∧ (∀ c ∈ BA.fp { B with ld := l1 ++ (z, a') :: l2 }, c ∈ B.fp ∨ H c = none) ∧ SameL B.fp H H' := by
  have efp : B.fp = (B.b :: B.R :: B.M :: B.L :: (hsfp B.mv ++ hsfp l1)) ++ (a.fp ++ hsfp l2) := by
    unfold BA.fp
    rw [e, hsfp_app, hsfp_cons, ← List.append_assoc]
    rfl
  have efp' : BA.fp { B with ld := l1 ++ (z, a') :: l2 } = (B.b :: B.R :: B.M :: B.L :: (hsfp B.mv ++ hsfp l1)) ++ (a'.fp ++ hsfp l2) := by
    unfold BA.fp
    show B.b :: B.R :: B.M :: B.L :: (hsfp B.mv ++ hsfp (l1 ++ (z, a') :: l2)) = _
    rw [hsfp_app, hsfp_cons, ← List.append_assoc]
    rfl
  have nd := h.nd
  rw [efp] at nd
  have nd0 := nd
  rw [List.nodup_append, List.nodup_append] at nd
  obtain ⟨_, ⟨_, _, n3⟩, n4⟩ := nd
  have offX : ∀ c ∈ B.b :: B.R :: B.M :: B.L :: (hsfp B.mv ++ hsfp l1), c ∉ a.fp := fun c hc hf => n4 c hc c (List.mem_append_left _ hf) rfl
  have offY : ∀ c ∈ hsfp l2, c ∉ a.fp := fun c hc hf => n3 c hf c hc rfl
  have exf := h.ex
  have d4 : ∀ {c : Addr} {X : List Addr}, c ∈ X → c ∈ B.b :: B.R :: B.M :: B.L :: X := fun h => List.mem_cons_of_mem _ (List.mem_cons_of_mem _ (List.mem_cons_of_mem _ (List.mem_cons_of_mem _ h)))
  refine ⟨⟨s _ _ (offX _ List.mem_cons_self) h.ix, s _ _ (offX _ (List.mem_cons_of_mem _ List.mem_cons_self)) h.rd, s _ _ (offX _ (List.mem_cons_of_mem _ (List.mem_cons_of_mem _ List.mem_cons_self))) h.md, ?_, ?_, ?_, ?_⟩, ?_, ?_⟩
  · show H' B.L = some (.dK (hsK (l1 ++ (z, a') :: l2)))
    rw [hsK_swap ex, ← e]
    exact s _ _ (offX _ (List.mem_cons_of_mem _ (List.mem_cons_of_mem _ (List.mem_cons_of_mem _ List.mem_cons_self)))) h.ldd
  · exact fun q hq => (h.hm q hq).monoL s fun c hc => offX c (d4 (List.mem_append_left _ (hsfp_mem.mpr ⟨q, hq, hc⟩)))
  · intro q hq
    rcases List.mem_append.mp hq with hq | hq
    · exact (h.hl q (by rw [e]; exact List.mem_append_left _ hq)).monoL s fun c hc => offX c (d4 (List.mem_append_right _ (hsfp_mem.mpr ⟨q, hq, hc⟩)))
    · rcases List.mem_cons.mp hq with rfl | hq
      · exact h'
      · exact (h.hl q (by rw [e]; exact List.mem_append_right _ (List.mem_cons_of_mem _ hq))).monoL s fun c hc => offY c (hsfp_mem.mpr ⟨q, hq, hc⟩)
  · rw [efp']
    refine nodup_swap nd0 h'.nd fun c hc => ?_
    rcases fr c hc with f | f
    · exact .inl f
    · refine .inr ⟨fun z => ?_, fun z => ?_⟩
      · obtain ⟨o, w⟩ := exf c (by rw [efp]; exact List.mem_append_left _ z)
        rw [f] at w
        cases w
      · obtain ⟨o, w⟩ := exf c (by rw [efp]; exact List.mem_append_right _ (List.mem_append_right _ z))
        rw [f] at w
        cases w
  · intro c hc
    rw [efp'] at hc
    rw [efp]
    rcases List.mem_append.mp hc with hc | hc
    · exact .inl (List.mem_append_left _ hc)
    · rcases List.mem_append.mp hc with hc | hc
      · exact (fr c hc).imp (fun f => List.mem_append_right _ (List.mem_append_left _ f)) id
      · exact .inl (List.mem_append_right _ (List.mem_append_right _ hc))
  · refine s.mono fun c hc => ?_
    rw [efp]
    exact List.mem_append_right _ (List.mem_append_left _ hc)
/-- one light more -/
theorem BkH.newL {CB CH : Addr} {H H1 H' : Hp} {B : BA} {v : V} {z : Str} {a : HA} (h : BkH CB CH H B v) (s1 : Same H H1) (h' : HistAt CH H1 a) (fr : ∀ c ∈ a.fp, H c = none)
    (hL : H' B.L = some (.dK (hsK (B.ld ++ [(z, a)])))) (s : SameB B.L H1 H') :
    BkH CB CH H' { B with ld := B.ld ++ [(z, a)] } v ∧ (∀ c ∈ BA.fp { B with ld := B.ld ++ [(z, a)] }, c ∈ B.fp ∨ H c = none) ∧ SameL B.fp H H' := by
  have efp' : BA.fp { B with ld := B.ld ++ [(z, a)] } = B.fp ++ a.fp := by
    unfold BA.fp
    show B.b :: B.R :: B.M :: B.L :: (hsfp B.mv ++ hsfp (B.ld ++ [(z, a)])) = _
    rw [hsfp_app, ← List.append_assoc]
    show _ = B.b :: B.R :: B.M :: B.L :: (hsfp B.mv ++ hsfp B.ld ++ a.fp)
    rw [show hsfp [(z, a)] = a.fp from List.append_nil _]
  have exf := h.ex
  have nd := h.nd
  have n1 := (List.nodup_cons.mp nd).1
  have n2 := (List.nodup_cons.mp (List.nodup_cons.mp nd).2).1
  have n3 := (List.nodup_cons.mp (List.nodup_cons.mp (List.nodup_cons.mp nd).2).2).1
  have n4 := (List.nodup_cons.mp (List.nodup_cons.mp (List.nodup_cons.mp (List.nodup_cons.mp nd).2).2).2).1
  have mL : B.L ∈ B.fp := List.mem_cons_of_mem _ (List.mem_cons_of_mem _ (List.mem_cons_of_mem _ List.mem_cons_self))
  have up : ∀ c o, c ≠ B.L → H c = some o → H' c = some o := fun c o n e => s c o n (s1 c o e)
  refine ⟨⟨up _ _ (fun z => n1 (by rw [z]; exact List.mem_cons_of_mem _ (List.mem_cons_of_mem _ List.mem_cons_self))) h.ix, up _ _ (fun z => n2 (by rw [z]; exact List.mem_cons_of_mem _ List.mem_cons_self)) h.rd,
    up _ _ (fun z => n3 (by rw [z]; exact List.mem_cons_self)) h.md, hL, ?_, ?_, ?_⟩, ?_, ?_⟩
  · exact fun q hq => (h.hm q hq).by fun c hc o e => up c o (fun z => n4 (by rw [← z]; exact List.mem_append_left _ (hsfp_mem.mpr ⟨q, hq, hc⟩))) e
  · intro q hq
    rcases List.mem_append.mp hq with hq | hq
    · exact (h.hl q hq).by fun c hc o e => up c o (fun z => n4 (by rw [← z]; exact List.mem_append_right _ (hsfp_mem.mpr ⟨q, hq, hc⟩))) e
    · rw [List.mem_singleton.mp hq]
      refine h'.by fun c hc o e => s c o (fun z => ?_) e
      obtain ⟨o', w⟩ := exf B.L mL
      rw [← z, fr c hc] at w
      cases w
  · rw [efp', List.nodup_append]
    refine ⟨nd, h'.nd, fun x hx y hy z => ?_⟩
    obtain ⟨o', w⟩ := exf x hx
    rw [z, fr y hy] at w
    cases w
  · intro c hc
    rw [efp'] at hc
    exact (List.mem_append.mp hc).imp id (fr c)
  · exact fun c o n e => up c o (fun z => n (by rw [z]; exact mL)) e
/-- another latest day -/
theorem BkH.late {CB CH : Addr} {H : Hp} {B : BA} {v : V} (h : BkH CB CH H B v) (v' : V) :
    BkH CB CH (upd H B.b (.ins CB B.dx [("rank_of", .ref B.R), ("moves", .ref B.M), ("landings", .ref B.L), ("latest_known", v')])) B v' := by
  have n1 := (List.nodup_cons.mp h.nd).1
  have up : ∀ {c : Addr} {o : HO}, c ∈ B.R :: B.M :: B.L :: (hsfp B.mv ++ hsfp B.ld) → H c = some o → upd H B.b (.ins CB B.dx [("rank_of", .ref B.R), ("moves", .ref B.M), ("landings", .ref B.L), ("latest_known", v')]) c = some o := fun hc e => by
    rw [upd_ne (fun z => n1 (by rw [← z]; exact hc))]
    exact e
  have d3 : ∀ {c : Addr}, c ∈ hsfp B.mv ++ hsfp B.ld → c ∈ B.R :: B.M :: B.L :: (hsfp B.mv ++ hsfp B.ld) := fun h => List.mem_cons_of_mem _ (List.mem_cons_of_mem _ (List.mem_cons_of_mem _ h))
  exact ⟨upd_same, up List.mem_cons_self h.rd, up (List.mem_cons_of_mem _ List.mem_cons_self) h.md, up (List.mem_cons_of_mem _ (List.mem_cons_of_mem _ List.mem_cons_self)) h.ldd,
    fun q hq => (h.hm q hq).by fun c hc o e => up (d3 (List.mem_append_left _ (hsfp_mem.mpr ⟨q, hq, hc⟩))) e,
    fun q hq => (h.hl q hq).by fun c hc o e => up (d3 (List.mem_append_right _ (hsfp_mem.mpr ⟨q, hq, hc⟩))) e, h.nd⟩
/-- a book of these ranks stands at b, told these things; its own addresses are fp -/
def Bk (CB CH : Addr) (H : Hp) (b : Addr) (rk : List (Str × Int)) (es : List Evt) (fp : List Addr) : Prop :=
  ∃ B : BA, B.b = b ∧ B.rk = rk ∧ B.es = es ∧ B.fp = fp ∧ BkH CB CH H B (lateV es) ∧ BkP B ∧ B.ld.length ≤ B.es.length
theorem Bk.by {CB CH : Addr} {H H' : Hp} {b : Addr} {rk : List (Str × Int)} {es : List Evt} {fp : List Addr} (h : Bk CB CH H b rk es fp) (f : ∀ c ∈ fp, ∀ o, H c = some o → H' c = some o) : Bk CB CH H' b rk es fp := by
  obtain ⟨B, rfl, rfl, rfl, rfl, h1, h2⟩ := h
  exact ⟨B, rfl, rfl, rfl, rfl, h1.by f, h2⟩
theorem Bk.mono {CB CH : Addr} {H H' : Hp} {b : Addr} {rk : List (Str × Int)} {es : List Evt} {fp : List Addr} (h : Bk CB CH H b rk es fp) (s : Same H H') : Bk CB CH H' b rk es fp := h.by fun c _ o e => s c o e
theorem Bk.monoL {CB CH : Addr} {H H' : Hp} {S : List Addr} {b : Addr} {rk : List (Str × Int)} {es : List Evt} {fp : List Addr} (h : Bk CB CH H b rk es fp) (s : SameL S H H') (n : ∀ c ∈ fp, c ∉ S) : Bk CB CH H' b rk es fp := h.by fun c hc o e => s c o (n c hc) e
theorem Bk.ex {CB CH : Addr} {H : Hp} {b : Addr} {rk : List (Str × Int)} {es : List Evt} {fp : List Addr} (h : Bk CB CH H b rk es fp) : ∀ c ∈ fp, ∃ o, H c = some o := by
  obtain ⟨B, rfl, rfl, rfl, rfl, h1, _⟩ := h
  exact h1.ex
theorem Bk.ev {CB CH : Addr} {H : Hp} {b : Addr} {rk : List (Str × Int)} {es : List Evt} {fp : List Addr} (h : Bk CB CH H b rk es fp) : Rk rk ∧ Rising es ∧ ∀ e ∈ es, EvOK rk e := by
  obtain ⟨B, rfl, rfl, rfl, rfl, _, h2, _⟩ := h
  exact ⟨h2.rk, h2.up, h2.ev⟩
theorem lateV_snoc (es : List Evt) (e : Evt) : lateV (es ++ [e]) = .int e.kn := by
  unfold lateV
  rw [List.getLast?_append]
  rfl
theorem late_le {es : List Evt} {kn : Int} (h : ∀ e ∈ es, e.kn ≤ kn) : lateV es = .non ∨ ∃ l, lateV es = .int l ∧ l ≤ kn := by
  unfold lateV
  cases e : es.getLast? with
  | none => exact .inl rfl
  | some x => exact .inr ⟨x.kn, rfl, h x (List.mem_of_getLast? e)⟩
theorem rising_app {es : List Evt} {e : Evt} (h : Rising es) (g : ∀ a ∈ es, a.kn ≤ e.kn) : Rising (es ++ [e]) := by
  rw [Rising, List.pairwise_append]
  refine ⟨h, List.pairwise_singleton _ _, fun a ha b hb => ?_⟩
  rw [List.mem_singleton.mp hb]
  exact g a ha
/-- the pure side of a told move -/
theorem BkP.tell {B : BA} {l1 l2 : List (Str × HA)} {z : Str} {a a' : HA} {kn d : Int} {w : V} (h : BkP B) (e : B.mv = l1 ++ (z, a) :: l2) (ha : a'.h = noteH a.h kn d w)
    (hk : ∀ x ∈ B.es, x.kn ≤ kn) (ok : EvOK B.rk ⟨true, kn, z, d, w⟩) : BkP { B with mv := l1 ++ (z, a') :: l2, es := B.es ++ [⟨true, kn, z, d, w⟩] } := by
  have nk : (B.mv.map (·.1)).Nodup := by rw [h.km]; exact h.rk.nd
  rw [e, List.map_append, List.map_cons, List.nodup_append, List.nodup_cons] at nk
  obtain ⟨_, ⟨k2, _⟩, k4⟩ := nk
  have hne : ∀ q ∈ l1 ++ l2, q.1 ≠ z := by
    intro q hq hz
    rcases List.mem_append.mp hq with hq | hq
    · exact k4 z (by rw [← hz]; exact List.mem_map.mpr ⟨q, hq, rfl⟩) z List.mem_cons_self rfl
    · exact k2 (by show z ∈ _; rw [← hz]; exact List.mem_map.mpr ⟨q, hq, rfl⟩)
  have old : ∀ q ∈ l1 ++ l2, q.2.h = histE (B.es ++ [⟨true, kn, z, d, w⟩]) true q.1 := by
    intro q hq
    rw [histE_snoc, step_ne (fun he => hne q hq he.2.symm)]
    exact h.hm q (by
      rw [e]
      rcases List.mem_append.mp hq with hq | hq
      · exact List.mem_append_left _ hq
      · exact List.mem_append_right _ (List.mem_cons_of_mem _ hq))
  refine ⟨h.rk, ?_, h.lk, ?_, ?_, ?_, rising_app h.up hk, ?_⟩
  · have := h.km
    rw [e] at this
    show (l1 ++ (z, a') :: l2).map (·.1) = _
    rw [← this, List.map_append, List.map_append]
    rfl
  · intro q hq
    rcases List.mem_append.mp hq with hq | hq
    · exact old q (List.mem_append_left _ hq)
    rcases List.mem_cons.mp hq with rfl | hq
    · show a'.h = histE (B.es ++ [⟨true, kn, z, d, w⟩]) true z
      rw [histE_snoc]
      rw [step_eq, ha]
      have := h.hm (z, a) (by rw [e]; exact List.mem_append_right _ List.mem_cons_self)
      rw [show a.h = _ from this]
    · exact old q (List.mem_append_right _ hq)
  · intro q hq
    show q.2.h = histE (B.es ++ [⟨true, kn, z, d, w⟩]) false q.1
    rw [histE_snoc, step_ne (fun he => by cases he.1)]
    exact h.hl q hq
  · intro x hx hm
    rcases List.mem_append.mp hx with hx | hx
    · exact h.ln x hx hm
    · rw [List.mem_singleton.mp hx] at hm
      cases hm
  · intro x hx
    rcases List.mem_append.mp hx with hx | hx
    · exact h.ev x hx
    · rw [List.mem_singleton.mp hx]
      exact ok
/-- the pure side of a told landing, of a light that has a history -/
theorem BkP.land {B : BA} {l1 l2 : List (Str × HA)} {z : Str} {a a' : HA} {kn d : Int} {w : V} (h : BkP B) (e : B.ld = l1 ++ (z, a) :: l2) (ha : a'.h = noteH a.h kn d w)
    (hk : ∀ x ∈ B.es, x.kn ≤ kn) (ok : EvOK B.rk ⟨false, kn, z, d, w⟩) : BkP { B with ld := l1 ++ (z, a') :: l2, es := B.es ++ [⟨false, kn, z, d, w⟩] } := by
  have nk := h.lk
  rw [e, List.map_append, List.map_cons, List.nodup_append, List.nodup_cons] at nk
  obtain ⟨_, ⟨k2, _⟩, k4⟩ := nk
  have hne : ∀ q ∈ l1 ++ l2, q.1 ≠ z := by
    intro q hq hz
    rcases List.mem_append.mp hq with hq | hq
    · exact k4 z (by rw [← hz]; exact List.mem_map.mpr ⟨q, hq, rfl⟩) z List.mem_cons_self rfl
    · exact k2 (by show z ∈ _; rw [← hz]; exact List.mem_map.mpr ⟨q, hq, rfl⟩)
  have old : ∀ q ∈ l1 ++ l2, q.2.h = histE (B.es ++ [⟨false, kn, z, d, w⟩]) false q.1 := by
    intro q hq
    rw [histE_snoc, step_ne (fun he => hne q hq he.2.symm)]
    exact h.hl q (by
      rw [e]
      rcases List.mem_append.mp hq with hq | hq
      · exact List.mem_append_left _ hq
      · exact List.mem_append_right _ (List.mem_cons_of_mem _ hq))
  have ek : (l1 ++ (z, a') :: l2).map (·.1) = B.ld.map (·.1) := by
    rw [e, List.map_append, List.map_append]
    rfl
  refine ⟨h.rk, h.km, ?_, ?_, ?_, ?_, rising_app h.up hk, ?_⟩
  · show ((l1 ++ (z, a') :: l2).map (·.1)).Nodup
    rw [ek]
    exact h.lk
  · intro q hq
    show q.2.h = histE (B.es ++ [⟨false, kn, z, d, w⟩]) true q.1
    rw [histE_snoc, step_ne (fun he => by cases he.1)]
    exact h.hm q hq
  · intro q hq
    rcases List.mem_append.mp hq with hq | hq
    · exact old q (List.mem_append_left _ hq)
    rcases List.mem_cons.mp hq with rfl | hq
    · show a'.h = histE (B.es ++ [⟨false, kn, z, d, w⟩]) false z
      rw [histE_snoc]
      rw [step_eq, ha]
      have := h.hl (z, a) (by rw [e]; exact List.mem_append_right _ List.mem_cons_self)
      rw [show a.h = _ from this]
    · exact old q (List.mem_append_right _ hq)
  · intro x hx hm
    show x.who ∈ (l1 ++ (z, a') :: l2).map (·.1)
    rw [ek]
    rcases List.mem_append.mp hx with hx | hx
    · exact h.ln x hx hm
    · rw [List.mem_singleton.mp hx, e, List.map_append]
      exact List.mem_append_right _ List.mem_cons_self
  · intro x hx
    rcases List.mem_append.mp hx with hx | hx
    · exact h.ev x hx
    · rw [List.mem_singleton.mp hx]
      exact ok
theorem hist_none {z : Str} : ∀ es : List Evt, (∀ e ∈ es, e.mv = false → e.who ≠ z) → histE es false z = [] := by
  refine snoc_ind (fun _ => rfl) fun es e ih h => ?_
  rw [histE_snoc, ih fun x hx => h x (List.mem_append_left _ hx)]
  unfold stepH
  rw [if_neg (fun he => h e (List.mem_append_right _ List.mem_cons_self) (ofE_iff.mp he).1 (ofE_iff.mp he).2)]
/-- one light more, of which nothing was told -/
theorem BkP.newL {B : BA} {z : Str} {a : HA} (h : BkP B) (hz : z ∉ B.ld.map (·.1)) (ha : a.h = []) : BkP { B with ld := B.ld ++ [(z, a)] } := by
  refine ⟨h.rk, h.km, ?_, h.hm, ?_, ?_, h.up, h.ev⟩
  · show ((B.ld ++ [(z, a)]).map (·.1)).Nodup
    rw [List.map_append, List.nodup_append]
    refine ⟨h.lk, List.nodup_cons.mpr ⟨nofun, List.nodup_nil⟩, fun x hx y hy e => ?_⟩
    rw [List.map_singleton, List.mem_singleton] at hy
    exact hz (by rw [← show y = z from hy, ← e]; exact hx)
  · intro q hq
    rcases List.mem_append.mp hq with hq | hq
    · exact h.hl q hq
    · rw [List.mem_singleton.mp hq]
      show a.h = _
      rw [ha, hist_none B.es fun e he hm (e2 : e.who = z) => hz (by rw [← e2]; exact h.ln e he hm)]
  · intro x hx hm
    show x.who ∈ (B.ld ++ [(z, a)]).map (·.1)
    rw [List.map_append]
    exact List.mem_append_left _ (h.ln x hx hm)
end LT
set_option Elab.async false
set_option linter.all false
set_option maxRecDepth 100000
set_option maxHeartbeats 1600000
/-! Own layer: {k: v} with a tuple as key; "".join(reversed(a list)). -/
namespace LT
open PySem PySem.Spec PyProof.Rows L2 NdefX
/-! ### {k: v}, k a tuple -/
/-! ### "".join(reversed(xs)) -/
end LT
set_option Elab.async false
set_option linter.all false
set_option maxRecDepth 100000
set_option maxHeartbeats 1600000
/-! Own layer: weathers along tables, and the search for the first one beyond (pure). -/
namespace LT
open PySem PySem.Spec PyProof.Rows L2 NdefX
/-- where some weather leads -/
def aftF (t : KTab) : Int → List Nat → Option Int
  | i, [] => some i
  | i, c :: cs => match (t[i.toNat]?).bind (fun r => getA r ⟨#[c]⟩) with
    | none => none
    | some j => aftF t j cs
def rowAt (t : KTab) (i : Int) : KRow := (t[i.toNat]?).getD []
theorem rowAt_of {t : KTab} {i : Int} {r : KRow} (e : t[i.toNat]? = some r) : rowAt t i = r := by unfold rowAt; rw [e]; rfl
theorem bind_row (t : KTab) (i : Int) (z : Str) : (t[i.toNat]?).bind (fun r => getA r z) = getA (rowAt t i) z := by
  unfold rowAt
  cases t[i.toNat]? with
  | none => rfl
  | some r => rfl
theorem aft_cons (t : KTab) (i : Int) (c : Nat) (cs : List Nat) : aftF t i (c :: cs) = (getA (rowAt t i) ⟨#[c]⟩).bind fun j => aftF t j cs := by
  rw [aftF, bind_row]
  cases getA (rowAt t i) ⟨#[c]⟩ <;> rfl
theorem aft_app (t : KTab) : ∀ (a b : List Nat) (i : Int), aftF t i (a ++ b) = (aftF t i a).bind fun j => aftF t j b
  | [], b, i => rfl
  | c :: a, b, i => by
    rw [List.cons_append, aft_cons, aft_cons]
    cases getA (rowAt t i) ⟨#[c]⟩ with
    | none => rfl
    | some j => exact aft_app t a b j
theorem aft_snoc (t : KTab) (w : List Nat) (c : Nat) (i : Int) : aftF t i (w ++ [c]) = (aftF t i w).bind fun j => getA (rowAt t j) ⟨#[c]⟩ := by
  rw [aft_app]
  cases aftF t i w with
  | none => rfl
  | some j =>
    show aftF t j [c] = getA (rowAt t j) ⟨#[c]⟩
    rw [aft_cons]
    cases getA (rowAt t j) ⟨#[c]⟩ <;> rfl
theorem KTb.rowAt {t : KTab} (k : KTb t) {i : Int} (h0 : 0 ≤ i) (h1 : i < t.length) : KRw t.length (rowAt t i) := by
  have : i.toNat < t.length := by omega
  have e : t[i.toNat]? = some t[i.toNat] := List.getElem?_eq_getElem this
  rw [rowAt_of e]
  exact k.at_ e
/-! ### the search -/
abbrev Ent := (Int × Int) × List Nat
def addE (es : List Ent) (p : Int × Int) (w : List Nat) : List Ent := if p ∈ es.map (·.1) then es else es ++ [(p, w)]
theorem addE_pre (es : List Ent) (p : Int × Int) (w : List Nat) : es <+: addE es p w := by
  unfold addE
  split
  · exact List.prefix_refl _
  · exact List.prefix_append _ _
theorem addE_mem (es : List Ent) (p : Int × Int) (w : List Nat) : p ∈ (addE es p w).map (·.1) := by
  unfold addE
  split
  · assumption
  · rw [List.map_append, List.mem_append]
    exact .inr List.mem_cons_self
theorem addE_in {es : List Ent} {p : Int × Int} {w : List Nat} {e : Ent} (h : e ∈ addE es p w) : e ∈ es ∨ e = (p, w) := by
  unfold addE at h
  split at h
  · exact .inl h
  · rcases List.mem_append.mp h with h | h
    · exact .inl h
    · exact .inr (List.mem_singleton.mp h)
def scanR (w : List Nat) (o : KRow) : KRow → List Ent → (List Nat) ⊕ (List Ent)
  | [], es => .inr es
  | (z, v) :: r, es => match getA o z with
    | none => .inl (w ++ z.cps.toList)
    | some u => scanR w o r (addE es (v, u) (w ++ z.cps.toList))
inductive BSt
  | run (a : Nat) (es : List Ent)
  | stop (x : Option (List Nat))
def stepB (t u : KTab) : BSt → BSt
  | .stop x => .stop x
  | .run a es => match es[a]? with
    | none => .stop none
    | some e => match scanR e.2 (rowAt u e.1.2) (rowAt t e.1.1) es with
      | .inl w => .stop (some w)
      | .inr es' => .run (a + 1) es'
def iterB (t u : KTab) : Nat → BSt
  | 0 => .run 0 [((0, 0), [])]
  | n + 1 => stepB t u (iterB t u n)
def Res (t u : KTab) (x : Option (List Nat)) : Prop := ∃ n, iterB t u n = .stop x
theorem iter_stay {t u : KTab} {n : Nat} {x : Option (List Nat)} (h : iterB t u n = .stop x) : ∀ m, iterB t u (n + m) = .stop x
  | 0 => h
  | m + 1 => by
    show stepB t u (iterB t u (n + m)) = _
    rw [iter_stay h m]
    rfl
theorem Res.uniq {t u : KTab} {x y : Option (List Nat)} (h : Res t u x) (g : Res t u y) : x = y := by
  obtain ⟨n, h⟩ := h
  obtain ⟨m, g⟩ := g
  have a := iter_stay h m
  have b := iter_stay g n
  rw [Nat.add_comm] at b
  rw [a] at b
  injection b
/-- what holds of all that is met -/
structure BI (t u : KTab) (es : List Ent) : Prop where
  nd : (es.map (·.1)).Nodup
  bd : ∀ e ∈ es, (0 ≤ e.1.1 ∧ e.1.1 < t.length) ∧ (0 ≤ e.1.2 ∧ e.1.2 < u.length)
  re : ∀ e ∈ es, aftF t 0 e.2 = some e.1.1 ∧ aftF u 0 e.2 = some e.1.2
  hd : es[0]? = some ((0, 0), [])
theorem BI.start {t u : KTab} (k1 : KTb t) (k2 : KTb u) : BI t u [((0, 0), [])] := by
  have a := k1.l1
  have b := k2.l1
  refine ⟨List.nodup_cons.mpr ⟨nofun, List.nodup_nil⟩, fun e he => ?_, fun e he => ?_, rfl⟩
  · rw [List.mem_singleton.mp he]
    exact ⟨⟨Int.le_refl _, by show (0 : Int) < _; omega⟩, ⟨Int.le_refl _, by show (0 : Int) < _; omega⟩⟩
  · rw [List.mem_singleton.mp he]
    exact ⟨rfl, rfl⟩
theorem BI.add {t u : KTab} {es : List Ent} (h : BI t u es) {i j : Int} {w : List Nat} (hi : 0 ≤ i ∧ i < t.length) (hj : 0 ≤ j ∧ j < u.length) (ht : aftF t 0 w = some i) (hu : aftF u 0 w = some j) : BI t u (addE es (i, j) w) := by
  refine ⟨?_, fun e he => ?_, fun e he => ?_, ?_⟩
  · unfold addE
    split
    · exact h.nd
    · rename_i hn
      rw [List.map_append, List.nodup_append]
      refine ⟨h.nd, List.nodup_cons.mpr ⟨nofun, List.nodup_nil⟩, fun x hx y hy => ?_⟩
      rw [List.mem_singleton.mp hy]
      rintro rfl
      exact hn hx
  · rcases addE_in he with he | rfl
    · exact h.bd e he
    · exact ⟨hi, hj⟩
  · rcases addE_in he with he | rfl
    · exact h.re e he
    · exact ⟨ht, hu⟩
  · obtain ⟨s, hs⟩ := addE_pre es (i, j) w
    rw [← hs, List.getElem?_append_left, h.hd]
    exact (List.getElem?_eq_some_iff.mp h.hd).1
theorem box_len (n m : Nat) (ps : List (Int × Int)) (nd : ps.Nodup) (h : ∀ p ∈ ps, (0 ≤ p.1 ∧ p.1 < n) ∧ (0 ≤ p.2 ∧ p.2 < m)) : ps.length ≤ n * m := by
  have hs : ps ⊆ (List.range n).flatMap fun i => (List.range m).map fun j => (((i : Nat) : Int), ((j : Nat) : Int)) := by
    intro p hp
    obtain ⟨⟨a, b⟩, c, d⟩ := h p hp
    rw [List.mem_flatMap]
    refine ⟨p.1.toNat, List.mem_range.mpr (by omega), List.mem_map.mpr ⟨p.2.toNat, List.mem_range.mpr (by omega), ?_⟩⟩
    rw [show ((p.1.toNat : Nat) : Int) = p.1 by omega, show ((p.2.toNat : Nat) : Int) = p.2 by omega]
  have hl := List.Nodup.length_le_of_subset nd hs
  have e : ((List.range n).flatMap fun i => (List.range m).map fun j => (((i : Nat) : Int), ((j : Nat) : Int))).length = n * m := by
    clear hl hs h nd ps
    induction n with
    | zero => simp
    | succ n ih => rw [List.range_succ, List.flatMap_append, List.length_append, ih]; simp [Nat.succ_mul]
  omega
theorem BI.len {t u : KTab} {es : List Ent} (h : BI t u es) (k1 : KTb t) (k2 : KTb u) : es.length ≤ 1000000 := by
  have := box_len t.length u.length (es.map (·.1)) h.nd (fun p hp => by
    obtain ⟨e, he, rfl⟩ := List.mem_map.mp hp
    exact h.bd e he)
  rw [List.length_map] at this
  have := Nat.mul_le_mul k1.l2 k2.l2
  omega
/-- a row scanned -/
theorem scan_ok {t u : KTab} (k1 : KTb t) (k2 : KTb u) {i j : Int} {w : List Nat} (hi : 0 ≤ i ∧ i < t.length) (hj : 0 ≤ j ∧ j < u.length) (ht : aftF t 0 w = some i) (hu : aftF u 0 w = some j) :
    ∀ (r : KRow) (es : List Ent), (∀ p ∈ r, getA (rowAt t i) p.1 = some p.2) → BI t u es →
    (∀ es', scanR w (rowAt u j) r es = .inr es' → es <+: es' ∧ BI t u es' ∧ ∀ p ∈ r, ∃ l, getA (rowAt u j) p.1 = some l ∧ (p.2, l) ∈ es'.map (·.1)) ∧
    (∀ x, scanR w (rowAt u j) r es = .inl x → ∃ p ∈ r, getA (rowAt u j) p.1 = none ∧ x = w ++ p.1.cps.toList)
  | [], es, _, h => ⟨fun es' e => by cases e; exact ⟨List.prefix_refl _, h, nofun⟩, fun x e => by cases e⟩
  | (z, v) :: r, es, hr, h => by
    have hz := hr _ List.mem_cons_self
    have kt := k1.rowAt hi.1 hi.2
    have ku := k2.rowAt hj.1 hj.2
    obtain ⟨c, _, rfl⟩ : Ltr z := kt.lt _ (getA_mem hz)
    unfold scanR
    cases hg : getA (rowAt u j) ⟨#[c]⟩ with
    | none =>
      refine ⟨fun es' e => ?_, fun x e => ?_⟩
      · cases e
      · cases e
        exact ⟨_, List.mem_cons_self, hg, rfl⟩
    | some l =>
      have a1 : aftF t 0 (w ++ [c]) = some v := by rw [aft_snoc, ht]; exact hz
      have a2 : aftF u 0 (w ++ [c]) = some l := by rw [aft_snoc, hu]; exact hg
      have h' := h.add (kt.get hz) (ku.get hg) a1 a2
      obtain ⟨i1, i2⟩ := scan_ok k1 k2 hi hj ht hu r _ (fun p hp => hr p (List.mem_cons_of_mem _ hp)) h'
      refine ⟨fun es' e => ?_, fun x e => ?_⟩
      · obtain ⟨p1, p2, p3⟩ := i1 es' e
        refine ⟨(addE_pre _ _ _).trans p1, p2, fun p hp => ?_⟩
        rcases List.mem_cons.mp hp with rfl | hp
        · refine ⟨l, hg, ?_⟩
          obtain ⟨s, rfl⟩ := p1
          rw [List.map_append, List.mem_append]
          exact .inl (addE_mem _ _ _)
        · exact p3 p hp
      · obtain ⟨p, hp, q⟩ := i2 x e
        exact ⟨p, List.mem_cons_of_mem _ hp, q⟩
/-- at the head of the loop -/
structure BH (t u : KTab) (n : Nat) (es : List Ent) : Prop where
  it : iterB t u n = .run n es
  bi : BI t u es
  cl : ∀ (k : Nat) (e : Ent), k < n → es[k]? = some e → ∀ z l, getA (rowAt t e.1.1) z = some l → ∃ l', getA (rowAt u e.1.2) z = some l' ∧ (l, l') ∈ es.map (·.1)
theorem BH.start {t u : KTab} (k1 : KTb t) (k2 : KTb u) : BH t u 0 [((0, 0), [])] := ⟨rfl, BI.start k1 k2, fun k e h => by omega⟩
theorem row_all {n : Nat} {r : KRow} (h : KRw n r) : ∀ p ∈ r, getA r p.1 = some p.2 := fun p hp => getA_of_mem h.nd hp
theorem BH.next {t u : KTab} (k1 : KTb t) (k2 : KTb u) {n : Nat} {es es' : List Ent} (h : BH t u n es) {e : Ent} (he : es[n]? = some e) (hs : scanR e.2 (rowAt u e.1.2) (rowAt t e.1.1) es = .inr es') : BH t u (n + 1) es' := by
  have hm := List.mem_of_getElem? he
  obtain ⟨hi, hj⟩ := h.bi.bd e hm
  obtain ⟨ht, hu⟩ := h.bi.re e hm
  obtain ⟨p1, p2, p3⟩ := (scan_ok k1 k2 hi hj ht hu _ es (row_all (k1.rowAt hi.1 hi.2)) h.bi).1 es' hs
  refine ⟨?_, p2, fun k e' hk he' z l hz => ?_⟩
  · show stepB t u (iterB t u n) = _
    rw [h.it]
    show (match es[n]? with | none => _ | some e => _) = _
    rw [he]
    show (match scanR e.2 (rowAt u e.1.2) (rowAt t e.1.1) es with | .inl w => BSt.stop (some w) | .inr es' => .run (n + 1) es') = _
    rw [hs]
  · obtain ⟨s, rfl⟩ := p1
    by_cases hkn : k = n
    · subst hkn
      have : k < es.length := (List.getElem?_eq_some_iff.mp he).1
      rw [List.getElem?_append_left this, he] at he'
      cases he'
      exact p3 (z, l) (getA_mem hz)
    · have hk2 : k < n := by omega
      have hn : n < es.length := (List.getElem?_eq_some_iff.mp he).1
      rw [List.getElem?_append_left (by omega)] at he'
      obtain ⟨l', q1, q2⟩ := h.cl k e' hk2 he' z l hz
      exact ⟨l', q1, by rw [List.map_append, List.mem_append]; exact .inl q2⟩
theorem BH.done {t u : KTab} {n : Nat} {es : List Ent} (h : BH t u n es) (he : es.length ≤ n) : Res t u none := by
  refine ⟨n + 1, ?_⟩
  show stepB t u (iterB t u n) = _
  rw [h.it]
  show (match es[n]? with | none => _ | some e => _) = _
  rw [List.getElem?_eq_none he]
theorem BH.hit {t u : KTab} {n : Nat} {es : List Ent} (h : BH t u n es) {e : Ent} {x : List Nat} (he : es[n]? = some e) (hs : scanR e.2 (rowAt u e.1.2) (rowAt t e.1.1) es = .inl x) : Res t u (some x) := by
  refine ⟨n + 1, ?_⟩
  show stepB t u (iterB t u n) = _
  rw [h.it]
  show (match es[n]? with | none => _ | some e => _) = _
  rw [he]
  show (match scanR e.2 (rowAt u e.1.2) (rowAt t e.1.1) es with | .inl w => BSt.stop (some w) | .inr es' => .run (n + 1) es') = _
  rw [hs]
/-! ### what it tells -/
theorem bh_all {t u : KTab} (k1 : KTb t) (k2 : KTb u) : ∀ n, (∃ es, BH t u n es) ∨ ∃ m es, m < n ∧ BH t u m es ∧ iterB t u (m + 1) = iterB t u n ∧ ∀ a es', iterB t u n ≠ .run a es'
  | 0 => .inl ⟨_, BH.start k1 k2⟩
  | n + 1 => by
    rcases bh_all k1 k2 n with ⟨es, h⟩ | ⟨m, es, hm, h, e, hs⟩
    · cases he : es[n]? with
      | none =>
        refine .inr ⟨n, es, Nat.lt_succ_self _, h, rfl, fun a es' => ?_⟩
        show stepB t u (iterB t u n) ≠ _
        rw [h.it]
        show (match es[n]? with | none => _ | some e => _) ≠ _
        rw [he]
        nofun
      | some e =>
        cases hsc : scanR e.2 (rowAt u e.1.2) (rowAt t e.1.1) es with
        | inr es' => exact .inl ⟨es', h.next k1 k2 he hsc⟩
        | inl x =>
          refine .inr ⟨n, es, Nat.lt_succ_self _, h, rfl, fun a es' => ?_⟩
          show stepB t u (iterB t u n) ≠ _
          rw [h.it]
          show (match es[n]? with | none => _ | some e => _) ≠ _
          rw [he]
          show (match scanR e.2 (rowAt u e.1.2) (rowAt t e.1.1) es with | .inl w => BSt.stop (some w) | .inr es' => .run (n + 1) es') ≠ _
          rw [hsc]
          nofun
    · refine .inr ⟨m, es, by omega, h, ?_, ?_⟩
      · rw [e]
        show _ = stepB t u (iterB t u n)
        cases hi : iterB t u n with
        | run a es' => exact absurd hi (hs a es')
        | stop x => rfl
      · intro a es'
        show stepB t u (iterB t u n) ≠ _
        cases hi : iterB t u n with
        | run a es' => exact absurd hi (hs a es')
        | stop x => nofun
/-- it comes to an end -/
theorem Res.ex {t u : KTab} (k1 : KTb t) (k2 : KTb u) : ∃ x, Res t u x := by
  rcases bh_all k1 k2 1000001 with ⟨es, h⟩ | ⟨m, es, _, h, e, hs⟩
  · refine ⟨none, h.done ?_⟩
    have := h.bi.len k1 k2
    omega
  · cases hi : iterB t u 1000001 with
    | run a es' => exact absurd hi (hs a es')
    | stop x => exact ⟨x, _, hi⟩
end LT
set_option Elab.async false
set_option linter.all false
set_option maxRecDepth 100000
set_option maxHeartbeats 1600000
/-! Own layer: promises of the defs that every law over kinds has. -/
namespace LT
open PySem PySem.Spec PyProof.Rows L2 NdefX
theorem small2k {n : Nat} (h : n ≤ 2000) : n < sizeLine := by rw [sizeLine_eq]; omega
def spWhole : Sp := fun vs H Q _ => ∃ v, vs = [v] ∧ Odd H v ∧ Q (.bl (wholeB v)) H
def spWithin : Sp := fun vs H Q _ => ∃ v l m, vs = [v, .int l, .int m] ∧ Odd H v ∧ Q (.bl (withinB v l m)) H
/-- a kind stands at x, its rows as they are kept -/
def Kd (C : Addr) (H : Hp) (x : Addr) (t : KTab) : Prop := ∃ dx l ds, H x = some (.ins C dx [("rows", .ref l)]) ∧ TabAt H l ds t
theorem Kd.mono {C : Addr} {H H' : Hp} {x : Addr} {t : KTab} (h : Kd C H x t) (s : Same H H') : Kd C H' x t := by
  obtain ⟨dx, l, ds, h1, h2⟩ := h
  exact ⟨dx, l, ds, s _ _ h1, h2.mono s⟩
def spPot (K : PySem.W.Frag) : Sp := fun vs H Q _ => ∃ (a : Addr) (ns : List Int) (k : Nat), vs = [.ref a, .int (k : Nat)] ∧ SqL K H a (ns.map V.int) ∧ k ≤ 1000 ∧
  ∀ p H', H p = none → Same H H' → Pot H' p → Q (.ref p) H'
/-- unlike letters -/
structure Lts (zs : List Str) : Prop where
  nd : zs.Nodup
  lt : ∀ z ∈ zs, Ltr z
theorem Lts.len {zs : List Str} (h : Lts zs) : zs.length ≤ 26 := letts_few h.nd h.lt
theorem strs_not_ints {zs : List Str} {i j : Int} : (HO.lst (zs.map V.str)) ≠ .lst [.int i, .int j] := by
  intro e
  have e := HO.lst.inj e
  cases zs with
  | nil => cases e
  | cons d r => simp at e
/-- a row under way -/
def KRq (n : Nat) (r : KRow) : Prop := r = [] ∨ KRw n r
theorem KRq.put {n : Nat} {r : KRow} {z : Str} {v : Int} (h : KRq n r) (hz : Ltr z) (h0 : 0 ≤ v) (h1 : v < n) : KRw n (putA r z v) := by
  rcases h with rfl | h
  · refine ⟨nofun, List.nodup_cons.mpr ⟨nofun, List.nodup_nil⟩, fun p hp => ?_, fun p hp => ?_⟩
    · rw [List.mem_singleton.mp hp]
      exact hz
    · rw [List.mem_singleton.mp hp]
      exact ⟨h0, h1⟩
  · exact h.put hz h0 h1
theorem KRq.len {n : Nat} {r : KRow} (h : KRq n r) : r.length ≤ 26 := by
  rcases h with rfl | h
  · exact Nat.zero_le _
  · exact h.len
/-- rows that stand, new since H -/
structure RowsN (H Hx : Hp) (F : Addr) (ds : List Addr) (t : KTab) (n : Nat) : Prop where
  at_ : TabAt Hx F ds t
  nF : H F = none
  nd : ∀ d ∈ ds, H d = none
  rw : ∀ r ∈ t, KRw n r
theorem RowsN.mono {H Hx Hy : Hp} {F : Addr} {ds : List Addr} {t : KTab} {n : Nat} (h : RowsN H Hx F ds t n) (s : Same Hx Hy) : RowsN H Hy F ds t n := ⟨h.at_.mono s, h.nF, h.nd, h.rw⟩
theorem RowsN.upd {H Hx : Hp} {F R : Addr} {o : HO} {ds : List Addr} {t : KTab} {n : Nat} (h : RowsN H Hx F ds t n) (h1 : F ≠ R) (h2 : R ∉ ds) : RowsN H (L2.upd Hx R o) F ds t n :=
  ⟨⟨by rw [upd_ne h1]; exact h.at_.ls, h.at_.rows.upd h2, h.at_.nd⟩, h.nF, h.nd, h.rw⟩
theorem RowsN.snoc {H Hx : Hp} {F R : Addr} {ds : List Addr} {t : KTab} {r : KRow} {n : Nat} (h : RowsN H Hx F ds t n) (nR : H R = none) (hR : Hx R = some (.dK (sd r))) (h2 : R ∉ ds) (hr : KRw n r) :
    RowsN H (L2.upd Hx F (.lst (ds.map V.ref ++ [V.ref R]))) F (ds ++ [R]) (t ++ [r]) n := by
  have hRF : R ≠ F := ne_of hR h.at_.ls (by intro z; cases z)
  have hF : F ∉ ds := fun hd => h.at_.ne hd rfl
  refine ⟨⟨by rw [upd_same, List.map_append]; rfl, KRows.snoc (h.at_.rows.upd hF) (by rw [upd_ne hRF]; exact hR), ?_⟩, h.nF, fun d hd => ?_, fun r' hr' => ?_⟩
  · rw [List.nodup_append]
    refine ⟨h.at_.nd, List.nodup_cons.mpr ⟨nofun, List.nodup_nil⟩, fun x hx y hy => ?_⟩
    rw [List.mem_singleton.mp hy]
    rintro rfl
    exact h2 hx
  · rcases List.mem_append.mp hd with hd | hd
    · exact h.nd d hd
    · rw [List.mem_singleton.mp hd]
      exact nR
  · rcases List.mem_append.mp hr' with hr' | hr'
    · exact h.rw r' hr'
    · rw [List.mem_singleton.mp hr']
      exact hr
/-- the same weathers -/
def LgEq (t' t : KTab) : Prop := ∀ w, (aftF t' 0 w).isSome = (aftF t 0 w).isSome
theorem LgEq.trans {a b c : KTab} (h : LgEq a b) (g : LgEq b c) : LgEq a c := fun w => (h w).trans (g w)
theorem str_app_len (i j : Str) : (i ++ j).length = i.length + j.length := strLen_append i j
theorem small_txt {n : Nat} (h : n ≤ 3000) : n ≤ sizeLine := by rw [sizeLine_eq]; omega
end LT
set_option Elab.async false
set_option linter.all false
set_option maxRecDepth 100000
set_option maxHeartbeats 1600000
/-! Own layer: a sign taken many times; a text within a text; dict.update with a dict; len(set(text)). -/
namespace LT
open PySem PySem.Spec PyProof.Rows L2 NdefX
end LT
set_option Elab.async false
set_option linter.all false
set_option maxRecDepth 100000
set_option maxHeartbeats 3200000
/-! Own layer: len(set(text)). -/
namespace LT
open PySem PySem.Spec PyProof.Rows L2 NdefX
end LT
set_option Elab.async false
set_option linter.all false
set_option maxRecDepth 100000
set_option maxHeartbeats 1600000
/-! Own layer: y = {k: v for ..} as a statement. -/
namespace LT
open PySem PySem.Spec PyProof.Rows L2 NdefX
end LT
set_option Elab.async false
set_option linter.all false
set_option maxRecDepth 100000
set_option maxHeartbeats 1600000
/-! Own layer: a walk on the heap. -/
namespace LT
open PySem PySem.Spec PyProof.Rows L2 NdefX
theorem RiseT.rowAt {t t' : KTab} (h : RiseT t t') (k : KTb t) (i : Int) (z : Str) : getA (rowAt t' i) z = getA (rowAt t i) z := by
  unfold LT.rowAt
  cases hr : t[i.toNat]? with
  | none =>
    have : t'[i.toNat]? = none := by
      rw [List.getElem?_eq_none_iff] at hr ⊢
      rw [h.len]
      exact hr
    rw [this]
  | some r =>
    obtain ⟨r', e1, e2⟩ := h.row hr
    rw [e1]
    exact e2.get (k.at_ hr).nd _
def keyE (p : Int × Int) : List Key := [Sum.inl p.1, Sum.inl p.2]
def numF : Nat → List Ent → List (List Key × V)
  | _, [] => []
  | n, e :: es => (keyE e.1, .int (n : Nat)) :: numF (n + 1) es
/-- a walk that has met es -/
structure WkA (C : Addr) (H : Hp) (x dx P N Y : Addr) (es : List Ent) : Prop where
  ix : H x = some (.ins C dx [("places", .ref P), ("numbers", .ref N), ("ways", .ref Y)])
  pl : ∃ ps : List Addr, H P = some (.lst (ps.map V.ref)) ∧ Paired (fun q (e : Ent) => H q = some (.tup [.int e.1.1, .int e.1.2])) ps es
  nu : H N = some (.dT (numF 0 es))
  wy : ∃ ys : List Addr, H Y = some (.lst (V.non :: ys.map V.ref)) ∧ ys.length + 1 = es.length ∧ ∀ (k : Nat) (y : Addr) (e : Ent), ys[k]? = some y → es[k + 1]? = some e →
    ∃ (o : Nat) (z : Str) (e0 : Ent), H y = some (.tup [.int (o : Nat), .str z]) ∧ o ≤ k ∧ es[o]? = some e0 ∧ Ltr z ∧ e.2 = e0.2 ++ z.cps.toList
  h0 : ∃ p, es[0]? = some (p, [])
def Same3 (P N Y : Addr) (H H' : Hp) : Prop := ∀ b o, b ≠ P → b ≠ N → b ≠ Y → H b = some o → H' b = some o
theorem Same3.of {P N Y : Addr} {H H' : Hp} (s : Same H H') : Same3 P N Y H H' := fun b o _ _ _ e => s b o e
theorem Same3.trans {P N Y : Addr} {H H1 H2 : Hp} (a : Same3 P N Y H H1) (b : Same3 P N Y H1 H2) : Same3 P N Y H H2 := fun c o h1 h2 h3 e => b c o h1 h2 h3 (a c o h1 h2 h3 e)
/-- what another thing's writing leaves -/
theorem WkA.by {C : Addr} {H H' : Hp} {x dx P N Y : Addr} {es : List Ent} (h : WkA C H x dx P N Y es) (f : ∀ b o, H b = some o → (match o with | .ins _ _ _ => True | .lst _ => True | .tup _ => True | .dT _ => True | _ => False) → H' b = some o) : WkA C H' x dx P N Y es := by
  obtain ⟨ps, p1, p2⟩ := h.pl
  obtain ⟨ys, y1, y2, y3⟩ := h.wy
  refine ⟨f _ _ h.ix trivial, ⟨ps, f _ _ p1 trivial, paired_imp (fun q e h => f _ _ h trivial) p2⟩, f _ _ h.nu trivial, ⟨ys, f _ _ y1 trivial, y2, fun k y e h1 h2 => ?_⟩, h.h0⟩
  obtain ⟨o, z, e0, a, b⟩ := y3 k y e h1 h2
  exact ⟨o, z, e0, f _ _ a trivial, b⟩
theorem WkA.mono {C : Addr} {H H' : Hp} {x dx P N Y : Addr} {es : List Ent} (h : WkA C H x dx P N Y es) (s : Same H H') : WkA C H' x dx P N Y es := h.by fun b o e _ => s b o e
theorem WkA.unlock {C : Addr} {H : Hp} {x dx P N Y d : Addr} {es : List Ent} {od : Obj} {v u : HO} (h : WkA C H x dx P N Y es) (e : H d = some (.frz od v)) : WkA C (upd H d u) x dx P N Y es := h.by fun b o eb ho => by
  rw [upd_ne (fun z => by rw [z, e] at eb; cases eb; exact ho)]
  exact eb
theorem WkA.len {C : Addr} {H : Hp} {x dx P N Y : Addr} {es : List Ent} (h : WkA C H x dx P N Y es) : ∃ (ps : List Addr), H P = some (.lst (ps.map V.ref)) ∧ ps.length = es.length := by
  obtain ⟨ps, p1, p2⟩ := h.pl
  exact ⟨ps, p1, Paired.length p2⟩
theorem str_eq {a b : Str} (h : a.cps.toList = b.cps.toList) : a = b := by
  obtain ⟨⟨a⟩⟩ := a
  obtain ⟨⟨b⟩⟩ := b
  have : a = b := h
  rw [this]
theorem str_app_codes (a b : Str) : (a ++ b).cps.toList = a.cps.toList ++ b.cps.toList := by
  show (a.cps ++ b.cps).toList = _
  exact Array.toList_append
end LT
set_option Elab.async false
set_option linter.all false
set_option maxRecDepth 100000
set_option maxHeartbeats 1600000
/-! Own layer: == of an own thing with any thing; lists of texts; letters that rise. -/
namespace LT
open PySem PySem.Spec PyProof.Rows L2 NdefX
/-! ### lists of texts -/
/-! ### letters that rise -/
/-! ### pairs met by the law -/
end LT
namespace LT
open PySem PySem.Spec PyProof.Rows L2 NdefX
theorem LgEq.symm {a b : KTab} (h : LgEq a b) : LgEq b a := fun w => (h w).symm
end LT
set_option Elab.async false
set_option linter.all false
set_option maxRecDepth 100000
set_option maxHeartbeats 1600000
/-! Own layer: promises of the defs over books. -/
namespace LT
open PySem PySem.Spec PyProof.Rows L2 NdefX
/-- keys of any dict, one by one -/
theorem walk_enk {κ α : Type} [DecidableEq κ] {gk : κ → Key} {f : α → V} {d : Addr} {o : Obj} {r : List (κ × α)} : Walk (Itk d o (enA gk f r)) r.length (fun H => H d = some (.frz o (.dK (enA gk f r)))) (fun i H x H' => H' = H ∧ ∃ p, r[i]? = some p ∧ x = kV (gk p.1)) := by
  refine ⟨fun i H hi q => ⟨q, by rw [enA_len]; exact hi⟩, fun H q => ⟨q, by rw [enA_len]; exact Nat.le_refl _⟩, fun i H x H' hi _ y => ?_⟩
  obtain ⟨rfl, k, v, h1, rfl⟩ := y
  unfold enA at h1
  rw [List.getElem?_map, List.getElem?_eq_getElem hi] at h1
  cases h1
  exact ⟨rfl, r[i], List.getElem?_eq_getElem hi, rfl⟩
/-- pairs of any dict, one by one -/
theorem walk_eni {κ α : Type} [DecidableEq κ] {gk : κ → Key} {f : α → V} {d : Addr} {o : Obj} {r : List (κ × α)} : Walk (Iti d o (enA gk f r)) r.length (fun H => H d = some (.frz o (.dK (enA gk f r)))) (fun i H x H' => ∃ T p, r[i]? = some p ∧ x = .ref T ∧ H T = none ∧ H' = upd H T (.tup [kV (gk p.1), f p.2])) := by
  refine ⟨fun i H hi q => ⟨q, by rw [enA_len]; exact hi⟩, fun H q => ⟨q, by rw [enA_len]; exact Nat.le_refl _⟩, fun i H x H' hi _ y => ?_⟩
  obtain ⟨T, k, v, h1, rfl, h3, rfl⟩ := y
  unfold enA at h1
  rw [List.getElem?_map, List.getElem?_eq_getElem hi] at h1
  cases h1
  exact ⟨T, r[i], List.getElem?_eq_getElem hi, rfl, h3, rfl⟩
def spFromB : Sp := fun vs H Q _ => ∃ (v : V) (l : Int), vs = [v, .int l] ∧ Odd H v ∧ Q (.bl (fromB v l)) H
def spDayB : Sp := fun vs H Q _ => ∃ (v : V), vs = [v] ∧ Odd H v ∧ Q (.bl (fromB v 0)) H
def spNameB : Sp := fun vs H Q _ => ∃ (v : V), vs = [v] ∧ Odd H v ∧ (∀ z, v = .str z → z.length ≤ sizeLine) ∧ ∀ H', Same H H' → Q (.bl (nameB v)) H'
def placeB : V → Bool
  | .str z => nameB (.str z) || decide (z = Str.ofString "")
  | _ => false
def spPlaceB : Sp := fun vs H Q _ => ∃ (v : V), vs = [v] ∧ Odd H v ∧ (∀ z, v = .str z → z.length ≤ sizeLine) ∧ ∀ H', Same H H' → Q (.bl (placeB v)) H'
theorem pl_b {z : Str} (h : Pl z) : placeB (.str z) = true := by
  rcases h with rfl | h
  · show (nameB (.str (Str.ofString "")) || decide (Str.ofString "" = Str.ofString "")) = true
    rw [decide_eq_true rfl, Bool.or_true]
  · show (nameB (.str z) || _) = true
    rw [h.b]
    rfl
theorem pl_len {z : Str} (h : Pl z) : z.length ≤ 8 := by
  rcases h with rfl | h
  · decide +kernel
  · exact h.l8
def spCkDay : Sp := fun vs H Q _ => ∃ (i : Int), vs = [.int i] ∧ 0 ≤ i ∧ Q .non H
def spCkLight : Sp := fun vs H Q _ => ∃ (z : Str), vs = [.str z] ∧ Nm z ∧ ∀ H', Same H H' → Q .non H'
def spCkPlace : Sp := fun vs H Q _ => ∃ (z : Str), vs = [.str z] ∧ Pl z ∧ ∀ H', Same H H' → Q .non H'
def spCkNumber : Sp := fun vs H Q _ => ∃ (i l : Int), vs = [.int i, .int l] ∧ l ≤ i ∧ Q .non H
def spRanks : Sp := fun vs H Q _ => ∃ (r : Addr) (rk : List (Str × Int)), vs = [.ref r] ∧ H r = some (.dK (sd rk)) ∧ Rk rk ∧ ∀ H', Same H H' → Q (.bl true) H'
def spBInit (CB CH : Addr) : Sp := fun vs H Q _ => ∃ (b dx r : Addr) (rk : List (Str × Int)), vs = [.ref b, .ref r] ∧ H b = some (.ins CB dx []) ∧ H r = some (.dK (sd rk)) ∧ Rk rk ∧
  ∀ (fp : List Addr) (H' : Hp), Bk CB CH H' b rk [] fp → (∀ c ∈ fp, c = b ∨ H c = none) → SameB b H H' → Q .non H'
def spBRanks (CB CH : Addr) : Sp := fun vs H Q _ => ∃ (b : Addr) (rk : List (Str × Int)) (es : List Evt) (fp : List Addr), vs = [.ref b] ∧ Bk CB CH H b rk es fp ∧
  ∀ (r : Addr) (H' : Hp), H r = none → H' r = some (.dK (sd rk)) → Same H H' → Q (.ref r) H'
def spTell (CB CH : Addr) : Sp := fun vs H Q _ => ∃ (b : Addr) (rk : List (Str × Int)) (es : List Evt) (fp : List Addr) (kn d : Int) (z : Str) (w : V), vs = [.ref b, .int kn, .str z, .int d, w] ∧ Bk CB CH H b rk es fp ∧
  EvOK rk ⟨true, kn, z, d, w⟩ ∧ (∀ e ∈ es, e.kn ≤ kn) ∧ es.length < 60 ∧
  ∀ (fp' : List Addr) (H' : Hp), Bk CB CH H' b rk (es ++ [⟨true, kn, z, d, w⟩]) fp' → (∀ c ∈ fp', c ∈ fp ∨ H c = none) → SameL fp H H' → Q .non H'
def spLand (CB CH : Addr) : Sp := fun vs H Q _ => ∃ (b : Addr) (rk : List (Str × Int)) (es : List Evt) (fp : List Addr) (kn d : Int) (z : Str) (w : V), vs = [.ref b, .int kn, .str z, .int d, w] ∧ Bk CB CH H b rk es fp ∧
  EvOK rk ⟨false, kn, z, d, w⟩ ∧ (∀ e ∈ es, e.kn ≤ kn) ∧ es.length < 60 ∧
  ∀ (fp' : List Addr) (H' : Hp), Bk CB CH H' b rk (es ++ [⟨false, kn, z, d, w⟩]) fp' → (∀ c ∈ fp', c ∈ fp ∨ H c = none) → SameL fp H H' → Q .non H'
def spCkKeeper (CB CH : Addr) : Sp := fun vs H Q _ => ∃ (b : Addr) (rk : List (Str × Int)) (es : List Evt) (fp : List Addr) (z : Str), vs = [.ref b, .str z] ∧ Bk CB CH H b rk es fp ∧ z ∈ rk.map (·.1) ∧ ∀ H', Same H H' → Q .non H'
def spNotEarly (CB CH : Addr) : Sp := fun vs H Q _ => ∃ (b : Addr) (rk : List (Str × Int)) (es : List Evt) (fp : List Addr) (kn : Int), vs = [.ref b, .int kn] ∧ Bk CB CH H b rk es fp ∧ (∀ e ∈ es, e.kn ≤ kn) ∧ Q .non H
end LT
set_option Elab.async false
set_option linter.all false
set_option maxRecDepth 100000
set_option maxHeartbeats 1600000
/-! Own layer: books, what the readings want. -/
namespace LT
open PySem PySem.Spec PyProof.Rows L2 NdefX
theorem hsK_val (hs : List (Str × HA)) (z : Str) : valV (hsK hs) (Sum.inr z) = (getA hs z).map fun a => V.ref a.x := val_en inr_inj z hs
theorem hsK_put (hs : List (Str × HA)) (z : Str) (a : HA) : putK (hsK hs) (Sum.inr z) (V.ref a.x) = hsK (putA hs z a) := put_en (f := fun a : HA => V.ref a.x) inr_inj hs z a
theorem hsK_len (hs : List (Str × HA)) : (hsK hs).length = hs.length := enA_len ..
theorem get_key {α : Type} {kvs : List (Str × α)} {z : Str} (h : z ∈ kvs.map (·.1)) : ∃ a, getA kvs z = some a := by
  cases e : getA kvs z with
  | none => exact absurd h (getA_none_iff.mp e)
  | some a => exact ⟨a, rfl⟩
theorem dget_hs {H : Hp} {M : Addr} {hs : List (Str × HA)} {z : Str} {a : HA} (h : H M = some (.dK (hsK hs))) (e : getA hs z = some a) : DGet H M (.str z) (some (.ref a.x)) := by
  have := DGet.k (k := Sum.inr z) h
  rw [hsK_val, e] at this
  exact this
theorem dget_no {H : Hp} {M : Addr} {hs : List (Str × HA)} {z : Str} (h : H M = some (.dK (hsK hs))) (e : getA hs z = none) : DGet H M (.str z) none := by
  have := DGet.k (k := Sum.inr z) h
  rw [hsK_val, e] at this
  exact this
theorem dget_sd {H : Hp} {M : Addr} {r : KRow} {z : Str} {v : Int} (h : H M = some (.dK (sd r))) (e : getA r z = some v) : DGet H M (.str z) (some (.int v)) := by
  have := DGet.k (k := Sum.inr z) h
  rw [val_row, e] at this
  exact this
theorem take_snoc {α : Type} {xs : List α} {i : Nat} {x : α} (h : xs[i]? = some x) : xs.take (i + 1) = xs.take i ++ [x] := by
  rw [List.take_add_one, h]
  rfl
end LT
set_option Elab.async false
set_option linter.all false
set_option maxRecDepth 100000
set_option maxHeartbeats 1000000
namespace LT
open PySem PySem.Spec PyProof.Rows L2 LamX
abbrev noX : CXT := fun _ _ _ _ _ _ => False
abbrev noE : XK := fun _ _ _ => False
/-! ### a lambda of one parameter -/
/-- x is the parameter; every other name is captured or global -/
structure LamP (sc scope : Scope) (x : Str) : Prop where
  kind : scope.kind = .function
  co : scope.isCoroutine = false
  gen : scope.isGenerator = false
  par : scope.names.lookup x = some .local
  nc : ∀ y ∈ scope.names, y.2 ≠ .cell
  own : ∀ y, scope.names.lookup y = some .local → y = x
  free : ∀ y ∈ scope.names, y.2 = .free → sc.names.lookup y.1 = some .cell ∨ sc.names.lookup y.1 = some .free
def lamPB (sc scope : Scope) (x : Str) : Bool :=
  decide (scope.kind = .function) && (!scope.isCoroutine && (!scope.isGenerator && (decide (scope.names.lookup x = some .local) && (scope.names.all (fun y => !decide (y.2 = .cell)) && (scope.names.all (fun y => !decide (y.2 = .local) || decide (y.1 = x)) &&
    scope.names.all (fun y => !decide (y.2 = .free) || (decide (sc.names.lookup y.1 = some .cell) || decide (sc.names.lookup y.1 = some .free))))))))
theorem lamP_by {sc scope : Scope} {x : Str} (h : lamPB sc scope x = true) : LamP sc scope x := by
  unfold lamPB at h
  simp only [Bool.and_eq_true, Bool.or_eq_true, Bool.not_eq_true', decide_eq_true_eq, decide_eq_false_iff_not, List.all_eq_true] at h
  obtain ⟨h1, h2, h3, h4, h5, h6, h7⟩ := h
  refine ⟨h1, h2, h3, h4, h5, fun y hy => ?_, fun y hy e => ?_⟩
  · rcases h6 (y, .local) (PySem.mem_of_lookup hy) with z | z
    · exact absurd rfl z
    · exact z
  · rcases h7 y hy with z | z
    · exact absurd e z
    · exact z
theorem LamP.has {X : Cx} {scope : Scope} {x : Str} (L : LamP X.env.scope scope x) (ok : X.Ok) : ∀ y ∈ scope.names, y.2 = .free → ∃ c, X.env.cells.lookup y.1 = some c :=
  fun y hy e => (L.free y hy e).elim (fun k => ok.has _ (.inl k)) (fun k => ok.has _ (.inr k))
/-- where the body of the lambda runs: slot 0 is the parameter, behind it the maker's slots -/
def lamCxP (CX : CXT) (X : Cx) (A : Around) (outer : List Env) (s : Shared) (H : Hp) (E : XK) (scope : Scope) (f c' : Addr) (x : Str) : Cx where
  prog := X.prog
  w := X.w
  K := X.K
  mg := X.mg
  base := X.base
  A := A.deeper (lamEnv X scope s.heap.objs.size f c')
  N := x :: X.N
  s_0 := s
  H_0 := H
  env := lamEnv X scope s.heap.objs.size f c'
  outer := outer
  stack := lamEnv X scope s.heap.objs.size f c' :: outer
  ex := []
  fn := fun _ => false
  calm := true
  pn := []
  xe := fun e s' => wpAny (model X.prog X.w) (A.deeper (lamEnv X scope s.heap.objs.size f c')) (leaving (lamEnv X scope s.heap.objs.size f c') e) (fun _ z => CX outer H s E e z) (fun e' z => CX outer H s E e' z) s'
section
variable {X : Cx} {pins : List (Addr × Obj)} {σ : L2.St} {H HZ : Hp} {s s1 : Shared} {CX : CXT}
theorem lam_startP {A : Around} {outer : List Env} {E : XK} {scope : Scope} {f c' : Addr} {x : Str} {v : V} {u : Value} {h₁ : Heap} {tk : Nat} (I : Inv X pins σ H s) (L : LamP X.env.scope scope x) (hx : x ∉ X.N)
    (e0 : Env0 X.prog X.w X.K X.mg X.base A outer s1 HZ) (hd : A.handled = none) (un : Un (frs X.stack) [] H HZ s.heap s1.heap) (r : RelV v u)
    (hns : h₁.Ns s1.heap.objs.size fun y => [(x, u)].reverse.lookup y) (kp : ∀ b o, s1.heap.get? b = some o → h₁.get? b = some o) :
    Inv (lamCxP CX X A outer s1 HZ E scope f c' x) [] (some v :: σ) HZ { s1 with heap := h₁, toks := tk } := by
  have hfree := L.has I.ok
  have cm : ∀ {y c}, (cloFrom X.env.cells scope.names []).lookup y = some c → X.env.cells.lookup y = some c := fun {y c} e => by
    rcases cloFrom_mem (PySem.mem_of_lookup e) with hm | ⟨g1, g2⟩
    · cases hm
    · obtain ⟨c1, hc⟩ := hfree _ g1 rfl
      have hc : X.env.cells.lookup y = some c1 := hc
      have e2 : c = c1 := by rw [g2, hc] <;> rfl
      rw [e2, hc]
  have look : ∀ {y}, scope.names.lookup y = some .free → ∃ c, (cloFrom X.env.cells scope.names []).lookup y = some c := fun {y} hl =>
    mem_lookup (cloFrom_has (cells := X.env.cells) (acc := []) (show (y, NameKind.free) ∈ scope.names from PySem.mem_of_lookup hl))
  have cellK : ∀ {c : Addr} {z : Option Value}, H c = none → s.heap.IsCell c z → h₁.IsCell c z := fun {c z} n ⟨o, ho, hd⟩ =>
    let ⟨_, q⟩ := un.any ho n (by simp)
    ⟨_, kp _ _ q, hd⟩
  have noA : ∀ b : Addr, b ∉ (lamCxP CX X A outer s1 HZ E scope f c' x).ex := fun b z => nomatch (show b ∈ ([] : List Addr) from z)
  refine ⟨⟨e0.mod, L.kind, rfl, rfl, Nat.le_refl _, fun y z c e1 e2 => I.ok.inj y z c (cm e1) (cm e2), fun y hy => ?has, fun y c z _ => (nomatch (show false = true from z)), fun _ => hd, Around.frames_deeper e0.frames, .inr ⟨rfl, rfl⟩, fun b z => absurd z (noA b),
      e0.bs, e0.bsz, fun b _ _ => noA b, fun b z => absurd z (noA b), e0.funs, e0.frf⟩,
    rfl, e0.bare, Un.kept kp, ⟨_, hns, fun i y z e1 e2 e3 => ?loc⟩, fun y c e => ?cell, e0.hok.fresh (Nat.le_refl _), fun y c e => ?freeC, fun q hq => (nomatch (show q ∈ ([] : List (Addr × Obj)) from hq)), e0.hok.kept kp, ?len⟩
  case has =>
    have hy : scope.names.lookup y = some .cell ∨ scope.names.lookup y = some .free := hy
    rcases hy with hy | hy
    · exact absurd rfl (L.nc _ (PySem.mem_of_lookup hy))
    · exact look hy
  case loc =>
    have e3 : Vis scope y := e3
    cases i with
    | zero =>
      have a1 : x = y := Option.some.inj e1
      have a2 : v = z := Option.some.inj (Option.some.inj e2)
      subst a1 a2
      refine ⟨u, r, .inl ⟨L.par, ?_⟩⟩
      show List.lookup x [(x, u)] = some u
      rw [List.lookup_cons, beq_self_eq_true]
    | succ i =>
      have n1 : X.N[i]? = some y := e1
      have n2 : σ[i]? = some (some z) := e2
      rcases e3 with k | k | k
      · exact absurd (L.own _ k ▸ List.mem_of_getElem? n1) hx
      · exact absurd rfl (L.nc _ (PySem.mem_of_lookup k))
      · obtain ⟨m, hn, hl⟩ := I.loc
        have kf := L.free _ (PySem.mem_of_lookup k) rfl
        obtain ⟨w', r', q⟩ := hl i y z n1 n2 (kf.elim (fun k => .inr (.inl k)) (fun k => .inr (.inr k)))
        obtain ⟨c2, h2⟩ := look k
        refine ⟨w', r', .inr ⟨.inr k, c2, h2, ?_⟩⟩
        have c1 := cm h2
        rcases q with ⟨k', _⟩ | ⟨_, c3, e', zz⟩
        · have k' : X.env.scope.names.lookup y = some .local := k'
          rcases kf with k2 | k2 <;> rw [show X.env.scope.names.lookup y = _ from k2] at k' <;> cases k'
        · rw [c1] at e'
          cases e'
          exact cellK (I.freeC y _ c1) zz
  case cell =>
    obtain ⟨w', z⟩ := I.cell y c (cm e)
    exact ⟨w', cellK (I.freeC y c (cm e)) z⟩
  case freeC =>
    obtain ⟨w', o, ho, _⟩ := I.cell y c (cm e)
    exact un.free c o ho (I.freeC y c (cm e)) (by simp)
  case len =>
    show σ.length + 1 = X.N.length + 1
    rw [I.len]
/-- the lambda called with one value -/
theorem lam_run {A : Around} {outer : List Env} {E : XK} {scope : Scope} {f c' : Addr} {x : Str} {v : V} {u pm ctv : Value} {params : Arguments} {body : Expr} {k : Nat} {Q : VK} {tb : TE} (I : Inv X pins σ H s) (L : LamP X.env.scope scope x) (hx : x ∉ X.N)
    (e0 : Env0 X.prog X.w X.K X.mg X.base A outer s1 HZ) (un : Un (frs X.stack) [] H HZ s.heap s1.heap)
    (hf : s1.heap.get? f = some (PySem.W.kla_obj "<lambda>" (X.env.qual ++ "<lambda>") params body scope (cloFrom X.env.cells scope.names []) pm c' ctv)) (hc : HZ c' = some (CodeO c' (X.env.qual ++ "<lambda>")))
    (hbind : bindArgs (PySem.W.kla_fn "<lambda>" (X.env.qual ++ "<lambda>") params body scope (cloFrom X.env.cells scope.names []) pm (.ref c') ctv) ⟨[u], []⟩ = pure [(x, u)]) (r : RelV v u) (hr : Room (k + 1) A)
    (hbody : Room k (A.deeper (lamEnv X scope s1.heap.objs.size f c')) → PE (lamCxP CX X A outer s1 HZ E scope f c' x) body tb) (ht : tb (some v :: σ) HZ Q) :
    codeAny (model X.prog X.w) A (.call (.ref f) ⟨[u], []⟩) (CR CX outer X.prog X.w HZ s1 Q E) s1 := by
  obtain ⟨⟨oc, vs, t, hoc, hdc, hvc⟩, _, _⟩ := e0.hok c' _ hc
  have lim : s1.heap.NoLimit := e0.mod.nolimit.keeps fun b o e => (e0.bs b o e).1
  refine PySem.W.kla_callFunE hr.depth hf rfl L.co L.gen rfl ⟨c', oc, vs, t, rfl, hoc, hdc, hvc⟩ ?_
  rw [hbind]
  refine wpAny_pure (wpAny_newFunctionEnv L.nc (fun y hy => ?_) (fun h₁ hns hsb => ⟨lim.fresh _ hsb, ?_⟩) L.kind)
  · rw [List.mem_singleton.mp hy]
    exact L.par
  show codeAny _ _ (.expr body (lamEnv X scope s1.heap.objs.size f c')) _ _
  have kp : ∀ b o, s1.heap.get? b = some o → h₁.get? b = some o := fun b o e => hsb.extBut b o (Nat.ne_of_lt (Heap.lt_size e)) (Heap.get?_push_of_some _ e)
  have J : Inv (lamCxP CX X A outer s1 HZ E scope f c' x) [] (some v :: σ) HZ { s1 with heap := h₁, toks := s1.toks + [(x, u)].length } := lam_startP I L hx e0 hr.hd un r hns kp
  refine PySem.W.kla_codeExpr (wpAny_mono ((hbody (hr.deeper _)).run [] _ _ HZ Q J ht) (fun z s' hq => ?_) fun e s' hq => hq)
  obtain ⟨w', H', J', rv, q⟩ := hq
  exact ⟨w', H', J'.os, J'.bare, J'.base, J'.hok, rv, q⟩
end
end LT
set_option Elab.async false
set_option linter.all false
set_option maxRecDepth 100000
set_option maxHeartbeats 1000000
namespace LT
open PySem PySem.Spec PyProof.Rows L2 LamX
/-! ### sorted(list or tuple, key=f) -/
theorem freed_get {h : Heap} {a : Addr} : (h.update a fun o => { o with data := .freed }).get? a = none := by
  obtain ⟨objs, l⟩ := h
  show Heap.get? ⟨objs.modify a (fun o => { o with data := .freed }), l⟩ a = none
  unfold Heap.get?
  show (match (objs.modify a (fun o => { o with data := .freed }))[a]? with
    | some ⟨_, _, .freed, _⟩ => none
    | r => r) = none
  rw [Array.getElem?_modify, if_pos rfl]
  cases objs[a]? <;> rfl
theorem vals_at : ∀ {xs : List V} {us : List Value}, Vals xs us → ∀ (j : Nat) {v : V} {u : Value}, xs[j]? = some v → us[j]? = some u → RelV v u
  | _, _, .cons h _, 0, _, _, e1, e2 => by
    cases e1
    cases e2
    exact h
  | _, _, .cons _ t, j + 1, _, _, e1, e2 => vals_at t j e1 e2
theorem dataLe_int {β : Type} (k : β → Int) : PySem.W.dataLe false (fun v => PyData.int (k v)) = fun a b => decide (k a ≤ k b) := by
  funext a b
  have e : PySem.W.dataLe false (fun v => PyData.int (k v)) a b = !(PyProof.Rows.lexLt itemOrd [.inl (k b)] [.inl (k a)]) := rfl
  rw [e]
  have e2 : PyProof.Rows.lexLt itemOrd [.inl (k b)] [.inl (k a)] = decide (k b < k a) := by
    show (decide (k b < k a) || (!decide (k a < k b) && false)) = _
    rw [Bool.and_false, Bool.or_false]
  rw [e2, Bool.eq_iff_iff]
  simp
section
variable {prog : Program} {w : World} {A : Around} {E : Value → Shared → Prop} {s : Shared}
theorem sorted_seq {it : Addr} {T : String} {o : Obj} {vs : List Value} {n : Nat} {kw : List (Str × Value)} {Q : Value → Shared → Prop} (hT : T = "list" ∨ T = "tuple") (ho : s.heap.get? it = some o) (hc : o.cls = .type T) (hd : o.data = .seq vs.toArray n) (hL : vs.length ≤ sizeLine)
    (ha1 : argsOk "sorted" ⟨[.ref it], kw⟩) (ha2 : ∀ x, argsOk "list.sort" ⟨[.ref x], kw⟩)
    (go : ∀ (E' : Value → Shared → Prop) (g : Heap), (∀ b u, s.heap.get? b = some u → g.get? b = some u) →
      wpAny (model prog w) A.in1.in1 (Builtin.«list.sort» ⟨[.ref g.objs.size], kw⟩) (fun f s' => f = .done (.ret .none) ∧ Q (.ref g.objs.size) s') E' { s with heap := g.push (seqObj "list" vs.toArray 0) }) :
    wpAny (model prog w) A (call (.builtin "sorted") [.ref it] kw) Q E s := by
  refine call_function_entry_kw kind_sorted plain_sorted entry_sorted ha1 ?_
  unfold Builtin.«sorted»
  refine wpAny_bind (m := checkCount "sorted" 1 1 _) (wpAny_pure ?_)
  refine wpAny_bind (wpAny_collect_seq it hT ho hc hd (fun g hg => ?_) (by rw [List.size_toArray]; exact hL))
  refine wpAny_bind (wpAny_newList ?_ hL)
  refine wpAny_bind (wpAny_holding (wpAny_call_entry_kw slot_list_sort ⟨_, Heap.get?_push_size _ rfl, rfl⟩ entry_list_sort ?body (ha2 _)))
  case body =>
    refine wpAny_mono (go _ g hg) (fun f s' hf => ?_) fun _ _ e => e
    obtain ⟨rfl, hq⟩ := hf
    exact ⟨_, rfl, wpAny_pure ⟨_, rfl, hq⟩⟩
end
section
variable {X : Cx} {pins : List (Addr × Obj)} {σ : L2.St} {H : Hp} {s : Shared}
/-- an object that was not looked at is looked at as a list from now on -/
theorem inv_track {a : Addr} {ys : List V} {out : List Value} {c : Nat} (I : Inv X pins σ H s) (fp : FpOk X pins H a) (hv : Vals ys out) (hz : ys.length ≤ sizeLine) (ho : s.heap.get? a = some (seqObj "list" out.toArray c)) :
    Inv X pins σ (upd H a (.lst ys)) s := by
  have ne : ∀ b u, H b = some u → b ≠ a := fun b u e => ne_of_none e fp.1
  have at_ : ∀ b u, H b = some u → upd H a (.lst ys) b = some u := fun b u e => by rw [upd_ne (ne b u e)]; exact e
  refine I.step (h' := s.heap) (g' := s.gens) (d' := s.drawn) (t' := s.toks) (ch := [a]) (fun b hb => ?_) (fun _ _ _ _ _ e _ => e) (fun b o _ _ _ e _ => ⟨o.slots, e⟩) (fun b o hb e n => ?_) (fun b o _ e => ⟨o, e⟩) (fun b xs e => at_ _ _ e) (fun b o u e => at_ _ _ e) (fun b ps e => ⟨#[], by rw [at_ _ _ e]; simp⟩) (fun _ h => h) (fun b u e => ?_) I.bare
  · rw [List.mem_singleton.mp hb]
    exact ⟨fp.2.2.2.1, fp.2.1, fp.2.2.2.2.1, fp.2.2.2.2.2⟩
  · rw [upd_ne (fun z => hb (by rw [z]; exact List.mem_singleton.mpr rfl))]
    exact n
  · by_cases hb : b = a
    · subst hb
      rw [upd_same] at e
      cases e
      exact ⟨hz, out, c, hv, ho⟩
    · rw [upd_ne hb] at e
      exact (I.hok b u e).stay (fun _ _ _ q => q) (fun d q => at_ _ _ q) fun d xs q => at_ _ _ q
/-- the calls of the key, the sorting, the new list -/
theorem sort_keyed {xs : List V} {us : List Value} {k : V → Int} {f : Value} {g : Heap} {E' : Value → Shared → Prop} {A : Around} {R : PySem.Fin → Shared → Prop} (I : Inv X pins σ H { s with heap := g }) (hv : Vals xs us) (hz : us.length ≤ sizeLine) (hu : A.units < cLine)
    (turn : ∀ (pins' : List (Addr × Obj)) (s' : Shared) (v : V) (u : Value), (∀ p ∈ pins, p ∈ pins') → Inv X pins' σ H s' → v ∈ xs → RelV v u →
      wpAny (model X.prog X.w) A (call f [u]) (fun z s'' => ∃ t, z = .int (k v) t ∧ Inv X pins' σ H s'') (fun _ _ => False) s')
    (fin : ∀ s', H g.objs.size = none → Inv X pins σ (upd H g.objs.size (.lst (xs.mergeSort fun a b => decide (k a ≤ k b)))) s' → R (.done (.ret .none)) s') :
    wpAny (model X.prog X.w) A (ksk_tree g.objs.size f false) R E' { s with heap := g.push (seqObj "list" us.toArray 0) } := by
  have ho : (g.push (seqObj "list" us.toArray 0)).get? g.objs.size = some (seqObj "list" us.toArray 0) := Heap.get?_push_size _ rfl
  obtain ⟨e1, ho1⟩ : ∃ e1, ((g.push (seqObj "list" us.toArray 0)).update g.objs.size (Obj.mapSeq fun _ => (#[] : Array Value))).get? g.objs.size = some (seqObj "list" #[] e1) := ⟨_, get?_update_seq ho fun _ => #[]⟩
  have fa0 : FpOk X pins H g.objs.size := I.fpOk (Nat.le_refl _) (I.hok.fresh (Nat.le_refl _))
  generalize ea : g.objs.size = a at *
  have old : ∀ b u, g.get? b = some u → ((g.push (seqObj "list" us.toArray 0)).update a (Obj.mapSeq fun _ => (#[] : Array Value))).get? b = some u := fun b u e => by
    rw [Heap.get?_update_ne _ _ _ _ (by rw [← ea]; exact Nat.ne_of_lt (Heap.lt_size e))]
    exact Heap.get?_push_of_some _ e
  have hs1 : ((g.push (seqObj "list" us.toArray 0)).update a (Obj.mapSeq fun _ => (#[] : Array Value))).objs.size = a + 1 := by rw [Heap.size_update, size_push', ea]
  unfold ksk_tree
  refine wpAny_bind (listItems_at ho rfl ?_)
  refine wpAny_bind (listUpdate_at ho rfl ?_ (by rw [List.size_toArray]; exact hz) (Nat.zero_le _))
  refine wpAny_bind (seqEpoch_at ho1 rfl ?_)
  refine wpAny_bind (wpAny_newTuple ?_ (by show us.length ≤ _; exact hz))
  refine wpAny_bind (wpAny_newList ?_ (Nat.zero_le _))
  refine wpAny_holding ?_
  generalize eg1 : (g.push (seqObj "list" us.toArray 0)).update a (Obj.mapSeq fun _ => (#[] : Array Value)) = g1 at *
  have hs2 : (g1.push (seqObj "tuple" us.toArray 0)).objs.size = a + 2 := by rw [size_push', hs1]
  have nk : ((g1.push (seqObj "tuple" us.toArray 0)).push (seqObj "list" #[] 0)).get? (a + 2) = some (seqObj "list" #[] 0) := by
    rw [← hs2]
    exact Heap.get?_push_size _ rfl
  have na : ((g1.push (seqObj "tuple" us.toArray 0)).push (seqObj "list" #[] 0)).get? a = some (seqObj "list" #[] e1) := Heap.get?_push_of_some _ (Heap.get?_push_of_some _ ho1)
  have old2 : ∀ b u, g.get? b = some u → ((g1.push (seqObj "tuple" us.toArray 0)).push (seqObj "list" #[] 0)).get? b = some u := fun b u e => Heap.get?_push_of_some _ (Heap.get?_push_of_some _ (old b u e))
  show wpAny (model X.prog X.w) A (ksk_rest a f false us.toArray _ (.ref (g1.push (seqObj "tuple" us.toArray 0)).objs.size)) _ _ _
  rw [hs2]
  generalize (g1.push (seqObj "tuple" us.toArray 0)).push (seqObj "list" #[] 0) = g2 at *
  have I2 : Inv X pins σ H { s with heap := g2 } := by
    have := I.kept (h' := g2) (t' := s.toks) old2
    exact this
  have fk0 : FpOk X pins H (a + 2) := I.fpOk (by show g.objs.size ≤ a + 2; omega) (I.hok.fresh (by show g.objs.size ≤ a + 2; omega))
  have pinA : ∀ {s' : Shared}, Inv X pins σ H s' → s'.heap.get? a = some (seqObj "list" #[] e1) → Inv X ((a, seqObj "list" #[] e1) :: pins) σ H s' := fun {s'} J e => J.pins_of fun p hp => by
    rcases List.mem_cons.mp hp with rfl | hp
    · exact ⟨e, fa0.1, fa0.2.1, fa0.2.2.1, fun v z => nomatch z⟩
    · exact J.pin p (List.mem_append_right _ hp)
  have fk : FpOk X ((a, seqObj "list" #[] e1) :: pins) H (a + 2) := ⟨fk0.1, fk0.2.1, fk0.2.2.1, fk0.2.2.2.1, fk0.2.2.2.2.1, fun p hp => by
    rcases List.mem_append.mp hp with h | h
    · exact fk0.2.2.2.2.2 p (List.mem_append_left _ h)
    · rcases List.mem_cons.mp h with rfl | h
      · show a ≠ a + 2
        omega
      · exact fk0.2.2.2.2.2 p (List.mem_append_right _ h)⟩
  have hlen : us.length = xs.length := hv.length.symm
  unfold ksk_rest
  refine wpAny_bind (wpAny_rule ?_)
  rw [List.forIn_toArray]
  refine wpAny_bind (ksk_fold (fun i s' => ∃ (kA : Array Value) (e : Nat), Inv X ((a, seqObj "list" #[] e1) :: pins) σ H s' ∧ s'.heap.get? (a + 2) = some (seqObj "list" kA e) ∧ PySem.W.EachIs (fun u n => ∃ t, u = Value.int n t) kA.toList ((xs.map k).take i)) us 0 _
    ⟨#[], 0, pinA I2 na, nk, by rw [List.take_zero]; exact .nil⟩ ?step ?done)
  case step =>
    rintro j u s' hj ⟨kA, e, J, nk', hk⟩
    simp only [Nat.zero_add] at hk ⊢
    have hjl : j < us.length := (List.getElem?_eq_some_iff.mp hj).1
    obtain ⟨v, hvj⟩ : ∃ v, xs[j]? = some v := ⟨_, List.getElem?_eq_getElem (by omega)⟩
    have r : RelV v u := vals_at hv j hvj hj
    have hzA : kA.size ≤ us.length := by
      have h1 := hk.length
      rw [Array.length_toList, List.length_take, List.length_map] at h1
      omega
    have J2 : Inv X ((a + 2, seqObj "list" kA e) :: (a, seqObj "list" #[] e1) :: pins) σ H s' := J.pins_of fun p hp => by
      rcases List.mem_cons.mp hp with rfl | hp
      · exact ⟨nk', fk.1, fk.2.1, fk.2.2.1, fun v z => nomatch z⟩
      · exact J.pin p (List.mem_append_right _ hp)
    refine wpAny_bind (wpAny_attempt (wpAny_mono (turn _ s' v u (fun p hp => .tail _ (.tail _ hp)) J2 (List.mem_of_getElem? hvj) r) (fun z s'' hq => ?_) fun _ _ hF => hF.elim))
    obtain ⟨t, rfl, J3⟩ := hq
    have nk3 := (J3.pin (a + 2, seqObj "list" kA e) (List.mem_append_right _ (.head _))).1
    have J4 : Inv X ((a, seqObj "list" #[] e1) :: pins) σ H s'' := J3.pins_of fun p hp => J3.pin p (List.mem_append_right _ (.tail _ hp))
    obtain ⟨c2, hc2⟩ : ∃ c2, (s''.heap.update (a + 2) (Obj.mapSeq (·.push (.int (k v) t)))).get? (a + 2) = some (seqObj "list" (kA.push (.int (k v) t)) c2) := ⟨_, get?_update_seq nk3 (·.push (.int (k v) t))⟩
    have sb := Heap.SameBut.update s''.heap (a + 2) (Obj.mapSeq (·.push (.int (k v) t)))
    try dsimp only
    refine wpAny_bind (listUpdate_at nk3 rfl ?_ (Nat.le_trans hzA hz) (Nat.le_trans (Nat.le_of_eq (Array.size_push ..)) (Nat.succ_le_succ (Nat.le_trans hzA hz))))
    have J5 : Inv X ((a, seqObj "list" #[] e1) :: pins) σ H { s'' with heap := s''.heap.update (a + 2) (Obj.mapSeq (·.push (.int (k v) t))) } := by
      have := J4.turnedL (h' := s''.heap.update (a + 2) (Obj.mapSeq (·.push (.int (k v) t)))) (t' := s''.toks) (ch := [a + 2]) (fun b o hb q => (sb.2 b fun z => hb (by rw [z]; exact List.mem_singleton.mpr rfl)).trans q) (fun b hb => by rw [List.mem_singleton.mp hb]; exact fk)
      exact this
    refine wpAny_pure ⟨rfl, kA.push (.int (k v) t), c2, J5, hc2, ?_⟩
    have ek : (xs.map k).take (j + 1) = (xs.map k).take j ++ [k v] := by rw [List.take_add_one, List.getElem?_map, hvj]; rfl
    rw [Array.toList_push, ek]
    exact PySem.W.each_snoc (R := fun (u : Value) (n : Int) => ∃ t, u = Value.int n t) ⟨t, rfl⟩ hk
  case done =>
    rintro s' ⟨kA, e, J, nk', hk⟩
    have hk1 : PySem.W.EachIs (fun u n => ∃ t, u = Value.int n t) kA.toList (xs.map k) := by
      have e3 : (xs.map k).take (0 + us.length) = xs.map k := List.take_of_length_le (by rw [List.length_map]; omega)
      rw [e3] at hk
      exact hk
    have hsz : kA.size = us.length := by
      have h1 := hk1.length
      rw [Array.length_toList, List.length_map] at h1
      omega
    have na' := (J.pin (a, seqObj "list" #[] e1) (List.mem_append_right _ (.head _))).1
    have hk2 : PySem.W.EachIs (fun v d => ∃ as, Reads s'.heap v d as) kA.toList (xs.map fun v => PyData.int (k v)) := by
      have h2 : ∀ (us : List Value) (ys : List V), PySem.W.EachIs (fun u n => ∃ t, u = Value.int n t) us (ys.map k) → PySem.W.EachIs (fun v d => ∃ as, Reads s'.heap v d as) us (ys.map fun v => PyData.int (k v)) := by
        intro us ys h
        induction ys generalizing us with
        | nil => cases h; exact .nil
        | cons y ys ih =>
          cases h with
          | cons h t =>
            obtain ⟨tt, rfl⟩ := h
            exact .cons ⟨[], .int _ _⟩ (ih _ t)
      exact h2 _ _ hk1
    have hal : PySem.W.AllAlike (xs.map fun v => PyData.int (k v)) := fun d hd d' hd' => by
      obtain ⟨_, _, rfl⟩ := List.mem_map.mp hd
      obtain ⟨_, _, rfl⟩ := List.mem_map.mp hd'
      simp [PySem.W.alike]
    have hso : PySem.W.Sortable (xs.map fun v => PyData.int (k v)) := .inr fun d hd => by
      obtain ⟨_, _, rfl⟩ := List.mem_map.mp hd
      exact ⟨nofun, nofun⟩
    have hdp : ∀ d, d ∈ (xs.map fun v => PyData.int (k v)) → A.units + d.depth < cLine := fun d hd => by
      obtain ⟨_, _, rfl⟩ := List.mem_map.mp hd
      simpa [PyData.depth] using hu
    have sb := Heap.SameBut.update s'.heap (a + 2) fun o => { o with data := .freed }
    have kp : PySem.W.KeepsBut a (s'.heap.update (a + 2) fun o => { o with data := .freed }) s'.heap := fun b o hb q => by
      by_cases hb2 : b = a + 2
      · rw [hb2, freed_get] at q
        cases q
      · exact ((sb.2 b hb2).symm.trans q)
    try dsimp only
    refine wpAny_bind (listItems_at nk' rfl ?_)
    refine PySem.W.keyH_end (κ := PySem.W.dataKind s'.heap (xs.map fun v => PyData.int (k v))) (h₁ := s'.heap.update (a + 2) fun o => { o with data := .freed }) kp freed_get nk' na' (show a + 2 ≠ a by omega) (PySem.W.SortsAt.data (s := s') hk2 hal hso hdp) hsz hz fun h3 tk3 c k3 n3 => ?_
    have ko : PySem.W.KeyedOut false (xs.map fun v => PyData.int (k v)) us (PySem.W.sortVals (PySem.W.dataKind s'.heap (xs.map fun v => PyData.int (k v))) false kA.toList us) := ⟨s'.heap, kA.toList, hal, rfl, hk2⟩
    have hR : PySem.W.EachIs (fun (u : Value) (v : V) => RelV v u) us xs := by
      have h2 : ∀ (xs : List V) (us : List Value), Vals xs us → PySem.W.EachIs (fun (u : Value) (v : V) => RelV v u) us xs := by
        intro xs us h
        induction h with
        | nil => exact .nil
        | cons a _ ih => exact .cons a ih
      exact h2 _ _ hv
    have hO := PySem.W.keyedOut_each (fun v => PyData.int (k v)) ko hR
    rw [dataLe_int] at hO
    have hV : Vals (xs.mergeSort fun a b => decide (k a ≤ k b)) (PySem.W.sortVals (PySem.W.dataKind s'.heap (xs.map fun v => PyData.int (k v))) false kA.toList us) := by
      have h2 : ∀ (us : List Value) (xs : List V), PySem.W.EachIs (fun (u : Value) (v : V) => RelV v u) us xs → Vals xs us := by
        intro us xs h
        induction h with
        | nil => exact .nil
        | cons a _ ih => exact .cons a ih
      exact h2 _ _ hO
    have J1 : Inv X pins σ H s' := J.pins_of fun p hp => J.pin p (List.mem_append_right _ (.tail _ hp))
    have J6 := J1.turnedL (h' := h3) (t' := tk3) (ch := [a, a + 2]) (fun b o hb q => by
      have n1 : b ≠ a := fun z => hb (by rw [z]; exact .head _)
      have n2 : b ≠ a + 2 := fun z => hb (by rw [z]; exact .tail _ (.head _))
      exact k3 b o n1 ((sb.2 b n2).trans q)) (fun b hb => by
      rcases List.mem_cons.mp hb with rfl | hb
      · exact fa0
      · rw [List.mem_singleton.mp hb]
        exact fk0)
    refine fin _ fa0.1 (inv_track J6 fa0 hV ?_ n3)
    rw [List.length_mergeSort]
    omega
end
end LT
set_option Elab.async false
set_option linter.all false
set_option maxRecDepth 100000
set_option maxHeartbeats 1000000
namespace LT
open PySem PySem.Spec PyProof.Rows L2 LamX
theorem extN_seqL {K : PySem.W.Frag} {H H' : Hp} {a : Addr} {xs : List V} (e : ExtN H H') (h : SqL K H a xs) : SqL K H' a xs := by
  rcases h with (h | ⟨o, h⟩) | h
  · exact .inl (.inl (e _ _ h nofun))
  · exact .inl (.inr ⟨o, e _ _ h nofun⟩)
  · exact .inr h
theorem extN_seqT {K : PySem.W.Frag} {H H' : Hp} {a : Addr} {xs : List V} (e : ExtN H H') (h : SqT K H a xs) : SqT K H' a xs := by
  rcases h with (h | ⟨o, h⟩) | h
  · exact .inl (.inl (e _ _ h nofun))
  · exact .inl (.inr ⟨o, e _ _ h nofun⟩)
  · exact .inr h
def oneOf (R : V → Hp → Prop) : List V → Hp → Prop
  | [z], H => R z H
  | _, _ => False
def tSortLam (K : PySem.W.Frag) (T : List (Addr × Str)) (ta : TA) (tb : TE) : TE := fun σ H Q => ta σ H (oneOf fun z H1 => Tabs T H1 ∧ ∃ (q : Addr) (xs : List V) (k : V → Int), z = .ref q ∧ (SqL K H1 q xs ∨ SqT K H1 q xs) ∧
  ∀ H2, ExtN H1 H2 → Tabs T H2 → (∀ v ∈ xs, ∀ Q' : VK, Q' (.int (k v)) H2 → tb (some v :: σ) H2 Q') ∧ ∀ l, H2 l = none → Q (.ref l) (upd H2 l (.lst (xs.mergeSort fun a b => decide (k a ≤ k b)))))
section
variable {X : Cx}
theorem stk_free {f : Addr} (hst : X.stack = X.env :: X.outer) (hfr : X.env.frame = some X.env.locals) (h : f ∉ frs X.stack) : f ≠ X.env.locals ∧ f ∉ X.fs := by
  rw [hst] at h
  have e : frs (X.env :: X.outer) = X.env.locals :: frs X.outer := by
    unfold frs
    rw [List.filterMap_cons, hfr]
  rw [e] at h
  exact ⟨fun z => h (by rw [z]; exact .head _), fun z => h (.tail _ z)⟩
theorem in1_env0 {pins : List (Addr × Obj)} {σ : L2.St} {H : Hp} {s : Shared} (I : Inv X pins σ H s) : Env0 X.prog X.w X.K X.mg X.base X.A.in1.in1 X.stack s H := by
  have e := I.env0
  exact ⟨e.frames, e.mod, e.bs, e.bsz, e.funs, e.frf, e.hok, e.bare⟩
/-- sorted(e, key=lambda x: body) -/
theorem pe_sortedLam {T : List (Addr × Str)} {c P : Addr} {x : Str} {k : Nat} {params : Arguments} {body e : Expr} {scope : Scope} {ta : TA} {tb : TE} {p lpos kpos pos : Pos} (hg : Gl X "sorted") (hm : X.mg "sorted" = none) (ha : PA X [e] ta)
    (hst : X.stack = X.env :: X.outer) (hfr : X.env.frame = some X.env.locals) (TB : TabB X.base X.mg c P) (hcode : X.env.code = .ref c) (hmT : (P, X.env.qual ++ "<lambda>") ∈ T) (hu : ∀ p ∈ T, p.1 = P → p.2 = X.env.qual ++ "<lambda>")
    (L : LamP X.env.scope scope x) (hx : x ∉ X.N) (hdef : defaultsOf params X.env = ([], [])) (hbind : ∀ (q : Str) (cl : List (Str × Addr)) (pm cv ctv u : Value), bindArgs (PySem.W.kla_fn "<lambda>" q params body scope cl pm cv ctv) ⟨[u], []⟩ = pure [(x, u)]) (hr : Room (k + 3) X.A)
    (hbody : ∀ (A : Around) (outer : List Env) (s : Shared) (H : Hp) (f c' : Addr), Room k (A.deeper (lamEnv X scope s.heap.objs.size f c')) → PE (lamCxP noX X A outer s H noE scope f c' x) body tb)
    (hv : bootBuiltins "sorted" = some (.builtin "sorted"))
    (he : backTo pos (starEach [e] X.env) = (false, eval e X.env) :: backTo pos (starEach [] X.env) := by rfl) (hpl : (backTo pos (starEach [e] X.env)).any (·.1) = false := by rfl)  :
    PE X (.Call (.Name "sorted" p) [e] [⟨some "key", .Lambda params body scope lpos, kpos⟩] pos) (tSortLam X.K T ta tb) := by
  refine ⟨fun pins s σ H Q I h => ?_⟩
  refine wpAny_Call_Name_kw (ld_blt I hg hm hv ?_)
  refine PyProof.Rows.callWith_kw (thn (ha.run pos pins s σ H (oneOf fun z H1 => Tabs T H1 ∧ ∃ (q : Addr) (xs : List V) (k : V → Int), z = .ref q ∧ (SqL X.K H1 q xs ∨ SqT X.K H1 q xs) ∧
    ∀ H2, ExtN H1 H2 → Tabs T H2 → (∀ v ∈ xs, ∀ Q' : VK, Q' (.int (k v)) H2 → tb (some v :: σ) H2 Q') ∧ ∀ l, H2 l = none → Q (.ref l) (upd H2 l (.lst (xs.mergeSort fun a b => decide (k a ≤ k b))))) I h) fun us s1 ⟨vs, H1, I1, r1, q1⟩ => ?_) he hpl (by rfl) (by rfl)
  match vs, q1 with
  | [z], q1 =>
  have q1 : Tabs T H1 ∧ ∃ (q : Addr) (xs : List V) (k : V → Int), z = .ref q ∧ (SqL X.K H1 q xs ∨ SqT X.K H1 q xs) ∧
    ∀ H2, ExtN H1 H2 → Tabs T H2 → (∀ v ∈ xs, ∀ Q' : VK, Q' (.int (k v)) H2 → tb (some v :: σ) H2 Q') ∧ ∀ l, H2 l = none → Q (.ref l) (upd H2 l (.lst (xs.mergeSort fun a b => decide (k a ≤ k b)))) := q1
  show wpAny _ _ (evalAll ((do let v ← eval (.Lambda params body scope lpos) X.env; standAt pos; pure v) :: (backToKw pos (keywordEach [] X.env)).map (·.2))) _ _ s1
  obtain ⟨hT, q, xs, kf, rfl, hq, h2⟩ := q1
  refine wpAny_evalAll_cons (wpAny_bind (lam_make2 I1 TB hcode hmT hu hT hdef (L.has I1.ok) fun f c' pm ctv H2 s2 I2 eN T2 hf hfn hfs hco => wpAny_bind (wpAny_standAt (wpAny_pure ?_))))
  refine wpAny_evalAll_nil ?_
  obtain ⟨hb, hQ⟩ := h2 H2 eN T2
  obtain ⟨n1, n2⟩ := stk_free hst hfr hfs
  have I3 : Inv X ((f, PySem.W.kla_obj "<lambda>" (X.env.qual ++ "<lambda>") params body scope (cloFrom X.env.cells scope.names []) pm c' ctv) :: pins) σ H2 s2 := I2.pins_of fun p hp => by
    rcases List.mem_cons.mp hp with rfl | hp
    · exact ⟨hf, hfn, n1, n2, fun v z => nomatch z⟩
    · exact I2.pin p (List.mem_append_right _ hp)
  cases r1 with
  | cons r1 r0 =>
    cases r0
    cases r1
    show wpAny (model X.prog X.w) X.A (call (.builtin "sorted") [.ref q] [(Str.ofString "key", .ref f)]) _ _ s2
    have seq : ∃ (T : String) (o : Obj) (its : List Value) (n : Nat), (T = "list" ∨ T = "tuple") ∧ s2.heap.get? q = some o ∧ o.cls = .type T ∧ o.data = .seq its.toArray n ∧ Vals xs its ∧ its.length ≤ sizeLine := by
      rcases hq with hq | hq
      · obtain ⟨its, hv, ⟨o, n, e1, e2, _, e4⟩, hl⟩ := I2.list (extN_seqL eN hq)
        exact ⟨"list", o, its, n, .inl rfl, e1, e2, e4, hv, by rw [← hv.length]; exact hl⟩
      · obtain ⟨its, hv, ⟨o, e1, e2, n, e4⟩, hl⟩ := I2.tuple (extN_seqT eN hq)
        exact ⟨"tuple", o, its, n, .inr rfl, e1, e2, e4, hv, by rw [← hv.length]; exact hl⟩
    obtain ⟨T', o, its, n, hT', e1, e2, e3, hvs, hl⟩ := seq
    refine sorted_seq hT' e1 e2 e3 hl (ksk_s1 _ _) (fun _ => ksk_l1 _ _) fun E' g hg => ?_
    rw [ksk_t1]
    have I4 : Inv X ((f, PySem.W.kla_obj "<lambda>" (X.env.qual ++ "<lambda>") params body scope (cloFrom X.env.cells scope.names []) pm c' ctv) :: pins) σ H2 { s2 with heap := g } := by
      have := I3.kept (h' := g) (t' := s2.toks) hg
      exact this
    have hr2 : Room (k + 1) X.A.in1.in1 := hr.in1.in1
    refine sort_keyed (k := kf) I4 hvs hl hr2.units0 (fun pins' s' v u hp J hv r => ?_) fun s' hn J => ⟨rfl, .ref g.objs.size, _, J.pins_of fun p hp => J.pin p (List.mem_append_right _ (.tail _ hp)), rfl, hQ _ hn⟩
    have hf' := (J.pin _ (List.mem_append_right _ (hp _ (.head _)))).1
    refine wpAny_call (codeAny_mono (lam_run (CX := noX) (E := noE) (Q := fun z H' => z = .int (kf v) ∧ H' = H2) (k := k) J L hx (in1_env0 J) Un.refl hf' hco (hbind _ _ _ _ _ _) r hr2 (fun hr3 => hbody _ _ _ _ _ _ hr3) (hb v hv _ ⟨rfl, rfl⟩)) fun res s'' hq => ?_)
    match res, hq with
    | .error _, hq => exact hq.elim
    | .ok .next, hq => exact hq.elim
    | .ok .brk, hq => exact hq.elim
    | .ok .cont, hq => exact hq.elim
    | .ok (.ret z), hq =>
      obtain ⟨z', H', J', rz, rfl, rfl⟩ := J.after hq
      obtain ⟨t, rfl⟩ := rz
      exact ⟨t, rfl, J'⟩
end
end LT
set_option Elab.async false
set_option linter.all false
namespace LD
abbrev Row := Int × Option Int
def In (r : Row) (d : Int) : Prop := r.1 ≤ d ∧ ∀ j, r.2 = some j → d ≤ j
def Ins (L : List Row) (d : Int) : Prop := ∃ r, r ∈ L ∧ In r d
def Ok (r : Row) : Prop := 0 ≤ r.1 ∧ ∀ j, r.2 = some j → r.1 ≤ j
theorem Ok.self {r : Row} (h : Ok r) : In r r.1 := ⟨Int.le_refl _, h.2⟩
/-- told in one way alone, the last row ahead -/
def Can : List Row → Prop
  | [] => True
  | [r] => Ok r
  | r :: s :: t => Ok r ∧ (∃ j, s.2 = some j ∧ j + 1 < r.1) ∧ Can (s :: t)
theorem Can.tail {r : Row} : ∀ {t : List Row}, Can (r :: t) → Can t
  | [], _ => trivial
  | _ :: _, h => h.2.2
theorem Can.hd {r : Row} : ∀ {t : List Row}, Can (r :: t) → Ok r
  | [], h => h
  | _ :: _, h => h.1
/-- the rows behind the head end two days ahead of it -/
theorem Can.under : ∀ {t : List Row} {r : Row}, Can (r :: t) → ∀ s ∈ t, ∃ j, s.2 = some j ∧ j + 1 < r.1
  | [], _, _, s, hs => nomatch hs
  | u :: t, r, h, s, hs => by
    obtain ⟨j, e, hj⟩ := h.2.1
    rcases List.mem_cons.mp hs with rfl | hs
    · exact ⟨j, e, hj⟩
    · obtain ⟨i, e2, hi⟩ := Can.under h.2.2 s hs
      have := h.2.2.hd.2 j e
      exact ⟨i, e2, by omega⟩
theorem Can.ok : ∀ {L : List Row}, Can L → ∀ s ∈ L, Ok s
  | [], _, s, hs => nomatch hs
  | r :: t, h, s, hs => by
    rcases List.mem_cons.mp hs with rfl | hs
    · exact h.hd
    · exact h.tail.ok s hs
theorem ins_cons {r : Row} {t : List Row} {d : Int} : Ins (r :: t) d ↔ In r d ∨ Ins t d := by
  constructor
  · rintro ⟨s, hs, h⟩
    rcases List.mem_cons.mp hs with rfl | hs
    · exact .inl h
    · exact .inr ⟨s, hs, h⟩
  · rintro (h | ⟨s, hs, h⟩)
    · exact ⟨r, .head _, h⟩
    · exact ⟨s, .tail _ hs, h⟩
theorem not_nil {d : Int} : ¬ Ins [] d := fun ⟨_, h, _⟩ => nomatch h
/-- what is of the tail is two days ahead of the head -/
theorem Can.below {r : Row} {t : List Row} (h : Can (r :: t)) {d : Int} (hd : Ins t d) : d + 1 < r.1 := by
  obtain ⟨s, hs, hi⟩ := hd
  obtain ⟨j, e, hj⟩ := h.under s hs
  have := hi.2 j e
  omega
/-- the same days, told in one way -/
theorem uniq : ∀ {L L' : List Row}, Can L → Can L' → (∀ d, Ins L d ↔ Ins L' d) → L = L'
  | [], [], _, _, _ => rfl
  | [], r :: t, _, h', e => absurd ((e r.1).mpr (ins_cons.mpr (.inl h'.hd.self))) not_nil
  | r :: t, [], h, _, e => absurd ((e r.1).mp (ins_cons.mpr (.inl h.hd.self))) not_nil
  | (a, x) :: t, (b, y) :: t', h, h', e => by
    have ha := h.hd
    have hb := h'.hd
    have lo : ∀ {a b : Int} {x y : Option Int} {t t' : List Row}, Can ((a, x) :: t) → Can ((b, y) :: t') → (∀ d, Ins ((a, x) :: t) d ↔ Ins ((b, y) :: t') d) → y = x → b ≤ a := by
      intro a b x y t t' h h' e exy
      by_cases hlt : a < b
      · exfalso
        have hin : In (a, x) (b - 1) := ⟨by show a ≤ b - 1; omega, fun j ej => by
          have := h'.hd.2 j (by show y = some j; rw [exy]; exact ej)
          show b - 1 ≤ j
          have : b ≤ j := this
          omega⟩
        rcases ins_cons.mp ((e (b - 1)).mp (ins_cons.mpr (.inl hin))) with z | z
        · have := z.1
          have : b ≤ b - 1 := this
          omega
        · have := h'.below z
          have : b - 1 + 1 < b := this
          omega
      · omega
    have hi : ∀ {a b : Int} {x y : Option Int} {t t' : List Row}, Can ((a, x) :: t) → Can ((b, y) :: t') → (∀ d, Ins ((a, x) :: t) d ↔ Ins ((b, y) :: t') d) → ∀ j, y = some j → ∃ i, x = some i ∧ i ≤ j := by
      intro a b x y t t' h h' e j ej
      have top : ∀ d, Ins ((b, y) :: t') d → d ≤ j := fun d hd => by
        rcases ins_cons.mp hd with z | z
        · exact z.2 j ej
        · have := h'.below z
          have h2 := h'.hd.2 j ej
          have : d + 1 < b := this
          have : b ≤ j := h2
          omega
      cases x with
      | none =>
        exfalso
        by_cases hc : a ≤ j + 1
        · have := top (j + 1) ((e _).mp (ins_cons.mpr (.inl ⟨hc, nofun⟩)))
          omega
        · have := top a ((e _).mp (ins_cons.mpr (.inl h.hd.self)))
          omega
      | some i =>
        refine ⟨i, rfl, ?_⟩
        exact top i ((e _).mp (ins_cons.mpr (.inl ⟨h.hd.2 i rfl, fun k ek => by cases ek; exact Int.le_refl _⟩)))
    have exy : x = y := by
      cases y with
      | some j =>
        obtain ⟨i, rfl, hij⟩ := hi h h' e j rfl
        obtain ⟨k, ek, hk⟩ := hi h' h (fun d => (e d).symm) i rfl
        cases ek
        exact congrArg some (by omega)
      | none =>
        cases x with
        | none => rfl
        | some i =>
          obtain ⟨k, ek, _⟩ := hi h' h (fun d => (e d).symm) i rfl
          cases ek
    subst exy
    have eab : a = b := by
      have h1 := lo h h' e rfl
      have h2 := lo h' h (fun d => (e d).symm) rfl
      omega
    subst eab
    have et : t = t' := uniq h.tail h'.tail fun d => by
      constructor
      · intro hd
        have lt := h.below hd
        rcases ins_cons.mp ((e d).mp (ins_cons.mpr (.inr hd))) with z | z
        · have := z.1
          have : a ≤ d := this
          have : d + 1 < a := lt
          omega
        · exact z
      · intro hd
        have lt := h'.below hd
        rcases ins_cons.mp ((e d).mpr (ins_cons.mpr (.inr hd))) with z | z
        · have := z.1
          have : a ≤ d := this
          have : d + 1 < a := lt
          omega
        · exact z
    rw [et]
/-! ### merging -/
/-! ### the walk over the marks -/
def stepD (w : Int → Bool) (R : List Row) (d : Int) : List Row := match R with
  | [] => if w d = true then [(d, none)] else []
  | (f, none) :: t => if w d = true then (f, none) :: t else (f, some (d - 1)) :: t
  | (f, some j) :: t => if w d = true then (d, none) :: (f, some j) :: t else (f, some j) :: t
structure Till (w : Int → Bool) (R : List Row) (m : Int) : Prop where
  can : Can R
  up : ∀ d, d ≤ m → (Ins R d ↔ w d = true)
  on : ∀ d, m < d → (Ins R d ↔ w m = true)
  fs : ∀ r ∈ R, r.1 ≤ m
theorem Till.step {w : Int → Bool} {R : List Row} {m n : Int} (h : Till w R m) (hn : m < n) (n0 : 0 ≤ n) (cst : ∀ d, m ≤ d → d < n → w d = w m) : Till w (stepD w R n) n := by
  have mid : ∀ d, d < n → (Ins R d ↔ w d = true) := fun d hd => by
    by_cases hm : d ≤ m
    · exact h.up d hm
    · rw [h.on d (by omega), cst d (by omega) hd]
  have keep : Ins R n → w m = true := fun z => (h.on n hn).mp z
  have noN : w m = false → ∀ d, m ≤ d → ¬ Ins R d := fun e d hd z => by
    by_cases hm : d ≤ m
    · have : d = m := by omega
      subst this
      have := (h.up d (Int.le_refl _)).mp z
      rw [e] at this
      cases this
    · have := (h.on d (by omega)).mp z
      rw [e] at this
      cases this
  have same : ∀ b, w m = b → w n = b → Till w R n := fun b e1 e2 => ⟨h.can, fun d hd => by
    by_cases hdn : d < n
    · exact mid d hdn
    · have : d = n := by omega
      subst this
      rw [h.on d hn, e1, e2], fun d hd => by rw [h.on d (by omega), e1, e2], fun r hr => by have := h.fs r hr; omega⟩
  have open_ : w m = false → w n = true → Till w ((n, none) :: R) n := fun e1 e2 => by
    refine ⟨?_, fun d hd => ?_, fun d hd => ?_, fun r hr => ?_⟩
    · cases hR : R with
      | nil => exact ⟨n0, nofun⟩
      | cons r t =>
        rw [hR] at h noN
        refine ⟨⟨n0, nofun⟩, ?_, h.can⟩
        obtain ⟨f, x⟩ := r
        cases x with
        | none => exact absurd (ins_cons.mpr (.inl (show In (f, none) m from ⟨h.fs (f, none) (.head _), fun j ej => by cases ej⟩))) (noN e1 m (Int.le_refl _))
        | some j =>
          refine ⟨j, rfl, ?_⟩
          show j + 1 < n
          by_cases hj : j < m
          · omega
          · exact absurd (ins_cons.mpr (.inl ⟨h.can.hd.2 j rfl, fun k ek => by cases ek; exact Int.le_refl _⟩)) (noN e1 j (by omega))
    · rw [ins_cons]
      by_cases hdn : d < n
      · rw [← mid d hdn]
        exact ⟨fun z => z.elim (fun q => by have := q.1; have : n ≤ d := this; omega) id, .inr⟩
      · have : d = n := by omega
        subst this
        exact ⟨fun _ => e2, fun _ => .inl ⟨Int.le_refl _, nofun⟩⟩
    · rw [ins_cons]
      exact ⟨fun _ => e2, fun _ => .inl ⟨by show n ≤ d; omega, nofun⟩⟩
    · rcases List.mem_cons.mp hr with rfl | hr
      · exact Int.le_refl _
      · have := h.fs r hr
        omega
  unfold stepD
  split
  · have e1 : w m = false := by
      cases hw : w m with
      | false => rfl
      | true => exact absurd ((h.on n hn).mpr hw) not_nil
    split
    · rename_i e2
      exact open_ e1 e2
    · rename_i e2
      exact same false e1 (by cases hw : w n <;> first | rfl | exact absurd hw e2)
  · rename_i f t
    have e1 : w m = true := (h.on n hn).mp (ins_cons.mpr (.inl ⟨by have := h.fs (f, none) (.head _); have : f ≤ m := this; show f ≤ n; omega, nofun⟩))
    have hf : f ≤ m := h.fs (f, none) (.head _)
    split
    · rename_i e2
      exact same true e1 e2
    · rename_i e2
      have e2 : w n = false := by cases hw : w n <;> first | rfl | exact absurd hw e2
      refine ⟨?_, fun d hd => ?_, fun d hd => ?_, fun r hr => ?_⟩
      · have okn : Ok (f, some (n - 1)) := ⟨h.can.hd.1, fun j ej => by cases ej; show f ≤ n - 1; omega⟩
        cases t with
        | nil => exact okn
        | cons s t => exact ⟨okn, h.can.2.1, h.can.2.2⟩
      · rw [ins_cons]
        by_cases hdn : d < n
        · rw [← mid d hdn, ins_cons]
          constructor
          · rintro (z | z)
            · exact .inl ⟨z.1, nofun⟩
            · exact .inr z
          · rintro (z | z)
            · exact .inl ⟨z.1, fun j ej => by cases ej; omega⟩
            · exact .inr z
        · have : d = n := by omega
          subst this
          rw [e2]
          refine ⟨fun z => ?_, nofun⟩
          rcases z with z | z
          · have := z.2 (d - 1) rfl
            omega
          · have := h.can.below z
            have : d + 1 < f := this
            omega
      · rw [ins_cons, e2]
        refine ⟨fun z => ?_, nofun⟩
        rcases z with z | z
        · have := z.2 (n - 1) rfl
          omega
        · have := h.can.below z
          have : d + 1 < f := this
          omega
      · rcases List.mem_cons.mp hr with rfl | hr
        · show f ≤ n
          omega
        · have := h.fs r (.tail _ hr)
          omega
  · rename_i f j t
    have e1 : w m = false := by
      cases hw : w m with
      | false => rfl
      | true =>
        have big : ∀ d, m < d → d ≤ j := fun d hd => by
          rcases ins_cons.mp ((h.on d hd).mpr hw) with z | z
          · exact z.2 j rfl
          · have := h.can.below z
            have h2 : f ≤ m := h.fs (f, some j) (.head _)
            have : d + 1 < f := this
            omega
        have b1 := big (m + 1) (by omega)
        have b2 := big (j + 1) (by omega)
        omega
    split
    · rename_i e2
      exact open_ e1 e2
    · rename_i e2
      exact same false e1 (by cases hw : w n <;> first | rfl | exact absurd hw e2)
/-! ### the rows' own look -/
end LD
set_option Elab.async false
set_option linter.all false
set_option maxRecDepth 100000
set_option maxHeartbeats 3200000
namespace LT
open PySem PySem.Spec PyProof.Rows L2
end LT
set_option Elab.async false
set_option linter.all false
set_option maxRecDepth 100000
namespace LT
open PySem PySem.Spec PyProof.Rows L2 LamX
/-- a list or a tuple -/
def Sq2 (K : PySem.W.Frag) (H : Hp) (a : Addr) (xs : List V) : Prop := SqL K H a xs ∨ SqT K H a xs
def Still (K : PySem.W.Frag) (H1 : Hp) (a : Addr) (xs : List V) (H : Hp) : Prop := (SqL K H1 a xs → SqL K H a xs) ∧ (SqT K H1 a xs → SqT K H a xs)
theorem Still.of {K : PySem.W.Frag} {H1 H : Hp} {a : Addr} {xs : List V} (e : ExtN H1 H) : Still K H1 a xs H := ⟨extN_seqL e, extN_seqT e⟩
theorem Sq2.ext {K : PySem.W.Frag} {H1 H : Hp} {a : Addr} {xs : List V} (h : Sq2 K H1 a xs) (e : ExtN H1 H) : Sq2 K H a xs := h.imp (extN_seqL e) (extN_seqT e)
theorem extN_same {H H' : Hp} (s : Same H H') : ExtN H H' := ExtN.of s
section
variable {X : Cx} {tg : Expr}
/-- a number or None -/
def enc : Option Int → V
  | none => .non
  | some j => .int j
end
end LT
set_option Elab.async false
set_option linter.all false
set_option maxRecDepth 100000
set_option maxHeartbeats 1600000
namespace LT
open PySem PySem.Spec PyProof.Rows L2
section
variable {prog : Program} {w : World} {A : Around} {E : Value → Shared → Prop} {s : Shared}
/-- two lists that are not of one length -/
theorem ne_lens {Q : Value → Shared → Prop} {l b : Addr} {items items2 : Array Value} {n n2 : Nat} (hu : A.units < cLine) (ho : s.heap.get? l = some { cls := .type "list", data := .seq items n }) (ho2 : s.heap.get? b = some { cls := .type "list", data := .seq items2 n2 }) (hd : items.size ≠ items2.size)
    (h : Q (.bool true) s) : wpAny (model prog w) A (richCompare .NotEq (.ref l) (.ref b)) Q E s := by
  refine wpAny_richCompare_same_room (op := .NotEq) ⟨_, ho, rfl⟩ ⟨_, ho2, rfl⟩ PySem.F.slot_list_ne (GQ.call_here PySem.F.slot_list_ne ⟨_, ho, rfl⟩ PySem.F.entry_list_ne (PySem.F.args_list_ne_2 _ _) ?_) hu
  have f3 := AutoSeq1.sub_list_list
  have hne : (items.size != items2.size) = true := by simpa using hd
  obtain ⟨hp, g, d, tk, os⟩ := s
  wp_walk using wpAny_loadPart' ho, wpAny_loadPart' ho2
  exact ⟨(fun z => nomatch z), h⟩
end
def rNeNil (K : PySem.W.Frag) : R2 := fun x y H Q => ∃ (l k : Addr) (xs : List V), x = .ref l ∧ y = .ref k ∧ H l = some (.lst xs) ∧ H k = some (.lst []) ∧ Q (.bl (!xs.isEmpty)) H
/-- xs != [] -/
theorem op_neNil {X : Cx} (hu : X.A.units + 64 < cLine) : OpR X (compareOp .NotEq) (rNeNil X.K) := by
  intro pins s σ H x y v u Q I rx ry h
  obtain ⟨l, k, xs, rfl, rfl, hl, hk, q⟩ := h
  cases xs with
  | nil => exact op_neD hu pins s σ H _ _ v u Q I rx ry ⟨.list [], .list [], .lst (SqL.of hl) .nil, .lst (SqL.of hk) .nil, by decide +kernel, by decide +kernel, by
      rw [show PyData.eqv (.list []) (.list []) = true by decide +kernel]
      exact q⟩
  | cons x xs =>
    cases rx
    cases ry
    obtain ⟨_, its, n, rv, ho⟩ := (show ObjOk X.prog X.w H s.heap l (.lst (x :: xs)) from I.hok l _ hl)
    obtain ⟨_, its2, n2, rv2, ho2⟩ := (show ObjOk X.prog X.w H s.heap k (.lst []) from I.hok k _ hk)
    cases rv2
    refine ne_lens (by omega) ho ho2 ?_ ⟨.bl true, H, I, rfl, q⟩
    have := rv.length
    rw [List.length_cons] at this
    show its.toArray.size ≠ 0
    rw [List.size_toArray]
    omega
end LT
set_option Elab.async false
set_option linter.all false
set_option maxRecDepth 100000
set_option maxHeartbeats 1600000
/-! Own layer: what the laws over books draw: names, plans, events. -/
namespace LT
open PySem PySem.Spec PyProof.Rows L2 NdefX
def spTakeW : Sp := fun vs H Q _ => ∃ (p : Addr) (r : Int), vs = [.ref p, .int r] ∧ Pot H p ∧ 0 < r ∧ r ≤ 10 ^ 61 ∧
  ∀ (d : Int) (H' : Hp), 0 ≤ d → d < r → Pot H' p → SameB p H H' → Q (.int d) H'
theorem nopy61 {x r : Int} (h0 : 0 < r) (h : r ≤ 10 ^ 61) : Builtin.divisionGoesByPylong x r = false := by
  refine PyProof.noPylong_of_log2 (Nat.lt_trans ?_ (show 1920 < 9000 by decide))
  exact lg61 (by omega)
def spFarB : Sp := fun vs H Q _ => ∃ (p : Addr), vs = [.ref p] ∧ Pot H p ∧ ∀ (d : Int) (H' : Hp), 0 ≤ d → d < 10 ^ 54 → Pot H' p → SameB p H H' → Q (.int d) H'
/-- unlike names -/
structure Names (zs : List Str) : Prop where
  nd : zs.Nodup
  nm : ∀ z ∈ zs, Nm z
theorem Names.nil : Names [] := ⟨List.nodup_nil, nofun⟩
theorem Names.snoc {zs : List Str} {z : Str} (h : Names zs) (hz : Nm z) (n : z ∉ zs) : Names (zs ++ [z]) := by
  refine ⟨?_, fun y hy => ?_⟩
  · rw [List.nodup_append]
    refine ⟨h.nd, List.nodup_cons.mpr ⟨nofun, List.nodup_nil⟩, fun a ha b hb e => ?_⟩
    rw [List.mem_singleton.mp hb] at e
    exact n (e ▸ ha)
  · rcases List.mem_append.mp hy with h1 | h1
    · exact h.nm y h1
    · rw [List.mem_singleton.mp h1]
      exact hz
theorem at_small26 {d : Int} (d0 : 0 ≤ d) (d1 : d < 26) : ∃ c, atI (Str.ofString "abcdefghijklmnopqrstuvwxyz").cps.toList d = some c ∧ small c = true ∧ (c : Int) = 97 + d := by
  obtain ⟨j, rfl⟩ := Int.eq_ofNat_of_zero_le d0
  have hj : j < (Str.ofString "abcdefghijklmnopqrstuvwxyz").cps.toList.length := by
    rw [letters, List.length_range']
    omega
  have hg : (Str.ofString "abcdefghijklmnopqrstuvwxyz").cps.toList[j]? = some (97 + j) := by
    rw [letters, List.getElem?_range' (by omega)]
    congr 1
    omega
  refine ⟨97 + j, atI_nat hg, ?_, by omega⟩
  rw [← small_mem]
  exact decide_eq_true (List.mem_of_getElem? hg)
/-- a stand-in name -/
def cand (j : Nat) : Str := ⟨#[113, 97 + j / 26, 97 + j % 26]⟩
theorem cand_nm {j : Nat} (h : j < 676) : Nm (cand j) := by
  refine ⟨by show 1 ≤ 3; decide, by show 3 ≤ 8; decide, fun c hc => ?_⟩
  have hc : c ∈ [113, 97 + j / 26, 97 + j % 26] := hc
  simp only [List.mem_cons, List.not_mem_nil, or_false] at hc
  unfold small
  rw [Bool.and_eq_true, decide_eq_true_iff, decide_eq_true_iff]
  rcases hc with rfl | rfl | rfl <;> omega
theorem cand_inj {i j : Nat} (h : cand i = cand j) : i = j := by
  have h : (#[113, 97 + i / 26, 97 + i % 26] : Array Nat) = #[113, 97 + j / 26, 97 + j % 26] := congrArg Str.cps h
  have h := congrArg Array.toList h
  simp only [List.cons.injEq, and_true, true_and] at h
  omega
/-- so many stand-ins are not all among few names -/
theorem cand_few {zs : List Str} {m : Nat} (h : ∀ i, i < m → cand i ∈ zs) : m ≤ zs.length := by
  have nd : ((List.range m).map cand).Nodup := by
    rw [List.Nodup, List.pairwise_map]
    exact (List.nodup_range (n := m)).imp fun h e => h (cand_inj e)
  have := List.Nodup.length_le_of_subset nd (l₂ := zs) fun z hz => by
    obtain ⟨i, hi, rfl⟩ := List.mem_map.mp hz
    exact h i (List.mem_range.mp hi)
  rw [List.length_map, List.length_range] at this
  exact this
theorem inV_dec (z : Str) : ∀ zs : List Str, inV (.str z) (zs.map V.str) = decide (z ∈ zs)
  | [] => rfl
  | y :: ys => by
    show (eqV (.str y) (.str z) || inV (.str z) (ys.map V.str)) = _
    rw [inV_dec z ys]
    have e : eqV (.str y) (.str z) = decide (z = y) := by
      show (y == z) = _
      by_cases h : z = y
      · rw [decide_eq_true h, h]
        exact beq_self_eq_true y
      · rw [decide_eq_false h]
        exact beq_eq_false_iff_ne.mpr (Ne.symm h)
    rw [e]
    by_cases h : z = y
    · rw [decide_eq_true h, decide_eq_true (List.mem_cons.mpr (.inl h))]
      rfl
    · rw [decide_eq_false h]
      by_cases h2 : z ∈ ys
      · rw [decide_eq_true h2, decide_eq_true (List.mem_cons_of_mem _ h2)]
        rfl
      · rw [decide_eq_false h2, decide_eq_false (fun e => (List.mem_cons.mp e).elim h h2)]
        rfl
theorem strs_flat : ∀ zs : List Str, (zs.map V.str).all flatV = true
  | [] => rfl
  | _ :: zs => strs_flat zs
/-- a name one sign of which is put otherwise -/
theorem nm_turned {z : Str} {d : Nat} {c : Nat} (h : Nm z) (hd : d < z.length) (hc : small c = true) :
    Nm ⟨(z.cps.toList.take d ++ [c] ++ z.cps.toList.drop (d + 1)).toArray⟩ := by
  have e : (z.cps.toList.take d ++ [c] ++ z.cps.toList.drop (d + 1)).length = z.length := by
    have : z.cps.toList.length = z.length := Array.length_toList
    rw [List.length_append, List.length_append, List.length_take, List.length_drop, List.length_singleton, this]
    omega
  refine ⟨?_, ?_, ?_⟩
  · show 1 ≤ (z.cps.toList.take d ++ [c] ++ z.cps.toList.drop (d + 1)).toArray.size
    rw [List.size_toArray, e]
    exact h.l1
  · show (z.cps.toList.take d ++ [c] ++ z.cps.toList.drop (d + 1)).toArray.size ≤ 8
    rw [List.size_toArray, e]
    exact h.l8
  · intro x hx
    have hx : x ∈ z.cps.toList.take d ++ [c] ++ z.cps.toList.drop (d + 1) := hx
    rcases List.mem_append.mp hx with hx | hx
    · rcases List.mem_append.mp hx with hx | hx
      · exact h.al x (List.mem_of_mem_take hx)
      · rw [List.mem_singleton.mp hx]
        exact hc
    · exact h.al x (List.mem_of_mem_drop hx)
theorem cutS_take {z : Str} {i : Int} (h : 0 ≤ i) : (cutS z none (some i)).cps.toList = z.cps.toList.take i.toNat := by
  have hl : z.length = z.cps.toList.length := Array.length_toList.symm
  show (z.cps.toList.drop (HT.sIx z.length 0 none)).take (HT.sIx z.length z.length (some i) - HT.sIx z.length 0 none) = _
  rw [HT.sIx_none, sIx_pos h, List.drop_zero, Nat.sub_zero, hl, List.take_eq_take_iff]
  omega
theorem cutS_drop {z : Str} {i : Int} (h : 0 ≤ i) : (cutS z (some i) none).cps.toList = z.cps.toList.drop i.toNat := by
  have hl : z.length = z.cps.toList.length := Array.length_toList.symm
  show (z.cps.toList.drop (HT.sIx z.length 0 (some i))).take (HT.sIx z.length z.length none - HT.sIx z.length 0 (some i)) = _
  rw [HT.sIx_none, sIx_pos h, hl]
  by_cases hi : i.toNat ≤ z.cps.toList.length
  · rw [Nat.min_eq_left hi, List.take_of_length_le (by rw [List.length_drop]; exact Nat.le_refl _)]
  · rw [Nat.min_eq_right (by omega), Nat.sub_self, List.take_zero, List.drop_eq_nil_of_le (by omega)]
theorem turned_eq {z : Str} {d : Int} {c : Nat} (h : 0 ≤ d) : cutS z none (some d) ++ (⟨#[c]⟩ : Str) ++ cutS z (some (d + 1)) none = ⟨(z.cps.toList.take d.toNat ++ [c] ++ z.cps.toList.drop (d.toNat + 1)).toArray⟩ := str_eq (by
  rw [str_app_codes, str_app_codes, cutS_take h, cutS_drop (by omega)]
  rw [show (d + 1).toNat = d.toNat + 1 by omega])
theorem cand_eq {j : Nat} {c d : Nat} (hc : (c : Int) = 97 + ((j : Nat) : Int) / 26) (hd : (d : Int) = 97 + ((j : Nat) : Int) % 26) : Str.ofString "q" ++ (⟨#[c]⟩ : Str) ++ (⟨#[d]⟩ : Str) = cand j := str_eq (by
  rw [str_app_codes, str_app_codes, show (Str.ofString "q").cps.toList = [113] by decide +kernel]
  show [113, c, d] = [113, 97 + j / 26, 97 + j % 26]
  rw [show c = 97 + j / 26 by omega, show d = 97 + j % 26 by omega])
/-! ### plans -/
def kindS (mv : Bool) : Str := if mv = true then Str.ofString "move" else Str.ofString "land"
theorem kind_land (mv : Bool) : decide (V.str (kindS mv) = V.str (Str.ofString "land")) = !mv := by cases mv <;> decide +kernel
theorem kind_move (mv : Bool) : decide (V.str (kindS mv) = V.str (Str.ofString "move")) = mv := by cases mv <;> decide +kernel
theorem kind_eq (a b : Bool) : decide (V.str (kindS a) = V.str (kindS b)) = decide (a = b) := by cases a <;> cases b <;> decide +kernel
structure PlanD where
  n : Addr
  r : Addr
  l : Addr
  zs : List Str
  rk : List (Str × Int)
  ls : List Str
  far : Int
def planK (D : PlanD) (kn : Int) (la : Addr) : List (Key × V) :=
  [(.inr "names", .ref D.n), (.inr "ranks", .ref D.r), (.inr "lights", .ref D.l), (.inr "far", .int D.far), (.inr "known", .int kn), (.inr "last", .ref la)]
theorem at_any {xs : List V} {d : Int} (h0 : 0 ≤ d) (h1 : d < xs.length) : ∃ v, v ∈ xs ∧ atI xs d = some v := by
  obtain ⟨n, rfl⟩ : ∃ n : Nat, d = (n : Nat) := ⟨d.toNat, by omega⟩
  have h : n < xs.length := by omega
  exact ⟨xs[n], List.getElem_mem h, atI_nat (List.getElem?_eq_getElem h)⟩
theorem SameL.new {S : List Addr} {H H' : Hp} {q : Addr} {o : HO} (n : H' q = none) (s : SameL S H H') : SameL S H (L2.upd H' q o) := fun b x h e => by
  rw [upd_ne (ne_of_none (s b x h e) n)]
  exact s b x h e
/-- pairs of a name and a number, as tuples -/
def PairsP (H : Hp) (ts : List Addr) (rs : List (Str × Int)) : Prop := Paired (fun t (q : Str × Int) => H t = some (.tup [.str q.1, .int q.2])) ts rs
theorem PairsP.snoc {H : Hp} {ts : List Addr} {rs : List (Str × Int)} {t : Addr} {z : Str} {i : Int} (h : PairsP H ts rs) (e : H t = some (.tup [.str z, .int i])) : PairsP H (ts ++ [t]) (rs ++ [(z, i)]) := paired_snoc' h e
theorem PairsP.upd {H : Hp} {ts : List Addr} {rs : List (Str × Int)} {F : Addr} {xs : List V} {o : HO} (h : PairsP H ts rs) (e : H F = some (.lst xs)) : PairsP (L2.upd H F o) ts rs := paired_imp (fun t p h => by rw [upd_ne (ne_of h e (by intro z; cases z))]; exact h) h
theorem PairsP.new {H : Hp} {ts : List Addr} {rs : List (Str × Int)} {F : Addr} {o : HO} (h : PairsP H ts rs) (n : H F = none) : PairsP (L2.upd H F o) ts rs := paired_imp (fun t p h => by rw [upd_ne (ne_of_none h n)]; exact h) h
structure PlanI (H : Hp) (D : PlanD) : Prop where
  hn : H D.n = some (.lst (D.zs.map V.str))
  hr : H D.r = some (.dK (sd D.rk))
  hl : H D.l = some (.lst (D.ls.map V.str))
theorem PlanI.mono {H H' : Hp} {D : PlanD} (h : PlanI H D) (s : Same H H') : PlanI H' D := ⟨s _ _ h.hn, s _ _ h.hr, s _ _ h.hl⟩
theorem strs_no_pot {zs : List Str} (a b : Int) : (HO.lst (zs.map V.str)) ≠ .lst [.int a, .int b] := strs_not_ints
structure PlanG (D : PlanD) : Prop where
  zs : Names D.zs
  ls : Names D.ls
  l0 : 0 < D.ls.length
  zk : D.rk.map (·.1) = D.zs
  rk : Rk D.rk
  f0 : 0 ≤ D.far
  f1 : D.far < 10 ^ 54
  z8 : D.zs.length ≤ 30
  l8 : D.ls.length ≤ 3
/-- an event as a tuple -/
def EvT (H : Hp) (t : Addr) (e : Evt) : Prop := H t = some (.tup [.str (kindS e.mv), .int e.kn, .str e.who, .int e.day, e.w])
/-- what was told last, in short -/
def LastAt (H : Hp) (la : Addr) : Option Evt → Prop
  | none => H la = some (.lst [])
  | some e => ∃ t, H la = some (.lst [.ref t]) ∧ H t = some (.tup [.str (kindS e.mv), .str e.who, .int e.day])
theorem LastAt.mono {H H' : Hp} {la : Addr} {o : Option Evt} (h : LastAt H la o) (s : Same H H') : LastAt H' la o := by
  cases o with
  | none => exact s _ _ h
  | some e =>
    obtain ⟨t, a, b⟩ := h
    exact ⟨t, s _ _ a, s _ _ b⟩
/-- a list of events -/
def EvsAt (H Hi : Hp) (E : Addr) (es : List Evt) : Prop := ∃ ts : List Addr, H E = some (.lst (ts.map V.ref)) ∧ Paired (EvT Hi) ts es
theorem EvsAt.mono {H H' Hi Hi' : Hp} {E : Addr} {es : List Evt} (h : EvsAt H Hi E es) (s : Same H H') (s' : Same Hi Hi') : EvsAt H' Hi' E es := by
  obtain ⟨ts, a, b⟩ := h
  exact ⟨ts, s _ _ a, paired_imp (fun _ _ h => s' _ _ h) b⟩
/-- by day, what is told last, as a dict is made of it -/
def heldD (es : List Evt) (mv : Bool) (z : Str) (kn : Option Int) : List (Int × V) := es.foldl (fun t e => if (ofE mv z e && ctK kn e.kn) = true then putA t e.day e.w else t) []
theorem heldD_snoc (es : List Evt) (e : Evt) (mv : Bool) (z : Str) (kn : Option Int) : heldD (es ++ [e]) mv z kn = if (ofE mv z e && ctK kn e.kn) = true then putA (heldD es mv z kn) e.day e.w else heldD es mv z kn := by
  unfold heldD
  rw [List.foldl_append]
  rfl
theorem heldD_get (mv : Bool) (z : Str) (kn : Option Int) (d : Int) : ∀ es : List Evt, getA (heldD es mv z kn) d = heldO es mv z kn d := by
  refine snoc_ind rfl fun es e ih => ?_
  rw [heldD_snoc, heldO_snoc]
  unfold heldP
  by_cases h : (ofE mv z e && ctK kn e.kn) = true
  · rw [if_pos h, getA_put, h]
    by_cases hd : d = e.day
    · rw [if_pos hd, if_pos (by rw [decide_eq_true hd.symm]; rfl)]
    · rw [if_neg hd, if_neg (by rw [decide_eq_false (Ne.symm hd)]; nofun), ih]
  · rw [if_neg h, bool_false h, if_neg (by nofun), ih]
theorem heldD_keys (mv : Bool) (z : Str) (kn : Option Int) : ∀ es : List Evt, ((heldD es mv z kn).map (·.1)).Nodup ∧ (heldD es mv z kn).length ≤ es.length := by
  refine snoc_ind ⟨List.nodup_nil, Nat.le_refl _⟩ fun es e ih => ?_
  rw [heldD_snoc]
  have hl : (es ++ [e]).length = es.length + 1 := by rw [List.length_append]; rfl
  rw [hl]
  split
  · refine ⟨nodup_put ih.1, ?_⟩
    have := putA_len (kvs := heldD es mv z kn) (k := e.day) (v := e.w)
    have := ih.2
    omega
  · exact ⟨ih.1, by have := ih.2; omega⟩
theorem same_put {H H' : Hp} {d : Addr} {o : HO} (n : H d = none) (s : Same H H') : Same H (L2.upd H' d o) := fun b x e => by
  rw [upd_ne (ne_of_none e n)]
  exact s b x e
end LT
set_option Elab.async false
set_option linter.all false
set_option maxRecDepth 100000
set_option maxHeartbeats 1600000
/-! Own layer: o.m(e, .., k = v, ..), defaults among the rest. -/
namespace LT
open PySem PySem.Spec PyProof.Rows L2
end LT
set_option Elab.async false
set_option linter.all false
set_option maxRecDepth 100000
set_option maxHeartbeats 1600000
/-! Own layer: a plan, its book and its list of events, side by side with others. -/
namespace LT
open PySem PySem.Spec PyProof.Rows L2 NdefX
structure Cl where
  P : Addr
  E : Addr
  b : Addr
  la : Addr
  D : PlanD
  kn : Int
  es : List Evt
  fp : List Addr
def Cl.m (c : Cl) : List Addr := c.P :: c.E :: c.fp
/-- what the plan holds as told last, if anything -/
def LastOK (H : Hp) (la : Addr) (rk : List (Str × Int)) : Prop := ∃ o, LastAt H la o ∧ ∀ e, o = some e → EvOK rk e
theorem LastOK.mono {H H' : Hp} {la : Addr} {rk : List (Str × Int)} (h : LastOK H la rk) (s : Same H H') : LastOK H' la rk := by
  obtain ⟨o, a, b⟩ := h
  exact ⟨o, a.mono s, b⟩
structure ClAt (CB CH : Addr) (H Hi : Hp) (c : Cl) : Prop where
  hP : H c.P = some (.dK (planK c.D c.kn c.la))
  hI : PlanI Hi c.D
  hG : PlanG c.D
  k0 : 0 ≤ c.kn
  la : LastOK Hi c.la c.D.rk
  ev : EvsAt H Hi c.E c.es
  bk : Bk CB CH H c.b c.D.rk c.es c.fp
  kl : ∀ e ∈ c.es, e.kn ≤ c.kn
  nPE : c.P ≠ c.E
  nPf : c.P ∉ c.fp
  nEf : c.E ∉ c.fp
theorem ClAt.frame {CB CH : Addr} {H H' Hi Hi' : Hp} {c : Cl} {S : List Addr} (h : ClAt CB CH H Hi c) (s : SameL S H H') (si : Same Hi Hi') (n : ∀ a ∈ c.m, a ∉ S) : ClAt CB CH H' Hi' c := by
  obtain ⟨ts, e1, e2⟩ := h.ev
  exact ⟨s _ _ (n _ List.mem_cons_self) h.hP, h.hI.mono si, h.hG, h.k0, h.la.mono si,
    ⟨ts, s _ _ (n _ (List.mem_cons_of_mem _ List.mem_cons_self)) e1, paired_imp (fun _ _ h => si _ _ h) e2⟩,
    h.bk.monoL s fun c hc => n c (List.mem_cons_of_mem _ (List.mem_cons_of_mem _ hc)), h.kl, h.nPE, h.nPf, h.nEf⟩
theorem ClAt.ex {CB CH : Addr} {H Hi : Hp} {c : Cl} (h : ClAt CB CH H Hi c) : ∀ a ∈ c.m, ∃ o, H a = some o := by
  intro a ha
  rcases List.mem_cons.mp ha with rfl | ha
  · exact ⟨_, h.hP⟩
  rcases List.mem_cons.mp ha with rfl | ha
  · obtain ⟨ts, e1, _⟩ := h.ev
    exact ⟨_, e1⟩
  · exact h.bk.ex a ha
theorem ClAt.evok {CB CH : Addr} {H Hi : Hp} {c : Cl} (h : ClAt CB CH H Hi c) : Rk c.D.rk ∧ Rising c.es ∧ ∀ e ∈ c.es, EvOK c.D.rk e := h.bk.ev
/-- an event made, put to the list and told to the book -/
theorem told_step {CB CH : Addr} {H H1 H3 : Hp} {c : Cl} {M M' fp' : List Addr} {p T la' : Addr} {e : Evt} {ts : List Addr} (A : ClAt CB CH H (Ho M H) c) (hM : ∀ a ∈ M, ∃ o, H a = some o) (pM : p ∈ M) (cm : ∀ a ∈ c.m, a ∈ M) (pn : p ∉ c.m)
    (s1 : SameL [p, c.P] H H1) (hT : EvT (new H H1) T e) (hla : LastOK (new H H1) la' c.D.rk ∨ la' = c.la) (hP1 : H1 c.P = some (.dK (planK c.D e.kn la'))) (hp1 : ∃ o, H1 p = some o) (kle : c.kn ≤ e.kn)
    (eE : H c.E = some (.lst (ts.map V.ref))) (hts : Paired (EvT (Ho M H)) ts c.es)
    (bk3 : Bk CB CH H3 c.b c.D.rk (c.es ++ [e]) fp') (fr : ∀ a ∈ fp', a ∈ c.fp ∨ L2.upd H1 c.E (.lst ((ts ++ [T]).map V.ref)) a = none) (s3 : SameL c.fp (L2.upd H1 c.E (.lst ((ts ++ [T]).map V.ref))) H3)
    (hM' : ∀ a ∈ M', a ∈ M ∨ a ∈ fp') :
    ClAt CB CH H3 (Ho M' H3) { c with kn := e.kn, la := la', es := c.es ++ [e], fp := fp' } ∧ SameL (p :: c.m) H H3 ∧ Same (Ho M H) (Ho M' H3) ∧ (∀ a ∈ fp', a ∈ c.fp ∨ H a = none) := by
  have exm := A.ex
  have mP : c.P ∈ c.m := List.mem_cons_self
  have mE : c.E ∈ c.m := List.mem_cons_of_mem _ List.mem_cons_self
  have mf : ∀ a ∈ c.fp, a ∈ c.m := fun a ha => List.mem_cons_of_mem _ (List.mem_cons_of_mem _ ha)
  have fr0 : ∀ a ∈ fp', a ∈ c.fp ∨ H a = none := by
    intro a ha
    rcases fr a ha with h | h
    · exact .inl h
    · refine .inr ?_
      have nE : a ≠ c.E := fun z => by
        rw [z, upd_same] at h
        cases h
      rw [upd_ne nE] at h
      refine s1.free h fun hm => ?_
      rcases List.mem_cons.mp hm with e1 | hm
      · obtain ⟨o, ho⟩ := hp1
        rw [e1, ho] at h
        cases h
      · rw [List.mem_singleton.mp hm, hP1] at h
        cases h
  have s02 : SameL (p :: c.m) H (L2.upd H1 c.E (.lst ((ts ++ [T]).map V.ref))) := SameL.upd (List.mem_cons_of_mem _ mE) (s1.mono fun a ha => by
    rcases List.mem_cons.mp ha with e1 | ha
    · rw [e1]
      exact List.mem_cons_self
    · rw [List.mem_singleton.mp ha]
      exact List.mem_cons_of_mem _ mP)
  have s03 : SameL (p :: c.m) H H3 := s02.trans (s3.mono fun a ha => List.mem_cons_of_mem _ (mf a ha))
  have sHo : Same (Ho M H) (Ho M' H3) := ho_step s03 (fun a ha => by
    rcases List.mem_cons.mp ha with e1 | ha
    · rw [e1]
      exact pM
    · exact cm a ha) fun a ha => by
      rcases hM' a ha with h | h
      · exact .inl h
      · rcases fr0 a h with h | h
        · exact .inl (cm a (mf a h))
        · exact .inr h
  have sN : Same (new H H1) (Ho M' H3) := by
    intro a o ha
    obtain ⟨h0, h1⟩ := new_iff.mp ha
    have nall : ∀ x ∈ M, a ≠ x := fun x hx z => by
      obtain ⟨o', ho⟩ := hM x hx
      rw [← z, h0] at ho
      cases ho
    have nE : a ≠ c.E := nall _ (cm _ mE)
    have h2 : L2.upd H1 c.E (.lst ((ts ++ [T]).map V.ref)) a = some o := by rw [upd_ne nE]; exact h1
    refine ho_in (fun hm => ?_) (s3 a o (fun hf => nall a (cm a (mf a hf)) rfl) h2)
    rcases hM' a hm with h | h
    · exact nall a h rfl
    · rcases fr a h with h | h
      · exact nall a (cm a (mf a h)) rfl
      · rw [h2] at h
        cases h
  have nPf' : c.P ∉ fp' := fun h => by
    rcases fr0 _ h with h | h
    · exact A.nPf h
    · rw [A.hP] at h
      cases h
  have nEf' : c.E ∉ fp' := fun h => by
    rcases fr0 _ h with h | h
    · exact A.nEf h
    · rw [eE] at h
      cases h
  refine ⟨⟨?_, A.hI.mono sHo, A.hG, Int.le_trans A.k0 kle, ?_, ?_, bk3, ?_, A.nPE, nPf', nEf'⟩, s03, sHo, fr0⟩
  · exact s3 _ _ A.nPf (by rw [upd_ne A.nPE]; exact hP1)
  · show LastOK (Ho M' H3) la' c.D.rk
    rcases hla with h | h
    · exact h.mono sN
    · rw [h]
      exact A.la.mono sHo
  · refine ⟨ts ++ [T], s3 _ _ A.nEf upd_same, paired_snoc' (paired_imp (fun _ _ h => sHo _ _ h) hts) (sN _ _ hT)⟩
  · intro x hx
    rcases List.mem_append.mp hx with hx | hx
    · exact Int.le_trans (A.kl x hx) kle
    · rw [List.mem_singleton.mp hx]
      exact Int.le_refl _
/-- two such, and a pot -/
structure Two (CB CH : Addr) (H : Hp) (p : Addr) (c d : Cl) : Prop where
  pot : Pot H p
  c1 : ClAt CB CH H (Ho (p :: (c.m ++ d.m)) H) c
  d1 : ClAt CB CH H (Ho (p :: (c.m ++ d.m)) H) d
  pc : p ∉ c.m
  pd : p ∉ d.m
  cd : ∀ a ∈ c.m, a ∉ d.m
theorem ho_perm {M M' : List Addr} {H : Hp} (h : ∀ a, a ∈ M' → a ∈ M) : Same (Ho M H) (Ho M' H) := fun a o e => by
  obtain ⟨h1, h2⟩ := ho_iff.mp e
  exact ho_in (fun z => h1 (h a z)) h2
theorem mem_two {p a : Addr} {x y : List Addr} : a ∈ p :: (x ++ y) ↔ a = p ∨ a ∈ x ∨ a ∈ y := by rw [List.mem_cons, List.mem_append]
theorem Two.ex {CB CH : Addr} {H : Hp} {p : Addr} {c d : Cl} (h : Two CB CH H p c d) : ∀ a ∈ p :: (c.m ++ d.m), ∃ o, H a = some o := by
  intro a ha
  rcases mem_two.mp ha with rfl | ha | ha
  · obtain ⟨x, y, e, _⟩ := h.pot
    exact ⟨_, e⟩
  · exact h.c1.ex a ha
  · exact h.d1.ex a ha
/-- what only looks, and draws -/
theorem Two.look {CB CH : Addr} {H H' : Hp} {p : Addr} {c d : Cl} (h : Two CB CH H p c d) (hp : Pot H' p) (s : SameB p H H') : Two CB CH H' p c d := by
  have sl : SameL [p] H H' := SameL.ofB List.mem_cons_self s
  have si : Same (Ho (p :: (c.m ++ d.m)) H) (Ho (p :: (c.m ++ d.m)) H') := ho_step sl (fun a ha => by rw [List.mem_singleton.mp ha]; exact List.mem_cons_self) fun a ha => .inl ha
  exact ⟨hp, h.c1.frame sl si fun a ha hm => h.pc (by rw [← List.mem_singleton.mp hm]; exact ha), h.d1.frame sl si fun a ha hm => h.pd (by rw [← List.mem_singleton.mp hm]; exact ha), h.pc, h.pd, h.cd⟩
theorem Two.mono {CB CH : Addr} {H H' : Hp} {p : Addr} {c d : Cl} (h : Two CB CH H p c d) (s : Same H H') : Two CB CH H' p c d := h.look (h.pot.mono s) (SameB.of s)
/-- an event made of the first one's plan, put to its list and told to its book -/
theorem Two.told {CB CH : Addr} {H H1 H3 : Hp} {c d : Cl} {fp' : List Addr} {p T la' : Addr} {e : Evt} {ts : List Addr} (W : Two CB CH H p c d)
    (s1 : SameL [p, c.P] H H1) (hT : EvT (new H H1) T e) (hla : LastOK (new H H1) la' c.D.rk ∨ la' = c.la) (hP1 : H1 c.P = some (.dK (planK c.D e.kn la'))) (hp1 : Pot H1 p) (kle : c.kn ≤ e.kn)
    (eE : H c.E = some (.lst (ts.map V.ref))) (hts : Paired (EvT (Ho (p :: (c.m ++ d.m)) H)) ts c.es)
    (bk3 : Bk CB CH H3 c.b c.D.rk (c.es ++ [e]) fp') (fr : ∀ a ∈ fp', a ∈ c.fp ∨ L2.upd H1 c.E (.lst ((ts ++ [T]).map V.ref)) a = none) (s3 : SameL c.fp (L2.upd H1 c.E (.lst ((ts ++ [T]).map V.ref))) H3) :
    Two CB CH H3 p { c with kn := e.kn, la := la', es := c.es ++ [e], fp := fp' } d ∧ Same (Ho (p :: (c.m ++ d.m)) H) (Ho (p :: (Cl.m { c with kn := e.kn, la := la', es := c.es ++ [e], fp := fp' } ++ d.m)) H3) ∧ SameL (p :: c.m) H H3 ∧
      ∀ a ∈ Cl.m { c with kn := e.kn, la := la', es := c.es ++ [e], fp := fp' }, a ∈ c.m ∨ H a = none := by
  have mE : c.E ∈ c.m := List.mem_cons_of_mem _ List.mem_cons_self
  have exp : ∃ o, H1 p = some o := by
    obtain ⟨x, y, e, _⟩ := hp1
    exact ⟨_, e⟩
  obtain ⟨a1, a2, a3, a4⟩ := told_step (M' := p :: (Cl.m { c with kn := e.kn, la := la', es := c.es ++ [e], fp := fp' } ++ d.m)) W.c1 W.ex List.mem_cons_self (fun a ha => mem_two.mpr (.inr (.inl ha))) W.pc s1 hT hla hP1 exp kle eE hts bk3 fr s3 (fun a ha => by
    rcases mem_two.mp ha with h | h | h
    · exact .inl (mem_two.mpr (.inl h))
    · rcases List.mem_cons.mp h with h | h
      · exact .inl (mem_two.mpr (.inr (.inl (by rw [h]; exact List.mem_cons_self))))
      rcases List.mem_cons.mp h with h | h
      · exact .inl (mem_two.mpr (.inr (.inl (by rw [h]; exact mE))))
      · exact .inr h
    · exact .inl (mem_two.mpr (.inr (.inr h))))
  have pfp : p ∉ fp' := fun h => by
    rcases a4 p h with h | h
    · exact W.pc (List.mem_cons_of_mem _ (List.mem_cons_of_mem _ h))
    · obtain ⟨x, y, e, _⟩ := W.pot
      rw [e] at h
      cases h
  have dfp : ∀ a ∈ fp', a ∉ d.m := fun a ha hd => by
    rcases a4 a ha with h | h
    · exact W.cd a (List.mem_cons_of_mem _ (List.mem_cons_of_mem _ h)) hd
    · obtain ⟨o, ho⟩ := W.d1.ex a hd
      rw [h] at ho
      cases ho
  have hp3 : Pot H3 p := by
    obtain ⟨x, y, e1, e2⟩ := hp1
    refine ⟨x, y, s3 _ _ (fun h => W.pc (List.mem_cons_of_mem _ (List.mem_cons_of_mem _ h))) ?_, e2⟩
    rw [upd_ne (fun z : p = c.E => W.pc (by rw [z]; exact mE))]
    exact e1
  refine ⟨⟨hp3, a1, W.d1.frame a2 a3 fun a ha hm => ?_, ?_, W.pd, ?_⟩, a3, a2, fun a ha => ?_⟩
  · rcases List.mem_cons.mp hm with h | h
    · exact W.pd (by rw [← h]; exact ha)
    · exact W.cd a h ha
  · intro h
    rcases List.mem_cons.mp h with h | h
    · exact W.pc (by rw [h]; exact List.mem_cons_self)
    rcases List.mem_cons.mp h with h | h
    · exact W.pc (by rw [h]; exact mE)
    · exact pfp h
  · intro a ha
    rcases List.mem_cons.mp ha with h | h
    · rw [h]
      exact W.cd _ List.mem_cons_self
    rcases List.mem_cons.mp h with h | h
    · rw [h]
      exact W.cd _ mE
    · exact dfp a h
  · rcases List.mem_cons.mp ha with h | h
    · exact .inl (by rw [h]; exact List.mem_cons_self)
    rcases List.mem_cons.mp h with h | h
    · exact .inl (by rw [h]; exact mE)
    · exact (a4 a h).imp (fun h => List.mem_cons_of_mem _ (List.mem_cons_of_mem _ h)) id
/-! ### what is asked of it -/
/-- the law's search, under way -/
def WhInv (t : List (Int × V)) (d : Int) (found : V) (since : Int) : Prop :=
  (∀ p ∈ t, p.2 ≠ .non → p.1 ≤ d → p.1 ≤ since) ∧ ((since = -1 ∧ found = .str (Str.ofString "")) ∨ ((since, found) ∈ t ∧ found ≠ .non ∧ since ≤ d))
theorem WhInv.nil {d : Int} : WhInv [] d (.str (Str.ofString "")) (-1) := ⟨nofun, .inl ⟨rfl, rfl⟩⟩
theorem WhInv.skip {t : List (Int × V)} {d : Int} {found : V} {since : Int} {p : Int × V} (h : WhInv t d found since) (n : p.2 = .non ∨ ¬ (since < p.1 ∧ p.1 ≤ d)) : WhInv (t ++ [p]) d found since := by
  refine ⟨fun q hq h1 h2 => ?_, h.2.imp id fun ⟨a, b⟩ => ⟨List.mem_append_left _ a, b⟩⟩
  rcases List.mem_append.mp hq with hq | hq
  · exact h.1 q hq h1 h2
  · rw [List.mem_singleton.mp hq] at h1 h2 ⊢
    rcases n with n | n
    · exact absurd n h1
    · omega
theorem WhInv.take {t : List (Int × V)} {d : Int} {found : V} {since : Int} {p : Int × V} (h : WhInv t d found since) (n : p.2 ≠ .non) (h1 : since < p.1) (h2 : p.1 ≤ d) : WhInv (t ++ [p]) d p.2 p.1 := by
  refine ⟨fun q hq a b => ?_, .inr ⟨List.mem_append_right _ List.mem_cons_self, n, h2⟩⟩
  rcases List.mem_append.mp hq with hq | hq
  · have := h.1 q hq a b
    omega
  · rw [List.mem_singleton.mp hq]
    exact Int.le_refl _
theorem WhInv.is {es : List Evt} {mv : Bool} {z : Str} {kn : Option Int} {d : Int} {found : V} {since : Int} (h : WhInv (heldD es mv z kn) d found since) (h0 : ∀ e ∈ es, 0 ≤ e.day) : IsWhere (heldE es mv z kn) d found := by
  have nd := (heldD_keys mv z kn es).1
  have key : ∀ o w, (o, w) ∈ heldD es mv z kn → heldE es mv z kn o = w := fun o w hm => by
    have := getA_of_mem nd hm
    rw [heldD_get] at this
    unfold heldE
    rw [this]
    rfl
  have back : ∀ o, heldE es mv z kn o ≠ .non → (o, heldE es mv z kn o) ∈ heldD es mv z kn := fun o ho => by
    unfold heldE at ho ⊢
    cases e : heldO es mv z kn o with
    | none => rw [e] at ho; exact absurd rfl ho
    | some w =>
      rw [← heldD_get] at e
      exact getA_mem e
  rcases h.2 with ⟨rfl, rfl⟩ | ⟨a, b, c⟩
  · refine .inr ⟨fun o ho => Classical.byContradiction fun hn => ?_, rfl⟩
    have h1 := h.1 _ (back o hn) hn ho
    have hm := getA_of_mem nd (back o hn)
    rw [heldD_get] at hm
    obtain ⟨e, he, hp, _⟩ := heldO_mem hm
    have := h0 e he
    have := (heldP_iff.mp hp).2.2
    simp only at h1
    omega
  · exact .inl ⟨since, c, key _ _ a, b, fun o ho hn => h.1 _ (back o hn) hn ho⟩
/-- one such, and a pot -/
structure One (CB CH : Addr) (H : Hp) (p : Addr) (c : Cl) : Prop where
  pot : Pot H p
  c1 : ClAt CB CH H (Ho (p :: c.m) H) c
  pc : p ∉ c.m
theorem Two.one {CB CH : Addr} {H : Hp} {p : Addr} {c d : Cl} (h : Two CB CH H p c d) : One CB CH H p c :=
  ⟨h.pot, h.c1.frame (S := []) (.of (Same.refl _)) (ho_perm fun a ha => mem_two.mpr ((List.mem_cons.mp ha).imp id .inl)) (fun _ _ => nofun), h.pc⟩
theorem One.look {CB CH : Addr} {H H' : Hp} {p : Addr} {c : Cl} (h : One CB CH H p c) (hp : Pot H' p) (s : SameB p H H') : One CB CH H' p c := by
  have sl : SameL [p] H H' := SameL.ofB List.mem_cons_self s
  have si : Same (Ho (p :: c.m) H) (Ho (p :: c.m) H') := ho_step sl (fun a ha => by rw [List.mem_singleton.mp ha]; exact List.mem_cons_self) fun a ha => .inl ha
  exact ⟨hp, h.c1.frame sl si fun a ha hm => h.pc (by rw [← List.mem_singleton.mp hm]; exact ha), h.pc⟩
theorem One.mono {CB CH : Addr} {H H' : Hp} {p : Addr} {c : Cl} (h : One CB CH H p c) (s : Same H H') : One CB CH H' p c := h.look (h.pot.mono s) (SameB.of s)
theorem One.ex {CB CH : Addr} {H : Hp} {p : Addr} {c : Cl} (h : One CB CH H p c) : ∀ a ∈ p :: c.m, ∃ o, H a = some o := by
  intro a ha
  rcases List.mem_cons.mp ha with rfl | ha
  · obtain ⟨x, y, e, _⟩ := h.pot
    exact ⟨_, e⟩
  · exact h.c1.ex a ha
theorem One.told {CB CH : Addr} {H H1 H3 : Hp} {c : Cl} {fp' : List Addr} {p T la' : Addr} {e : Evt} {ts : List Addr} (W : One CB CH H p c)
    (s1 : SameL [p, c.P] H H1) (hT : EvT (new H H1) T e) (hla : LastOK (new H H1) la' c.D.rk ∨ la' = c.la) (hP1 : H1 c.P = some (.dK (planK c.D e.kn la'))) (hp1 : Pot H1 p) (kle : c.kn ≤ e.kn)
    (eE : H c.E = some (.lst (ts.map V.ref))) (hts : Paired (EvT (Ho (p :: c.m) H)) ts c.es)
    (bk3 : Bk CB CH H3 c.b c.D.rk (c.es ++ [e]) fp') (fr : ∀ a ∈ fp', a ∈ c.fp ∨ L2.upd H1 c.E (.lst ((ts ++ [T]).map V.ref)) a = none) (s3 : SameL c.fp (L2.upd H1 c.E (.lst ((ts ++ [T]).map V.ref))) H3) :
    One CB CH H3 p { c with kn := e.kn, la := la', es := c.es ++ [e], fp := fp' } ∧ Same (Ho (p :: c.m) H) (Ho (p :: Cl.m { c with kn := e.kn, la := la', es := c.es ++ [e], fp := fp' }) H3) ∧ SameL (p :: c.m) H H3 ∧
      ∀ a ∈ Cl.m { c with kn := e.kn, la := la', es := c.es ++ [e], fp := fp' }, a ∈ c.m ∨ H a = none := by
  have mE : c.E ∈ c.m := List.mem_cons_of_mem _ List.mem_cons_self
  have exp : ∃ o, H1 p = some o := by
    obtain ⟨x, y, e, _⟩ := hp1
    exact ⟨_, e⟩
  obtain ⟨a1, a2, a3, a4⟩ := told_step (M' := p :: Cl.m { c with kn := e.kn, la := la', es := c.es ++ [e], fp := fp' }) W.c1 W.ex List.mem_cons_self (fun a ha => List.mem_cons_of_mem _ ha) W.pc s1 hT hla hP1 exp kle eE hts bk3 fr s3 (fun a ha => by
    rcases List.mem_cons.mp ha with h | h
    · exact .inl (by rw [h]; exact List.mem_cons_self)
    rcases List.mem_cons.mp h with h | h
    · exact .inl (List.mem_cons_of_mem _ (by rw [h]; exact List.mem_cons_self))
    rcases List.mem_cons.mp h with h | h
    · exact .inl (List.mem_cons_of_mem _ (by rw [h]; exact mE))
    · exact .inr h)
  have pfp : p ∉ fp' := fun h => by
    rcases a4 p h with h | h
    · exact W.pc (List.mem_cons_of_mem _ (List.mem_cons_of_mem _ h))
    · obtain ⟨x, y, e, _⟩ := W.pot
      rw [e] at h
      cases h
  have hp3 : Pot H3 p := by
    obtain ⟨x, y, e1, e2⟩ := hp1
    refine ⟨x, y, s3 _ _ (fun h => W.pc (List.mem_cons_of_mem _ (List.mem_cons_of_mem _ h))) ?_, e2⟩
    rw [upd_ne (fun z : p = c.E => W.pc (by rw [z]; exact mE))]
    exact e1
  refine ⟨⟨hp3, a1, fun h => ?_⟩, a3, a2, fun a ha => ?_⟩
  · rcases List.mem_cons.mp h with h | h
    · exact W.pc (by rw [h]; exact List.mem_cons_self)
    rcases List.mem_cons.mp h with h | h
    · exact W.pc (by rw [h]; exact mE)
    · exact pfp h
  · rcases List.mem_cons.mp ha with h | h
    · exact .inl (by rw [h]; exact List.mem_cons_self)
    rcases List.mem_cons.mp h with h | h
    · exact .inl (by rw [h]; exact mE)
    · exact (a4 a h).imp (fun h => List.mem_cons_of_mem _ (List.mem_cons_of_mem _ h)) id
section
variable {CB CH : Addr} {H : Hp} {p : Addr} {c : Cl}
theorem Bk.ix {b : Addr} {rk : List (Str × Int)} {es : List Evt} {fp : List Addr} (h : Bk CB CH H b rk es fp) : ∃ dx R M L v, H b = some (.ins CB dx [("rank_of", .ref R), ("moves", .ref M), ("landings", .ref L), ("latest_known", v)]) := by
  obtain ⟨B, rfl, rfl, rfl, rfl, bh, _⟩ := h
  exact ⟨_, _, _, _, _, bh.ix⟩
theorem One.hn (h : One CB CH H p c) : H c.D.n = some (.lst (c.D.zs.map V.str)) := ho_le _ _ h.c1.hI.hn
theorem One.hl (h : One CB CH H p c) : H c.D.l = some (.lst (c.D.ls.map V.str)) := ho_le _ _ h.c1.hI.hl
theorem One.hr (h : One CB CH H p c) : H c.D.r = some (.dK (sd c.D.rk)) := ho_le _ _ h.c1.hI.hr
theorem One.days (h : One CB CH H p c) : ∀ e ∈ c.es, 0 ≤ e.day := fun e he => (h.c1.evok.2.2 e he).d0
end
end LT
set_option Elab.async false
set_option linter.all false
set_option maxRecDepth 100000
set_option maxHeartbeats 1600000
/-! Own layer: runs of days, heads, what is left (pure). -/
namespace LT
open PySem PySem.Spec PyProof.Rows L2 NdefX
/-! ### values by day -/
def atL (s : V) (B : List (Int × V)) (d : Int) : V := B.foldl (fun r p => if p.1 ≤ d then p.2 else r) s
theorem atL_snoc (s : V) (B : List (Int × V)) (p : Int × V) (d : Int) : atL s (B ++ [p]) d = if p.1 ≤ d then p.2 else atL s B d := by
  unfold atL
  rw [List.foldl_append]
  rfl
/-- where one is on day n -/
def plN (f : Int → V) : Nat → V
  | 0 => if f 0 = .non then .str (Str.ofString "") else f 0
  | n + 1 => if f ((n : Int) + 1) = .non then plN f n else f ((n : Int) + 1)
theorem plN_is {f : Int → V} (h0 : ∀ d, d < 0 → f d = .non) : ∀ n : Nat, IsWhere f (n : Nat) (plN f n)
  | 0 => by
    unfold plN
    split
    · rename_i h
      refine .inr ⟨fun o ho => ?_, rfl⟩
      by_cases e : o = 0
      · rw [e]
        exact h
      · exact h0 o (by omega)
    · rename_i h
      refine .inl ⟨0, Int.le_refl _, rfl, h, fun o ho _ => ho⟩
  | n + 1 => by
    unfold plN
    split
    · rename_i h
      rcases plN_is h0 n with ⟨on, a, b, c, d⟩ | ⟨a, b⟩
      · refine .inl ⟨on, by omega, b, c, fun o ho hn => ?_⟩
        by_cases e : o = (n : Int) + 1
        · rw [e] at hn
          exact absurd h hn
        · exact d o (by omega) hn
      · refine .inr ⟨fun o ho => ?_, b⟩
        by_cases e : o = (n : Int) + 1
        · rw [e]
          exact h
        · exact a o (by omega)
    · rename_i h
      exact .inl ⟨(n : Int) + 1, by omega, rfl, h, fun o ho _ => by omega⟩
def plI (f : Int → V) (d : Int) : V := plN f d.toNat
theorem plI_is {f : Int → V} (h0 : ∀ d, d < 0 → f d = .non) {d : Int} (hd : 0 ≤ d) : IsWhere f d (plI f d) := by
  have := plN_is h0 d.toNat
  rw [Int.toNat_of_nonneg hd] at this
  exact this
theorem plI_of {f : Int → V} (h0 : ∀ d, d < 0 → f d = .non) {d : Int} (hd : 0 ≤ d) {r : V} (h : IsWhere f d r) : r = plI f d := h.uniq (plI_is h0 hd)
theorem held_neg {es : List Evt} {mv : Bool} {z : Str} {kn : Option Int} (h : ∀ e ∈ es, 0 ≤ e.day) : ∀ d, d < 0 → heldE es mv z kn d = .non := fun d hd => by
  unfold heldE
  cases e : heldO es mv z kn d with
  | none => rfl
  | some w =>
    obtain ⟨e', h1, h2, _⟩ := heldO_mem e
    have := h e' h1
    have := (heldP_iff.mp h2).2.2
    omega
/-- nothing holds between: the same -/
theorem plI_same {f : Int → V} (h0 : ∀ d, d < 0 → f d = .non) {a d : Int} (ha : 0 ≤ a) (hd : a ≤ d) (h : ∀ o, a < o → o ≤ d → f o = .non) : plI f d = plI f a := by
  refine (plI_of h0 (by omega) ?_).symm
  rcases plI_is h0 ha with ⟨on, q1, q2, q3, q4⟩ | ⟨q1, q2⟩
  · refine .inl ⟨on, by omega, q2, q3, fun o ho hn => ?_⟩
    by_cases hoa : o ≤ a
    · exact q4 o hoa hn
    · exact absurd (h o (by omega) ho) hn
  · refine .inr ⟨fun o ho => ?_, q2⟩
    by_cases hoa : o ≤ a
    · exact q1 o hoa
    · exact h o (by omega) ho
/-! ### covers of all days -/
section
variable {β : Type}
def Cov (fi : β → Int) (la : β → Option Int) (K : β → Int → Prop) : Int → List β → Prop
  | _, [] => False
  | f, [b] => fi b = f ∧ la b = none ∧ ∀ d, f ≤ d → K b d
  | f, b :: c :: r => fi b = f ∧ (∃ e, la b = some e ∧ f ≤ e ∧ (∀ d, f ≤ d → d ≤ e → K b d) ∧ Cov fi la K (e + 1) (c :: r))
def CovT (fi : β → Int) (la : β → Option Int) (K : β → Int → Prop) : Int → List β → Int → Prop
  | f, [], x => f = x
  | f, b :: r, x => fi b = f ∧ ∃ e, la b = some e ∧ f ≤ e ∧ (∀ d, f ≤ d → d ≤ e → K b d) ∧ CovT fi la K (e + 1) r x
variable {fi : β → Int} {la : β → Option Int} {K : β → Int → Prop}
def HasD2 (fi : β → Int) (la : β → Option Int) (b : β) (d : Int) : Prop := fi b ≤ d ∧ ∀ e, la b = some e → d ≤ e
theorem CovT.snoc {b : β} {e : Int} : ∀ {S : List β} {f x : Int}, CovT fi la K f S x → fi b = x → la b = some e → x ≤ e → (∀ d, x ≤ d → d ≤ e → K b d) → CovT fi la K f (S ++ [b]) (e + 1)
  | [], f, x, h, h1, h2, h3, h4 => by
    have h : f = x := h
    subst h
    exact ⟨h1, e, h2, h3, h4, rfl⟩
  | c :: r, f, x, ⟨a1, e', a2, a3, a4, a5⟩, h1, h2, h3, h4 => ⟨a1, e', a2, a3, a4, CovT.snoc a5 h1 h2 h3 h4⟩
theorem CovT.last {b : β} : ∀ {S : List β} {f x : Int}, CovT fi la K f S x → fi b = x → la b = none → (∀ d, x ≤ d → K b d) → Cov fi la K f (S ++ [b])
  | [], f, x, h, h1, h2, h4 => by
    have h : f = x := h
    subst h
    exact ⟨h1, h2, h4⟩
  | [c], f, x, ⟨a1, e', a2, a3, a4, a5⟩, h1, h2, h4 => ⟨a1, e', a2, a3, a4, CovT.last (S := []) a5 h1 h2 h4⟩
  | c :: c' :: r, f, x, ⟨a1, e', a2, a3, a4, a5⟩, h1, h2, h4 => ⟨a1, e', a2, a3, a4, CovT.last (S := c' :: r) a5 h1 h2 h4⟩
theorem Cov.imp {K' : β → Int → Prop} (hk : ∀ b d, K b d → K' b d) : ∀ {S : List β} {f : Int}, Cov fi la K f S → Cov fi la K' f S
  | [], _, h => h
  | [b], f, ⟨a1, a2, a3⟩ => ⟨a1, a2, fun d h => hk b d (a3 d h)⟩
  | b :: c :: r, f, ⟨a1, e, a2, a3, a4, a5⟩ => ⟨a1, e, a2, a3, fun d h1 h2 => hk b d (a4 d h1 h2), Cov.imp (S := c :: r) hk a5⟩
/-- the one that has a day -/
theorem Cov.one : ∀ {S : List β} {f : Int}, Cov fi la K f S → ∀ d, f ≤ d → ∃ (i : Nat) (b : β), S[i]? = some b ∧ HasD2 fi la b d ∧ K b d ∧ ∀ j c, S[j]? = some c → HasD2 fi la c d → j = i
  | [], _, h, _, _ => h.elim
  | [b], f, ⟨a1, a2, a3⟩, d, hd => ⟨0, b, rfl, ⟨by omega, fun e he => by rw [a2] at he; cases he⟩, a3 d hd, fun j c hj _ => by
    have := (List.getElem?_eq_some_iff.mp hj).1
    simp at this
    exact this⟩
  | b :: c :: r, f, ⟨a1, e, a2, a3, a4, a5⟩, d, hd => by
    have low : ∀ {S : List β} {f : Int}, Cov fi la K f S → ∀ x ∈ S, f ≤ fi x := by
      intro S
      induction S with
      | nil => exact fun h => h.elim
      | cons y ys ih =>
        intro f h x hx
        cases ys with
        | nil =>
          obtain ⟨h1, _⟩ := h
          rw [List.mem_singleton.mp hx]
          omega
        | cons z zs =>
          obtain ⟨h1, e, _, h3, _, h5⟩ := h
          rcases List.mem_cons.mp hx with rfl | hx
          · omega
          · have := ih h5 x hx
            omega
    by_cases hde : d ≤ e
    · refine ⟨0, b, rfl, ⟨by omega, fun e' he => by rw [a2] at he; cases he; exact hde⟩, a4 d hd hde, fun j x hj hx => ?_⟩
      cases j with
      | zero => rfl
      | succ j =>
        have := low a5 x (List.mem_of_getElem? hj)
        have := hx.1
        omega
    · obtain ⟨i, x, h1, h2, h3, h4⟩ := Cov.one (S := c :: r) a5 d (by omega)
      refine ⟨i + 1, x, h1, h2, h3, fun j y hj hy => ?_⟩
      cases j with
      | zero =>
        cases hj
        have := hy.2 e a2
        omega
      | succ j => exact congrArg Nat.succ (h4 j y hj hy)
end
/-! ### runs -/
abbrev Run := V × Int × Option Int
def rFi (r : Run) : Int := r.2.1
def rLa (r : Run) : Option Int := r.2.2
/-! ### sums by day -/
def sumLe (t : List (Int × Int)) (d : Int) : Int := ((t.filter fun p => decide (p.1 ≤ d)).map (·.2)).sum
theorem sumLe_nil (d : Int) : sumLe [] d = 0 := rfl
theorem sumLe_cons (p : Int × Int) (t : List (Int × Int)) (d : Int) : sumLe (p :: t) d = (if p.1 ≤ d then p.2 else 0) + sumLe t d := by
  unfold sumLe
  rw [List.filter_cons]
  by_cases h : p.1 ≤ d
  · rw [if_pos (decide_eq_true h), List.map_cons, List.sum_cons, if_pos h]
  · rw [if_neg (by rw [decide_eq_false h]; nofun), if_neg h, Int.zero_add]
theorem sumLe_app (a b : List (Int × Int)) (d : Int) : sumLe (a ++ b) d = sumLe a d + sumLe b d := by
  unfold sumLe
  rw [List.filter_append, List.map_append, List.sum_append]
theorem sumLe_set {k x δ d : Int} : ∀ {t : List (Int × Int)}, (t.map (·.1)).Nodup → getA t k = some x → sumLe (t.map fun p => if p.1 = k then (p.1, x + δ) else p) d = sumLe t d + if k ≤ d then δ else 0
  | [], _, h => nomatch h
  | p :: r, nd, hg => by
    have nd' := List.nodup_cons.mp nd
    rw [List.map_cons, sumLe_cons, sumLe_cons]
    by_cases e : p.1 = k
    · rw [getA_pos e] at hg
      have hx : p.2 = x := Option.some.inj hg
      have em : r.map (fun p => if p.1 = k then (p.1, x + δ) else p) = r := by
        have : ∀ q ∈ r, (if q.1 = k then (q.1, x + δ) else q) = q := fun q hq => if_neg fun z => nd'.1 (List.mem_map.mpr ⟨q, hq, z.trans e.symm⟩)
        exact (List.map_congr_left this).trans (List.map_id _)
      rw [em, if_pos e, hx, e]
      show (if k ≤ d then x + δ else 0) + _ = _
      split <;> omega
    · rw [getA_neg e] at hg
      rw [if_neg e, sumLe_set nd'.2 hg]
      omega
/-- one entry more by so much -/
theorem sumLe_put {k δ d : Int} {t : List (Int × Int)} (nd : (t.map (·.1)).Nodup) : sumLe (putA t k ((getA t k).getD 0 + δ)) d = sumLe t d + if k ≤ d then δ else 0 := by
  cases hg : getA t k with
  | none =>
    rw [putA_new hg, sumLe_app, sumLe_cons, sumLe_nil]
    show sumLe t d + ((if k ≤ d then 0 + δ else 0) + 0) = _
    rw [Int.add_zero, Int.zero_add]
  | some x =>
    rw [putA_old hg]
    exact sumLe_set nd hg
/-- the sum over the first so many days -/
def sumN (g : Nat → Int) : Nat → Int
  | 0 => 0
  | n + 1 => sumN g n + g n
theorem sumN_congr {g h : Nat → Int} : ∀ {n : Nat}, (∀ i, i < n → g i = h i) → sumN g n = sumN h n
  | 0, _ => rfl
  | n + 1, e => by
    show sumN g n + g n = sumN h n + h n
    rw [sumN_congr fun i hi => e i (by omega), e n (by omega)]
/-- so many days on which it is the same -/
theorem sumN_const {g : Nat → Int} {m : Int} {a : Nat} : ∀ {k : Nat}, (∀ i, a ≤ i → i < a + k → g i = m) → sumN g (a + k) = sumN g a + m * k
  | 0, _ => by
    show sumN g a = _
    rw [show ((0 : Nat) : Int) = 0 from rfl, Int.mul_zero, Int.add_zero]
  | k + 1, h => by
    show sumN g (a + k) + g (a + k) = _
    rw [sumN_const fun i h1 h2 => h i h1 (by omega), h (a + k) (by omega) (by omega), Int.add_assoc]
    congr 1
    rw [show ((k + 1 : Nat) : Int) = (k : Int) + 1 by omega, Int.mul_add, Int.mul_one]
/-! ### what is left -/
/-- at the end of day d, by what comes and goes on each day -/
def leftI (net : Nat → Int) (d : Int) : Int := sumN net (d + 1).toNat
theorem left_run {net : Nat → Int} {land eat : Nat → Int} (hn : ∀ i, net i = land i - eat i) {a d m : Int} (h0 : 0 ≤ a) (hd : a ≤ d) (hm : ∀ i : Nat, a ≤ i → (i : Int) ≤ d → eat i = m) (hl : ∀ i : Nat, a < i → (i : Int) ≤ d → land i = 0) :
    leftI net d = leftI net (a - 1) + land a.toNat - m * (d - a + 1) := by
  obtain ⟨n, rfl⟩ : ∃ n : Nat, a = (n : Int) := ⟨a.toNat, by omega⟩
  obtain ⟨k, rfl⟩ : ∃ k : Nat, d = (n : Int) + k := ⟨(d - n).toNat, by omega⟩
  unfold leftI
  have e1 : ((n : Int) + k + 1).toNat = n + 1 + k := by omega
  have e2 : ((n : Int) - 1 + 1).toNat = n := by omega
  have e3 : ((n : Int)).toNat = n := by omega
  rw [e1, e2, e3]
  rw [sumN_const (m := -m) fun i h1 h2 => by
    rw [hn i, hm i (by omega) (by omega), hl i (by omega) (by omega)]
    omega]
  show sumN net n + net n + -m * k = _
  rw [hn n, hm n (by omega) (by omega)]
  have : m * ((n : Int) + k - n + 1) = m * k + m := by
    rw [show (n : Int) + k - n + 1 = k + 1 by omega, Int.mul_add, Int.mul_one]
  rw [this, Int.neg_mul]
  omega
end LT
set_option Elab.async false
set_option linter.all false
set_option maxRecDepth 100000
set_option maxHeartbeats 1600000
/-! Own layer: turns, heads, parts, supplies, what is left (pure). -/
namespace LT
open PySem PySem.Spec PyProof.Rows L2 NdefX
/-! ### covers, to a last day or for ever -/
section
variable {β : Type} {fi : β → Int} {la : β → Option Int} {K : β → Int → Prop}
def CovX (fi : β → Int) (la : β → Option Int) (K : β → Int → Prop) (f : Int) (S : List β) : Option Int → Prop
  | none => Cov fi la K f S
  | some e => CovT fi la K f S (e + 1)
def NextB (fi : β → Int) (la : β → Option Int) (S : List β) (x : Option Int) (i : Nat) (b : β) : Prop :=
  (i + 1 = S.length ∧ la b = x ∧ ∀ e, x = some e → fi b ≤ e) ∨ ∃ e c, la b = some e ∧ fi b ≤ e ∧ S[i + 1]? = some c ∧ fi c = e + 1
theorem Cov.get : ∀ {S : List β} {f : Int}, Cov fi la K f S → ∀ i b, S[i]? = some b → f ≤ fi b ∧ (i = 0 → fi b = f) ∧ (∀ d, HasD2 fi la b d → K b d) ∧ NextB fi la S none i b
  | [], _, h, _, _, _ => h.elim
  | [x], f, ⟨a1, a2, a3⟩, i, b, hb => by
    cases i with
    | zero =>
      cases hb
      exact ⟨by omega, fun _ => a1, fun d hd => a3 d (by have := hd.1; omega), .inl ⟨rfl, a2, nofun⟩⟩
    | succ i => simp at hb
  | x :: y :: r, f, ⟨a1, e, a2, a3, a4, a5⟩, i, b, hb => by
    cases i with
    | zero =>
      cases hb
      obtain ⟨c1, c2, _⟩ := Cov.get (S := y :: r) a5 0 y rfl
      exact ⟨by omega, fun _ => a1, fun d hd => a4 d (by have := hd.1; omega) (hd.2 e a2), .inr ⟨e, y, a2, by omega, rfl, c2 rfl⟩⟩
    | succ i =>
      obtain ⟨c1, _, c3, c4⟩ := Cov.get (S := y :: r) a5 i b hb
      refine ⟨by omega, nofun, c3, ?_⟩
      rcases c4 with ⟨q1, q2⟩ | ⟨e', c, q1, q2, q3, q4⟩
      · exact .inl ⟨by rw [List.length_cons, ← q1], q2⟩
      · exact .inr ⟨e', c, q1, q2, q3, q4⟩
theorem CovT.get : ∀ {S : List β} {f z : Int}, CovT fi la K f S (z + 1) → ∀ i b, S[i]? = some b → f ≤ fi b ∧ (i = 0 → fi b = f) ∧ (∀ d, HasD2 fi la b d → K b d) ∧ NextB fi la S (some z) i b
  | [], _, _, h, _, _, hb => by simp at hb
  | [x], f, z, ⟨a1, e, a2, a3, a4, a5⟩, i, b, hb => by
    cases i with
    | zero =>
      cases hb
      have a5 : e + 1 = z + 1 := a5
      have ez : e = z := by omega
      subst ez
      exact ⟨by omega, fun _ => a1, fun d hd => a4 d (by have := hd.1; omega) (hd.2 e a2), .inl ⟨rfl, a2, fun e' h => by cases h; omega⟩⟩
    | succ i => simp at hb
  | x :: y :: r, f, z, ⟨a1, e, a2, a3, a4, a5⟩, i, b, hb => by
    cases i with
    | zero =>
      cases hb
      obtain ⟨c1, c2, _⟩ := CovT.get (S := y :: r) a5 0 y rfl
      exact ⟨by omega, fun _ => a1, fun d hd => a4 d (by have := hd.1; omega) (hd.2 e a2), .inr ⟨e, y, a2, by omega, rfl, c2 rfl⟩⟩
    | succ i =>
      obtain ⟨c1, _, c3, c4⟩ := CovT.get (S := y :: r) a5 i b hb
      refine ⟨by omega, nofun, c3, ?_⟩
      rcases c4 with ⟨q1, q2⟩ | ⟨e', c, q1, q2, q3, q4⟩
      · exact .inl ⟨by rw [List.length_cons, ← q1], q2⟩
      · exact .inr ⟨e', c, q1, q2, q3, q4⟩
theorem CovX.get {S : List β} {f : Int} {x : Option Int} (h : CovX fi la K f S x) (i : Nat) (b : β) (hb : S[i]? = some b) : f ≤ fi b ∧ (i = 0 → fi b = f) ∧ (∀ d, HasD2 fi la b d → K b d) ∧ NextB fi la S x i b := by
  cases x with
  | none => exact Cov.get h i b hb
  | some z => exact CovT.get h i b hb
theorem Cov.hd {S : List β} {f : Int} (h : Cov fi la K f S) : ∃ b, S[0]? = some b ∧ fi b = f := by
  match S, h with
  | [b], h => exact ⟨b, rfl, h.1⟩
  | b :: c :: r, h => exact ⟨b, rfl, h.1⟩
theorem CovX.hd {S : List β} {f : Int} {x : Option Int} (h : CovX fi la K f S x) (hx : ∀ e, x = some e → f ≤ e) : ∃ b, S[0]? = some b ∧ fi b = f := by
  cases x with
  | none => exact Cov.hd h
  | some z =>
    match S, h with
    | [], h =>
      have h : f = z + 1 := h
      have := hx z rfl
      omega
    | b :: r, h => exact ⟨b, rfl, h.1⟩
theorem Cov.le {S : List β} {f : Int} (h : Cov fi la K f S) : ∀ b ∈ S, f ≤ fi b ∧ ∀ e, la b = some e → fi b ≤ e := fun b hb => by
  obtain ⟨i, hi⟩ := List.getElem?_of_mem hb
  obtain ⟨h1, _, _, h2⟩ := h.get i b hi
  refine ⟨h1, fun e he => ?_⟩
  rcases h2 with ⟨_, q, _⟩ | ⟨e', c, q1, q2, _⟩
  · rw [he] at q
    cases q
  · rw [he] at q1
    cases q1
    exact q2
/-- the same with a last day -/
def FrX {γ : Type} (fi : β → Int) (fi' : γ → Int) (la' : γ → Option Int) (K' : γ → Int → Prop) (S : List β) (x : Option Int) (i : Nat) (T : List γ) (left : Int → Prop) : Prop :=
  (∃ b, S[i]? = some b ∧ CovT fi' la' K' 0 T (fi b) ∧ left (fi b)) ∨ (i = S.length ∧ match x with
    | none => Cov fi' la' K' 0 T
    | some e => CovT fi' la' K' 0 T (e + 1) ∧ left (e + 1))
/-- one more -/
theorem FrX.step {γ : Type} {fi' : γ → Int} {la' : γ → Option Int} {K' : γ → Int → Prop} {S : List β} {x : Option Int} {i : Nat} {T : List γ} {left left' : Int → Prop} {b : β} {c : γ} {f : Int} (h : CovX fi la K f S x) (hb : S[i]? = some b)
    (fr : FrX fi fi' la' K' S x i T left) (e1 : fi' c = fi b) (e2 : la' c = la b) (hk : ∀ d, HasD2 fi la b d → K' c d) (hl : ∀ e, la b = some e → left' (e + 1)) : FrX fi fi' la' K' S x (i + 1) (T ++ [c]) left' := by
  rcases fr with ⟨b', h1, h2, h3⟩ | ⟨h1, _⟩
  · rw [hb] at h1
    cases h1
    obtain ⟨q1, q2, q3, q4⟩ := h.get i b hb
    rcases q4 with ⟨n1, n2, n3⟩ | ⟨e, y, n1, n2, n3, n4⟩
    · refine .inr ⟨n1, ?_⟩
      cases x with
      | none => exact CovT.last h2 e1 (by rw [e2, n2]) fun d hd => hk d ⟨hd, fun e he => by rw [n2] at he; cases he⟩
      | some e => exact ⟨CovT.snoc h2 e1 (by rw [e2, n2]) (n3 e rfl) fun d h1 h2 => hk d ⟨h1, fun e' he => by rw [n2] at he; cases he; exact h2⟩, hl e n2⟩
    · refine .inl ⟨y, n3, ?_, ?_⟩
      · rw [n4]
        exact CovT.snoc h2 e1 (by rw [e2, n1]) n2 fun d h1 h2 => hk d ⟨h1, fun e' he => by rw [n1] at he; cases he; exact h2⟩
      · rw [n4]
        exact hl e n1
  · rw [h1] at hb
    rw [List.getElem?_eq_none (Nat.le_refl _)] at hb
    cases hb
end
/-! ### parts that begin on days -/
abbrev Part := Int × Option Int
def hasB (f : Int) (x : Option Int) (d : Int) : Bool := decide (f ≤ d) && (match x with | none => true | some e => decide (d ≤ e))
theorem hasB_iff {f : Int} {x : Option Int} {d : Int} : hasB f x d = true ↔ f ≤ d ∧ ∀ e, x = some e → d ≤ e := by
  unfold hasB
  rw [Bool.and_eq_true, decide_eq_true_iff]
  cases x with
  | none => exact ⟨fun h => ⟨h.1, nofun⟩, fun h => ⟨h.1, rfl⟩⟩
  | some e => exact ⟨fun h => ⟨h.1, fun e' he => by cases he; exact of_decide_eq_true h.2⟩, fun h => ⟨h.1, decide_eq_true (h.2 e rfl)⟩⟩
theorem CovT.lt {β : Type} {fi : β → Int} {la : β → Option Int} {K : β → Int → Prop} : ∀ {S : List β} {f x : Int}, CovT fi la K f S x → f ≤ x
  | [], _, _, h => Int.le_of_eq h
  | _ :: _, _, _, ⟨_, e, _, h2, _, h4⟩ => by
    have := CovT.lt h4
    omega
/-! ### turns -/
def plE (es : List Evt) (z : Str) (kn : Option Int) (d : Int) : V := plI (heldE es true z kn) d
structure RunsOf (P : Int → Prop) (g : Int → V) (rs : List Run) : Prop where
  cov : Cov rFi rLa (fun x d => g d = x.1) 0 rs
  un : ∀ (i : Nat) a b, rs[i]? = some a → rs[i + 1]? = some b → a.1 ≠ b.1
  days : ∀ r ∈ rs, (rFi r = 0 ∨ P (rFi r)) ∧ ∀ e, rLa r = some e → P (e + 1)
theorem RunsOf.imp {P P' : Int → Prop} {g : Int → V} {rs : List Run} (h : RunsOf P g rs) (k : ∀ d, P d → P' d) : RunsOf P' g rs := ⟨h.cov, h.un, fun r hr => ⟨(h.days r hr).1.imp id (k _), fun e he => k _ ((h.days r hr).2 e he)⟩⟩
/-- an event's day -/
def EvD (es : List Evt) (mv : Bool) (z : Str) (d : Int) : Prop := ∃ e ∈ es, e.mv = mv ∧ e.who = z ∧ e.day = d
/-! ### heads -/
def manyI (es : List Evt) (zs : List Str) (z : Str) (kn : Option Int) (d : Int) : Int := ((zs.filter fun k => decide (plE es k kn d = .str z)).length : Nat)
def getI (t : List (Int × Int)) (k : Int) : Int := (getA t k).getD 0
def putStep (t : List (Int × Int)) (f : Int) : Option Int → List (Int × Int)
  | none => putA t f (getI t f + 1)
  | some e => putA (putA t f (getI t f + 1)) (e + 1) (getI (putA t f (getI t f + 1)) (e + 1) - 1)
theorem keys_putI {t : List (Int × Int)} {k v d : Int} (h : d ∈ (putA t k v).map (·.1)) : d = k ∨ d ∈ t.map (·.1) := by
  obtain ⟨p, hp, rfl⟩ := List.mem_map.mp h
  rcases mem_put hp with rfl | hp
  · exact .inl rfl
  · exact .inr (List.mem_map.mpr ⟨p, hp, rfl⟩)
structure Steps (P : Int → Prop) (t : List (Int × Int)) (g : Int → Int) : Prop where
  nd : (t.map (·.1)).Nodup
  ks : ∀ d ∈ t.map (·.1), d = 0 ∨ P d
  sum : ∀ d, sumLe t d = g d
theorem Steps.nil (P : Int → Prop) : Steps P [] (fun _ => 0) := ⟨List.nodup_nil, nofun, fun _ => rfl⟩
theorem Steps.put {P : Int → Prop} {t : List (Int × Int)} {g : Int → Int} {f : Int} {x : Option Int} (h : Steps P t g) (h1 : f = 0 ∨ P f) (h2 : ∀ e, x = some e → f ≤ e ∧ P (e + 1)) :
    Steps P (putStep t f x) (fun d => g d + if hasB f x d = true then 1 else 0) := by
  cases x with
  | none =>
    refine ⟨nodup_put h.nd, fun d hd => ?_, fun d => ?_⟩
    · rcases keys_putI hd with rfl | hd
      · exact h1
      · exact h.ks d hd
    · show sumLe (putA t f ((getA t f).getD 0 + 1)) d = _
      rw [sumLe_put h.nd, h.sum]
      by_cases hf : f ≤ d
      · rw [if_pos hf, if_pos (hasB_iff.mpr ⟨hf, fun e h => by cases h⟩)]
      · rw [if_neg hf, if_neg (fun z => hf (hasB_iff.mp z).1)]
  | some e =>
    obtain ⟨fe, pe⟩ := h2 e rfl
    refine ⟨nodup_put (nodup_put h.nd), fun d hd => ?_, fun d => ?_⟩
    · rcases keys_putI hd with rfl | hd
      · exact .inr pe
      · rcases keys_putI hd with rfl | hd
        · exact h1
        · exact h.ks d hd
    · have e1 : putStep t f (some e) = putA (putA t f ((getA t f).getD 0 + 1)) (e + 1) ((getA (putA t f ((getA t f).getD 0 + 1)) (e + 1)).getD 0 + -1) := rfl
      rw [e1, sumLe_put (nodup_put h.nd), sumLe_put h.nd, h.sum]
      by_cases hf : f ≤ d
      · rw [if_pos hf]
        by_cases he : e + 1 ≤ d
        · rw [if_pos he, if_neg (fun z => by have := (hasB_iff.mp z).2 e rfl; omega)]
          omega
        · rw [if_neg he, if_pos (hasB_iff.mpr ⟨hf, fun e' h => by cases h; omega⟩)]
          omega
      · rw [if_neg hf, if_neg (by omega), if_neg (fun z => hf (hasB_iff.mp z).1), Int.add_zero]
theorem Steps.len {es : List Evt} {mv : Bool} {t : List (Int × Int)} {g : Int → Int} (h : Steps (fun d => ∃ z, EvD es mv z d) t g) : t.length ≤ es.length + 1 := by
  have := List.Nodup.length_le_of_subset h.nd (l₂ := 0 :: es.map (·.day)) fun d hd => by
    rcases h.ks d hd with rfl | ⟨z, e, he, _, _, rfl⟩
    · exact List.mem_cons_self
    · exact List.mem_cons_of_mem _ (List.mem_map.mpr ⟨e, he, rfl⟩)
  rw [List.length_map, List.length_cons, List.length_map] at this
  exact this
instance (b : Run) (d : Int) : Decidable (HasD2 rFi rLa b d) := decidable_of_iff (hasB (rFi b) (rLa b) d = true) hasB_iff
/-! ### steps, day by day -/
def sumV (t : List (Int × Int)) (ks : List Int) : Int := (ks.map (getI t)).sum
structure Acc (t : List (Int × Int)) (ks : List Int) (rs : List (Int × V)) : Prop where
  ek : rs.map (·.1) = ks
  at_ : ∀ d, atL (.int 0) rs d = .int (sumV t (ks.filter fun k => decide (k ≤ d)))
  vs : ∀ p ∈ rs, ∃ m : Int, p.2 = .int m
theorem Acc.nil (t : List (Int × Int)) : Acc t [] [] := ⟨rfl, fun _ => rfl, nofun⟩
theorem Acc.snoc {t : List (Int × Int)} {ks : List Int} {rs : List (Int × V)} {k : Int} (h : Acc t ks rs) (up : (ks ++ [k]).Pairwise (· < ·)) : Acc t (ks ++ [k]) (rs ++ [(k, .int (sumV t (ks ++ [k])))]) := by
  refine ⟨by rw [List.map_append, h.ek]; rfl, fun d => ?_, fun p hp => ?_⟩
  · rw [atL_snoc]
    by_cases hk : k ≤ d
    · rw [if_pos hk]
      congr 2
      have : (ks ++ [k]).filter (fun k => decide (k ≤ d)) = ks ++ [k] := List.filter_eq_self.mpr fun x hx => by
        rcases List.mem_append.mp hx with hx | hx
        · have := (List.pairwise_append.mp up).2.2 x hx k List.mem_cons_self
          exact decide_eq_true (by omega)
        · rw [List.mem_singleton.mp hx]
          exact decide_eq_true hk
      rw [this]
    · rw [if_neg hk, h.at_, List.filter_append, List.filter_cons, decide_eq_false hk, if_neg (by nofun), List.filter_nil, List.append_nil]
  · rcases List.mem_append.mp hp with hp | hp
    · exact h.vs p hp
    · rw [List.mem_singleton.mp hp]
      exact ⟨_, rfl⟩
/-! ### what is left -/
def numI : V → Int
  | .int n => n
  | _ => 0
structure Shop where
  es : List Evt
  zs : List Str
  z : Str
  kn : Option Int
  R : Int
namespace Shop
def many (s : Shop) (d : Int) : Int := manyI s.es s.zs s.z s.kn d
def landW (s : Shop) (d : Int) : V := (heldO s.es false s.z s.kn d).getD (.int 0)
def land (s : Shop) (d : Int) : Int := numI (s.landW d)
def net (s : Shop) (i : Nat) : Int := s.land i - s.many i * s.R
def left (s : Shop) (d : Int) : Int := leftI s.net d
structure OK (s : Shop) (rk : List (Str × Int)) : Prop where
  ev : ∀ e ∈ s.es, EvOK rk e
  zl : s.zs.length ≤ 30
  r0 : 0 ≤ s.R
  r1 : s.R < 10 ^ 56
variable {s : Shop} {rk : List (Str × Int)}
theorem OK.d0 (h : s.OK rk) : ∀ e ∈ s.es, 0 ≤ e.day := fun e he => (h.ev e he).d0
/-- over a stretch of days on which as many eat and on none but the first anything is landed -/
theorem run {a d m : Int} (h0 : 0 ≤ a) (hd : a ≤ d) (hm : ∀ i, a ≤ i → i ≤ d → s.many i = m) (hl : ∀ i, a < i → i ≤ d → s.land i = 0) : s.left d = s.left (a - 1) + s.land a - m * s.R * (d - a + 1) := by
  have := left_run (net := s.net) (land := fun i => s.land i) (eat := fun i => s.many i * s.R) (fun _ => rfl) (m := m * s.R) h0 hd (fun i h1 h2 => by rw [hm i h1 h2]) (fun i h1 h2 => hl i h1 h2)
  have e : ((a.toNat : Nat) : Int) = a := Int.toNat_of_nonneg h0
  simp only [e] at this
  exact this
end Shop
structure Sup where
  fi : Int
  la : Option Int
  stock : Int
  eaten : Int
def supK (s : Shop) (b : Sup) (d : Int) : Prop := s.left d = b.stock - b.eaten * (d - b.fi + 1)
structure SupB (s : Shop) (b : Sup) : Prop where
  f0 : 0 ≤ b.fi
  f1 : b.fi < 10 ^ 55
  l1 : ∀ e, b.la = some e → b.fi ≤ e ∧ e < 10 ^ 55
  st : b.stock = s.left (b.fi - 1) + s.land b.fi
  e0 : 0 ≤ b.eaten
  e1 : b.eaten < 10 ^ 58
structure SupOf (s : Shop) (ss : List Sup) : Prop where
  cov : Cov Sup.fi Sup.la (supK s) 0 ss
  ok : ∀ b ∈ ss, SupB s b
/-- what is left on the one that has the day -/
theorem SupOf.at_ {s : Shop} {ss : List Sup} (h : SupOf s ss) {d : Int} (hd : 0 ≤ d) : ∃ (i : Nat) (b : Sup), ss[i]? = some b ∧ HasD2 Sup.fi Sup.la b d ∧ supK s b d ∧ ∀ j c, ss[j]? = some c → HasD2 Sup.fi Sup.la c d → j = i := h.cov.one d hd
/-! ### unfed -/
def Fed (s : Shop) (d : Int) : Prop := ∀ d', 0 ≤ d' → d' < d → 0 ≤ s.left d'
/-! ### wanted -/
structure Want (s : Shop) (till : Int) (lim : Int → Prop) (least : Int) (day : Option Int) : Prop where
  low : ∀ d, 0 ≤ d → d ≤ till → lim d → least ≤ s.left d
  is : (least = 0 ∧ day = none) ∨ ∃ x, day = some x ∧ least < 0 ∧ 0 ≤ x ∧ x ≤ till ∧ s.left x = least ∧ ∀ d, 0 ≤ d → d < x → least < s.left d
theorem Want.nil {s : Shop} {till : Int} {lim : Int → Prop} (h : ∀ d, 0 ≤ d → ¬ lim d) : Want s till lim 0 none := ⟨fun d h0 _ hl => absurd hl (h d h0), .inl ⟨rfl, rfl⟩⟩
/-! ### by the law: from mark to mark -/
structure Marks (s : Shop) (ms : List Int) : Prop where
  up : ms.Pairwise (· < ·)
  hd : ms[0]? = some 0
  mv : ∀ k ∈ s.zs, ∀ d, heldE s.es true k s.kn d ≠ .non → d ∈ ms
  ld : ∀ d, heldO s.es false s.z s.kn d ≠ none → d ∈ ms
  top : ∀ d ∈ ms, 0 ≤ d ∧ d < 10 ^ 55
namespace Shop
variable {s : Shop} {rk : List (Str × Int)} {ms : List Int}
theorem many_same (ok : s.OK rk) {a d : Int} (h0 : 0 ≤ a) (hd : a ≤ d) (h : ∀ k ∈ s.zs, ∀ o, a < o → o ≤ d → heldE s.es true k s.kn o = .non) : s.many d = s.many a := by
  unfold many manyI
  congr 2
  refine List.filter_congr fun k hk => ?_
  have : plE s.es k s.kn d = plE s.es k s.kn a := plI_same (held_neg ok.d0) h0 hd (h k hk)
  rw [this]
end Shop
/-- from one mark to the day before the next -/
theorem Marks.same {s : Shop} {rk : List (Str × Int)} {ms : List Int} (M : Marks s ms) (ok : s.OK rk) {i : Nat} {a d : Int} (ha : ms[i]? = some a) (hd : a ≤ d) (hn : ∀ b, ms[i + 1]? = some b → d < b) : s.many d = s.many a := by
  have a0 := (M.top a (List.mem_of_getElem? ha)).1
  refine Shop.many_same ok a0 hd fun k hk o h1 h2 => Classical.byContradiction fun hne => ?_
  obtain ⟨j, hj⟩ := List.getElem?_of_mem (M.mv k hk o hne)
  have il := List.getElem?_eq_some_iff.mp ha
  have jl := List.getElem?_eq_some_iff.mp hj
  by_cases hij : j ≤ i
  · by_cases e : j = i
    · subst e
      rw [ha] at hj
      cases hj
      omega
    · have := List.pairwise_iff_getElem.mp M.up j i jl.1 il.1 (by omega)
      rw [il.2, jl.2] at this
      omega
  · have hl : i + 1 < ms.length := by have := jl.1; omega
    have hb := hn _ (List.getElem?_eq_getElem hl)
    by_cases e : j = i + 1
    · subst e
      rw [List.getElem?_eq_getElem hl] at hj
      cases hj
      omega
    · have := List.pairwise_iff_getElem.mp M.up (i + 1) j hl jl.1 (by omega)
      rw [jl.2] at this
      omega
/-- the mark to which all is counted behind so many pieces -/
def cutM (ms : List Int) (d : Int) (i : Nat) : Int := match ms[i]? with
  | some a => if a ≤ d then a else d + 1
  | none => d + 1
def eatS (s : Shop) (x : Int) : Int := sumN (fun i => s.many i) x.toNat
theorem Marks.step {s : Shop} {rk : List (Str × Int)} {ms : List Int} (M : Marks s ms) (ok : s.OK rk) {d : Int} {i : Nat} {a : Int} (ha : ms[i]? = some a) :
    (a ≤ d → ∀ l, (match ms[i + 1]? with | some b => l = (if b - 1 < d then b - 1 else d) | none => l = d) → eatS s (cutM ms d (i + 1)) = eatS s (cutM ms d i) + s.many a * (l - a + 1)) ∧ (¬ a ≤ d → cutM ms d (i + 1) = cutM ms d i) := by
  have a0 := (M.top a (List.mem_of_getElem? ha)).1
  refine ⟨fun had l hl => ?_, fun had => ?_⟩
  · have e1 : cutM ms d i = a := by
      unfold cutM
      rw [ha]
      exact if_pos had
    have key : cutM ms d (i + 1) = l + 1 ∧ a ≤ l ∧ ∀ b, ms[i + 1]? = some b → l < b := by
      unfold cutM
      cases hb : ms[i + 1]? with
      | none =>
        rw [hb] at hl
        have hl : l = d := hl
        exact ⟨by rw [hl], by omega, nofun⟩
      | some b =>
        rw [hb] at hl
        have hl : l = if b - 1 < d then b - 1 else d := hl
        have il := List.getElem?_eq_some_iff.mp ha
        have jl := List.getElem?_eq_some_iff.mp hb
        have lt := List.pairwise_iff_getElem.mp M.up i (i + 1) il.1 jl.1 (by omega)
        rw [il.2, jl.2] at lt
        show (if b ≤ d then b else d + 1) = l + 1 ∧ a ≤ l ∧ ∀ b', some b = some b' → l < b'
        refine ⟨?_, ?_, fun b' h => ?_⟩
        · rw [hl]
          split <;> split <;> omega
        · rw [hl]
          split <;> omega
        · cases h
          rw [hl]
          split <;> omega
    obtain ⟨k1, k2, k3⟩ := key
    rw [e1, k1]
    unfold eatS
    have e2 : (l + 1).toNat = a.toNat + (l - a + 1).toNat := by omega
    rw [e2, sumN_const (m := s.many a) fun i' h1 h2 => M.same ok ha (by omega) fun b hb => by have := k3 b hb; omega]
    rw [Int.toNat_of_nonneg (by omega)]
  · unfold cutM
    rw [ha]
    cases hb : ms[i + 1]? with
    | none => exact (if_neg had).symm
    | some b =>
      have il := List.getElem?_eq_some_iff.mp ha
      have jl := List.getElem?_eq_some_iff.mp hb
      have lt := List.pairwise_iff_getElem.mp M.up i (i + 1) il.1 jl.1 (by omega)
      rw [il.2, jl.2] at lt
      show (if b ≤ d then b else d + 1) = if a ≤ d then a else d + 1
      rw [if_neg had, if_neg (by omega)]
end LT
set_option Elab.async false
set_option linter.all false
set_option maxRecDepth 100000
set_option maxHeartbeats 1600000
/-! Own layer: list(zip(a, b)) of two lists. -/
namespace LT
open PySem PySem.Spec PyProof.Rows L2
def ZSt (z TI TO i1 i2 a b S : Addr) (i : Nat) (h : Heap) : Prop := IsPair h TI (.ref i1) (.ref i2) ∧ h.IsListIter i1 a i ∧ h.IsListIter i2 b i ∧ (∃ o, h.get? TO = some o) ∧
  ((IsZip h z TI TO .none ∧ ∃ x y, IsPair h TO x y) ∨ ∃ T f oT, IsZipHeld h z TI TO T f ∧ h.get? T = some oT ∧ T ≠ z ∧ T ≠ i1 ∧ T ≠ i2 ∧ T ≠ S)
theorem ZSt.keep {z TI TO i1 i2 a b S : Addr} {i : Nat} {h h' : Heap} (st : ZSt z TI TO i1 i2 a b S i h) (hS : S ∉ [z, TI, TO, i1, i2]) (k : ∀ c o, c ≠ S → h.get? c = some o → h'.get? c = some o) : ZSt z TI TO i1 i2 a b S i h' := by
  obtain ⟨hTI, h1, h2, ⟨oo, hoo⟩, hz⟩ := st
  simp only [List.mem_cons, List.not_mem_nil, or_false, not_or] at hS
  obtain ⟨n1, n2, n3, n4, n5⟩ := hS
  refine ⟨k _ _ (Ne.symm n2) hTI, h1.at fun o e => k _ o (Ne.symm n4) e, h2.at fun o e => k _ o (Ne.symm n5) e, ⟨oo, k _ _ (Ne.symm n3) hoo⟩, ?_⟩
  rcases hz with ⟨hz, x, y, hTO⟩ | ⟨T, f, oT, hz, hT, r1, r2, r3, r4⟩
  · exact .inl ⟨k _ _ (Ne.symm n1) hz, x, y, k _ _ (Ne.symm n3) hTO⟩
  · exact .inr ⟨T, f, oT, k _ _ (Ne.symm n1) hz, k _ _ r4 hT, r1, r2, r3, r4⟩
/-! ### a walk over a dict that has just been made -/
end LT
set_option Elab.async false
set_option linter.all false
set_option maxRecDepth 100000
set_option maxHeartbeats 1600000
/-! Own layer: stretches, runs, supplies on the heap; promises. -/
namespace LT
open PySem PySem.Spec PyProof.Rows L2 NdefX
/-! ### stretches -/
def StrAt (CS : Addr) (H : Hp) (x : Addr) (f : Int) (la : Option Int) : Prop := ∃ dx, H x = some (.ins CS dx [("first_day", .int f), ("last_day", knV la)])
theorem StrAt.mono {CS : Addr} {H H' : Hp} {x : Addr} {f : Int} {la : Option Int} (h : StrAt CS H x f la) (s : Same H H') : StrAt CS H' x f la := h.imp fun _ e => s _ _ e
theorem StrAt.upd {CS : Addr} {H : Hp} {x F : Addr} {f : Int} {la : Option Int} {xs : List V} {o : HO} (h : StrAt CS H x f la) (e : H F = some (.lst xs)) : StrAt CS (L2.upd H F o) x f la := by
  obtain ⟨dx, h⟩ := h
  exact ⟨dx, by rw [upd_ne (ne_of h e (by intro z; cases z))]; exact h⟩
/-! ### runs -/
def RunT (CS : Addr) (H : Hp) (t : Addr) (r : Run) : Prop := ∃ x, H t = some (.tup [r.1, .ref x]) ∧ StrAt CS H x r.2.1 r.2.2
theorem RunT.mono {CS : Addr} {H H' : Hp} {t : Addr} {r : Run} (h : RunT CS H t r) (s : Same H H') : RunT CS H' t r := by
  obtain ⟨x, a, b⟩ := h
  exact ⟨x, s _ _ a, b.mono s⟩
theorem RunT.upd {CS : Addr} {H : Hp} {t F : Addr} {r : Run} {xs : List V} {o : HO} (h : RunT CS H t r) (e : H F = some (.lst xs)) : RunT CS (L2.upd H F o) t r := by
  obtain ⟨x, a, b⟩ := h
  exact ⟨x, by rw [upd_ne (ne_of a e (by intro z; cases z))]; exact a, b.upd e⟩
def RunsAt (CS : Addr) (H : Hp) (l : Addr) (rs : List Run) : Prop := ∃ ts : List Addr, H l = some (.lst (ts.map V.ref)) ∧ Paired (RunT CS H) ts rs
theorem RunsAt.mono {CS : Addr} {H H' : Hp} {l : Addr} {rs : List Run} (h : RunsAt CS H l rs) (s : Same H H') : RunsAt CS H' l rs := by
  obtain ⟨ts, a, b⟩ := h
  exact ⟨ts, s _ _ a, paired_imp (fun _ _ h => h.mono s) b⟩
theorem pick_at {β : Type} {R : Addr → β → Prop} {ts : List Addr} {rs : List β} {i : Nat} {v : V} (h : Paired R ts rs) (e : (ts.map V.ref)[i]? = some v) : ∃ t r, v = .ref t ∧ rs[i]? = some r ∧ R t r := by
  rw [List.getElem?_map, Option.map_eq_some_iff] at e
  obtain ⟨t, e, rfl⟩ := e
  obtain ⟨p, h1, h2⟩ := paired_get h e
  exact ⟨t, p, rfl, h1, h2⟩
/-! ### heads -/
/-! ### supplies -/
def PartsAt (CS : Addr) (H : Hp) (l : Addr) (ps : List Part) : Prop := ∃ xs : List Addr, H l = some (.lst (xs.map V.ref)) ∧ Paired (fun x (p : Part) => StrAt CS H x p.1 p.2) xs ps
theorem PartsAt.mono {CS : Addr} {H H' : Hp} {l : Addr} {ps : List Part} (h : PartsAt CS H l ps) (s : Same H H') : PartsAt CS H' l ps := by
  obtain ⟨ts, a, b⟩ := h
  exact ⟨ts, s _ _ a, paired_imp (fun _ _ h => h.mono s) b⟩
def SupT (CS : Addr) (H : Hp) (t : Addr) (b : Sup) : Prop := ∃ x, H t = some (.tup [.ref x, .int b.stock, .int b.eaten]) ∧ StrAt CS H x b.fi b.la
theorem SupT.mono {CS : Addr} {H H' : Hp} {t : Addr} {b : Sup} (h : SupT CS H t b) (s : Same H H') : SupT CS H' t b := by
  obtain ⟨x, a, b⟩ := h
  exact ⟨x, s _ _ a, b.mono s⟩
theorem SupT.upd {CS : Addr} {H : Hp} {t F : Addr} {b : Sup} {xs : List V} {o : HO} (h : SupT CS H t b) (e : H F = some (.lst xs)) : SupT CS (L2.upd H F o) t b := by
  obtain ⟨x, a, b⟩ := h
  exact ⟨x, by rw [upd_ne (ne_of a e (by intro z; cases z))]; exact a, b.upd e⟩
def SupsAt (CS : Addr) (H : Hp) (l : Addr) (ss : List Sup) : Prop := ∃ ts : List Addr, H l = some (.lst (ts.map V.ref)) ∧ Paired (SupT CS H) ts ss
theorem SupsAt.mono {CS : Addr} {H H' : Hp} {l : Addr} {ss : List Sup} (h : SupsAt CS H l ss) (s : Same H H') : SupsAt CS H' l ss := by
  obtain ⟨ts, a, b⟩ := h
  exact ⟨ts, s _ _ a, paired_imp (fun _ _ h => h.mono s) b⟩
def shopOf (es : List Evt) (rk : List (Str × Int)) (z : Str) (kn : Option Int) (R : Int) : Shop := ⟨es, rk.map (·.1), z, kn, R⟩
end LT
set_option Elab.async false
set_option linter.all false
set_option maxRecDepth 100000
set_option maxHeartbeats 1600000
namespace LT
open PySem PySem.Spec PyProof.Rows L2
end LT
set_option Elab.async false
set_option linter.all false
set_option maxRecDepth 100000
set_option maxHeartbeats 1600000
/-! Own layer: the law's own counting of stores; one book beside a pot. -/
namespace LT
open PySem PySem.Spec PyProof.Rows L2 NdefX
theorem Want.weak {s : Shop} {till least : Int} {lim lim' : Int → Prop} {day : Option Int} (w : Want s till lim least day) (h : ∀ d, 0 ≤ d → lim' d → lim d) : Want s till lim' least day := ⟨fun d d0 d1 hl => w.low d d0 d1 (h d d0 hl), w.is⟩
/-! ### the model -/
def mdlK (A B C : Addr) (z : Str) : List (Key × V) := [(.inr "moves", .ref A), (.inr "landed", .ref B), (.inr "marks", .ref C), (.inr "light", .str z)]
def MovesAt (H : Hp) (s : Shop) (ds : List Addr) (zs : List Str) : Prop := Paired (fun d k => H d = some (.dK (toldK (heldD s.es true k s.kn)))) ds zs
theorem MovesAt.mono {H H' : Hp} {s : Shop} {ds : List Addr} {zs : List Str} (h : MovesAt H s ds zs) (sm : Same H H') : MovesAt H' s ds zs := paired_imp (fun _ _ h => sm _ _ h) h
theorem MovesAt.upd {H : Hp} {s : Shop} {ds : List Addr} {zs : List Str} {F : Addr} {xs : List V} {o : HO} (h : MovesAt H s ds zs) (e : H F = some (.lst xs)) : MovesAt (L2.upd H F o) s ds zs := paired_imp (fun t p h => by rw [upd_ne (ne_of h e (by intro z; cases z))]; exact h) h
def MdlAt (H : Hp) (M : Addr) (s : Shop) (ms : List Int) : Prop := ∃ (A B C : Addr) (ds : List Addr), H M = some (.dK (mdlK A B C s.z)) ∧ H A = some (.lst (ds.map V.ref)) ∧ MovesAt H s ds s.zs ∧ H B = some (.dK (toldK (heldD s.es false s.z s.kn))) ∧ H C = some (.lst (ms.map V.int))
theorem MdlAt.mono {H H' : Hp} {M : Addr} {s : Shop} {ms : List Int} (h : MdlAt H M s ms) (sm : Same H H') : MdlAt H' M s ms := by
  obtain ⟨A, B, C, ds, h1, h2, h3, h4, h5⟩ := h
  exact ⟨A, B, C, ds, sm _ _ h1, sm _ _ h2, h3.mono sm, sm _ _ h4, sm _ _ h5⟩
/-! ### pieces -/
def PcT (ms : List Int) (H : Hp) (t : Addr) (i : Nat) : Prop := ∃ a, ms[i]? = some a ∧ H t = some (.tup [.int a, knV (ms[i + 1]?)])
def PcsAt (H : Hp) (l : Addr) (ms : List Int) : Prop := ∃ ts : List Addr, H l = some (.lst (ts.map V.ref)) ∧ ts.length = ms.length ∧ ∀ i t, ts[i]? = some t → PcT ms H t i
theorem PcsAt.mono {H H' : Hp} {l : Addr} {ms : List Int} (h : PcsAt H l ms) (s : Same H H') : PcsAt H' l ms := by
  obtain ⟨ts, a, b, c⟩ := h
  exact ⟨ts, s _ _ a, b, fun i t ht => (c i t ht).imp fun _ h => ⟨h.1, s _ _ h.2⟩⟩
theorem Want.uniq {s : Shop} {till l1 l2 : Int} {d1 d2 : Option Int} (a : Want s till (fun _ => True) l1 d1) (b : Want s till (fun _ => True) l2 d2) : l1 = l2 ∧ d1 = d2 := by
  rcases a.is with ⟨a1, a2⟩ | ⟨x, a1, a2, a3, a4, a5, a6⟩
  · rcases b.is with ⟨b1, b2⟩ | ⟨y, b1, b2, b3, b4, b5, b6⟩
    · exact ⟨a1.trans b1.symm, a2.trans b2.symm⟩
    · have := a.low y b3 b4 trivial
      omega
  · rcases b.is with ⟨b1, b2⟩ | ⟨y, b1, b2, b3, b4, b5, b6⟩
    · have := b.low x a3 a4 trivial
      omega
    · have h1 := a.low y b3 b4 trivial
      have h2 := b.low x a3 a4 trivial
      have e : l1 = l2 := by omega
      have : x = y := by
        by_cases h : x < y
        · have := b6 x a3 h
          omega
        · by_cases h' : y < x
          · have := a6 y b3 h'
            omega
          · omega
      exact ⟨e, by rw [a1, b1, this]⟩
end LT
set_option Elab.async false
set_option linter.all false
set_option maxRecDepth 100000
namespace LT
open PySem PySem.Spec PyProof.Rows L2
/-! ### rows of days as data, and how they are shown -/
end LT
set_option Elab.async false
set_option linter.all false
set_option maxRecDepth 100000
set_option maxHeartbeats 1600000
namespace LT
open PySem PySem.Spec PyProof.Rows L2 LamX
/-! ### defs whose code object is known -/
structure FunC (K : PySem.W.Frag) (x qual : Str) (st : Stmt) (f c : Addr) (fd : FuncData) : Prop where
  ex : ∃ (oc : Value) (od : Option Addr) (kV doc pm : Value) (an : Option Addr) (ct : Value) (osl : Array (Option Value)),
    fd = PySem.W.fnOf x qual (defArgs st) (defBody st) (defScope st) .none kV doc pm an (.ref c) ct ∧ K.lookup f = some ⟨oc, od, .func fd, osl⟩ ∧ PySem.W.codeIn K (.ref c) qual = true
  kp : PySem.W.keepIn K (.ref f) = true
theorem FunC.fn {K : PySem.W.Frag} {x qual : Str} {st : Stmt} {f c : Addr} {fd : FuncData} (F : FunC K x qual st f c fd) : Fun K x qual st f fd := by
  obtain ⟨oc, od, kV, doc, pm, an, ct, osl, e, l, h⟩ := F.ex
  exact ⟨⟨oc, od, kV, doc, pm, an, .ref c, ct, osl, e, l, h⟩, F.kp⟩
section
variable {P : Program} {w : World} {K : PySem.W.Frag} {mg : Str → Option Value} {base : Heap}
theorem FunC.ok {x qual : Str} {st : Stmt} {f c : Addr} {fd : FuncData} {N ps : List Str} {k : Nat} {sp : Sp} (F : FunC K x qual st f c fd) (S : FnScope N ps (defScope st)) (len : ∀ vs H Q E, sp vs H Q E → vs.length = ps.length)
    (body : ∀ (A : Around) (outer : List Env) (s : Shared) (H : Hp) (vs : List V) (Q : VK) (E : XK), Room k (A.deeper (envOfC qual (defScope st) s.heap.objs.size f (.ref c))) → sp vs H Q E →
      ∃ t, PSs (cxOf CX0 P w K mg base N qual (defScope st) f (.ref c) A outer s H E).nox (defBody st) t ∧ t { nx := fun _ H' => Q .non H', rt := Q } (start N vs) H) : FnOk P w K mg base CX0 (k + 1) f fd ps sp := by
  obtain ⟨oc, od, kV, doc, pm, an, ct, osl, rfl, lk, hcd⟩ := F.ex
  refine fn_of lk hcd S len fun A outer s H vs Q E hr hsp => ?_
  obtain ⟨t, h, q⟩ := body A outer s H vs Q E hr hsp
  exact ⟨t, h.nox, q⟩
end
/-! ### the end of a law whose defs make lambdas and show things -/
theorem end_tab {P : Program} {w : World} {K : PySem.W.Frag} {mg mb : Str → Option Value} {CX : CXT} {k : Nat} {fa a : Addr} {cs : List (Addr × Addr)}
    {fd : FuncData} {x : Str} {sp : Sp} {s₁ : Shared} {vs : List Value} {ns : List Int}
    (KX : K.In s₁.heap) (hns : s₁.heap.Ns mainGlobals mg) (hb : s₁.heap.Ns builtinsNs mb)
    (hbb : ∀ x : Str, x ≠ "__name__" → mb x = bootBuiltins x) (hlim : s₁.heap.NoLimit) (hg : s₁.gens = #[])
    (tab : ∀ p ∈ cs, s₁.heap.get? p.2 = some { cls := .none, data := .fields #[] }) (out : ∀ p ∈ cs, K.lookup p.2 = none) (code : ∀ p ∈ cs, PySem.W.CodeHd s₁.heap p.1 p.2)
    (bmain : ∃ (bm : Addr) (ob : Obj), mg "__builtins__" = some (.ref bm) ∧ bm ≠ builtinsNs ∧ s₁.heap.get? bm = some ob ∧ ob.cls = .type "module" ∧ ob.dict = some builtinsNs ∧ ob.data = .plain)
    (ha : s₁.heap.get? a = some { cls := .type "list", data := .seq vs.toArray }) (hi : IntsAre vs ns)
    (hl : ns.length ≤ sizeLine) (hr : Room k callerA)
    (F : ∀ base : Heap, K.In base → base.Ns mainGlobals mg → (∀ p ∈ cs, TabB base mg p.1 p.2) → FnG P w K mg base CX k fa fd [x] sp)
    (hbind : ∀ (s : Shared) (u : Value), BindsTo s fd ⟨[u], []⟩ [(x, u)])
    (hsp : ∀ H : Hp, (∀ p ∈ cs, H p.2 = some (.tbl #[])) → SqL K H a (ns.map V.int) → sp [.ref a] H (fun v _ => v = .bl true) fun _ _ _ => False)
    (hCX : ∀ H e s', CX [] H s₁ (fun _ _ _ => False) e s' → False) :
    codeAny (model P w) callerA (.call (.ref fa) ⟨[.ref a], []⟩)
      (fun r s' => r = .ok (.ret (.bool true)) ∧ OldK s₁.heap s'.heap ∧ s'.os = s₁.os ∧ AllBare s'.gens) s₁ := by
  have lenV := hi.length
  let ts : List Addr := cs.map (·.2)
  have tabT : ∀ b ∈ ts, s₁.heap.get? b = some { cls := .none, data := .fields #[] } := fun b hb => by
    obtain ⟨p, hp, rfl⟩ := List.mem_map.mp hb
    exact tab p hp
  have inT : ∀ p ∈ cs, p.2 ∈ ts := fun p hp => List.mem_map.mpr ⟨p, hp, rfl⟩
  have outA : a ∉ ts := fun z => by
    have y := tabT a z
    rw [ha] at y
    cases y
  have start : ∀ H : Hp, (∀ b, b ∈ ts → H b = some (.tbl #[])) → (∀ b, b ∉ ts → b ≠ a → H b = none) → (H a = none ∨ ∃ ob xs, H a = some (.frz ob (.lst xs)) ∧ K.lookup a = none) →
      SqL K H a (ns.map V.int) → HOk P w H s₁.heap → codeAny (model P w) callerA (.call (.ref fa) ⟨[.ref a], []⟩)
        (fun r s' => r = .ok (.ret (.bool true)) ∧ OldK s₁.heap s'.heap ∧ s'.os = s₁.os ∧ AllBare s'.gens) s₁ := by
    intro H isT isN isA hS hok
    have free : ∀ {b : Addr} {o : Obj}, s₁.heap.get? b = some o → (∀ ys n, o.data ≠ .seq ys n) → o.data ≠ .fields #[] → H b = none := fun {b o} e n1 n2 => by
      refine isN b (fun z => ?_) fun z => ?_
      · rw [tabT b z] at e
        cases e
        exact n2 rfl
      · rw [z, ha] at e
        cases e
        exact n1 _ _ rfl
    have nsK : ∀ {b : Addr} {m : Str → Option Value}, s₁.heap.Ns b m → (hidT s₁.heap H).Ns b m := by
      rintro b m ⟨o, es, ep, e, d, r⟩
      exact ⟨o, es, ep, hidT_get e (free e (by rw [d]; nofun) (by rw [d]; nofun)), d, r⟩
    have inK : K.In (hidT s₁.heap H) := fun b o e => hidT_get (KX b o e) (by
      by_cases q : b = a
      · rcases isA with z | ⟨_, _, _, z⟩
        · rw [q]
          exact z
        · rw [q, z] at e
          cases e
      · refine isN b (fun z => ?_) q
        obtain ⟨p, hp, rfl⟩ := List.mem_map.mp z
        rw [out p hp] at e
        cases e)
    have hM : Mod K mg (hidT s₁.heap H) := ⟨inK, nsK hns, ⟨mb, nsK hb, hbb⟩, hlim.imp fun _ z => ⟨nsK z.1, z.2⟩⟩
    have TB : ∀ p ∈ cs, TabB (hidT s₁.heap H) mg p.1 p.2 := fun p hp => by
      have at_ := tab p hp
      refine ⟨?_, ?_, fun z => ?_⟩
      · obtain ⟨o, us, fl, tf, fg, tg, inF, tx, tt, c1, c2, c3, c4, c5⟩ := code p hp
        exact ⟨o, us, fl, tf, fg, tg, inF, tx, tt, hidT_get c1 (free c1 (by rw [c3]; nofun) (by
          rw [c3]
          intro z
          cases z
          cases c4)), c2, c3, c4, c5⟩
      · obtain ⟨bm, ob, b1, b2, b3, b4, b5, b6⟩ := bmain
        refine ⟨bm, ob, b1, b2, fun z => ?_, fun z => ?_, hidT_get b3 (free b3 (by rw [b6]; nofun) (by rw [b6]; nofun)), b4, b5, b6⟩
        · obtain ⟨o, es, ep, e, d, _⟩ := hns
          rw [z, e] at b3
          cases b3
          rw [d] at b6
          cases b6
        · rw [z, at_] at b3
          cases b3
          cases b6
      · obtain ⟨o, es, ep, e, d, _⟩ := hns
        rw [z, at_] at e
        cases e
        cases d
    have e0 : Env0 P w K mg (hidT s₁.heap H) callerA [] s₁ H :=
      ⟨rfl, hM, fun b o e => of_hidT e, Nat.le_of_eq (hidT_size _ _), trivial,
        fun b z => absurd (show b ∈ ([] : List Addr) from z) List.not_mem_nil, hok, .of_eq hg⟩
    refine codeAny_mono ((F _ inK (nsK hns) TB).go (us := [.ref a]) (vs := [.ref a]) rfl hr e0 (hbind s₁ (.ref a)) (.cons rfl .nil) (hsp H (fun p hp => isT _ (inT p hp)) hS)) fun r s' h => ?_
    match r, h with
    | .error e, h => exact (hCX H e s' h).elim
    | .ok .next, h => exact h.elim
    | .ok .brk, h => exact h.elim
    | .ok .cont, h => exact h.elim
    | .ok (.ret u), h =>
      obtain ⟨v, H', os, bare, un, hok', r', rfl⟩ := h
      obtain rfl : u = Value.bool true := r'
      have old : ∀ b o, b ∉ ts → s₁.heap.get? b = some o → s'.heap.get? b = some o := fun b o nt e => by
        have plain : H b = none → s'.heap.get? b = some o := fun z => un.keep b o e z (fun y => absurd (show b ∈ ([] : List Addr) from y) List.not_mem_nil) List.not_mem_nil
        by_cases q : b = a
        · rcases isA with z | ⟨ob, xs, z, _⟩
          · exact plain (by rw [q]; exact z)
          · rw [← q] at z
            have z1 := (hok b _ z).1
            rw [e] at z1
            cases z1
            exact (hok' b _ (un.frzs b _ _ z)).1
        · exact plain (isN b nt q)
      have grew : ∀ p ∈ cs, ∃ more : Array Value, s'.heap.get? p.2 = some { cls := .none, data := .fields more } := fun p hp => by
        obtain ⟨more, z⟩ := un.tbls p.2 #[] (isT _ (inT p hp))
        exact ⟨_, hok' p.2 _ z⟩
      refine ⟨rfl, ⟨fun b o e => ?_, fun b o e => ?_⟩, os, bare⟩
      · by_cases q : b ∈ ts
        · obtain ⟨p, hp, rfl⟩ := List.mem_map.mp q
          obtain ⟨more, hm⟩ := grew p hp
          rw [tab p hp] at e
          cases e
          exact .inr (.inl ⟨((code p hp).tab (tab p hp)).isCodeTable, rfl, #[], more, rfl, by rw [Array.empty_append]; exact hm⟩)
        · exact .inl (old b o q e)
      · by_cases q : b ∈ ts
        · obtain ⟨p, hp, rfl⟩ := List.mem_map.mp q
          obtain ⟨more, hm⟩ := grew p hp
          exact ⟨_, hm⟩
        · exact ⟨o, old b o q e⟩
  let T0 : Hp := fun b => if b ∈ ts then some (.tbl #[]) else none
  have T0t : ∀ b, b ∈ ts → T0 b = some (.tbl #[]) := fun b z => if_pos z
  have T0n : ∀ b, b ∉ ts → T0 b = none := fun b z => if_neg z
  have T0ok : HOk P w T0 s₁.heap := fun b u z => by
    by_cases q : b ∈ ts
    · rw [T0t b q] at z
      cases z
      exact tabT b q
    · rw [T0n b q] at z
      cases z
  cases hk : K.lookup a with
  | some o =>
    have e := KX a o hk
    rw [ha] at e
    cases e
    refine start T0 T0t (fun b z _ => T0n b z) (.inl (T0n a outA)) (.inr ⟨_, vs.toArray, _, hk, rfl, rfl, rfl, ?_, by simpa using vals_ints hi⟩) T0ok
    rw [List.size_toArray, lenV]
    exact hl
  | none =>
    refine start (upd T0 a (.frz { cls := .type "list", data := .seq vs.toArray } (.lst (ns.map V.int)))) (fun b z => ?_) (fun b z q => ?_) (.inr ⟨_, _, upd_same, hk⟩) (.inl (.inr ⟨_, upd_same⟩)) (fun b u z => ?_)
    · rw [upd_ne (fun q : b = a => outA (by rw [← q]; exact z))]
      exact T0t b z
    · rw [upd_ne q]
      exact T0n b z
    · by_cases q : b = a
      · subst q
        rw [upd_same] at z
        cases z
        exact ⟨ha, by rw [List.length_map]; exact hl, vs, _, vals_ints hi, ha⟩
      · rw [upd_ne q] at z
        by_cases q2 : b ∈ ts
        · rw [T0t b q2] at z
          cases z
          exact tabT b q2
        · rw [T0n b q2] at z
          cases z
/-- what is known of the law's def where the top has ended -/
def LawG (l : PySem.W.OpenLaw) (w : World) (K : PySem.W.Frag) (CX : CXT) (k n : Nat) (x : Str) (mg : Str → Option Value) (fa : Addr) (h : Heap) : Prop :=
  ∃ (fd : FuncData) (cs : List (Addr × Addr)) (sp : Sp), (∀ p ∈ cs, h.get? p.2 = some { cls := .none, data := .fields #[] }) ∧ (∀ p ∈ cs, K.lookup p.2 = none) ∧
    (∀ p ∈ cs, PySem.W.CodeHd h p.1 p.2) ∧ (∀ (s : Shared) (u : Value), BindsTo s fd ⟨[u], []⟩ [(x, u)]) ∧
    (∀ (H : Hp) (a : Addr) (ns : List Int), ns.length ≤ n → (∀ p ∈ cs, H p.2 = some (.tbl #[])) → SqL K H a (ns.map V.int) → sp [.ref a] H (fun v _ => v = .bl true) fun _ _ _ => False) ∧
    ∀ base : Heap, K.In base → base.Ns mainGlobals mg → (∀ p ∈ cs, TabB base mg p.1 p.2) → FnG l.prog w K mg base CX k fa fd [x] sp
theorem end_ofG {l : PySem.W.OpenLaw} {n k : Nat} {q : Program} {loose : List Str} {XP : (Str → Option Value) → Heap → Prop}
    {YP : World → Heap → Prop} {d : DefRec} {K : Params → PySem.W.Frag} {CX : World → CXT} {x : Str}
    (hn : l.most = some n) (hn2 : n ≤ sizeLine) (hdf : d.params.defaults = []) (hr : Room k callerA)
    (hY : ∀ (w : World) (h : Heap), YP w h → (K w.params).In h)
    (F : ∀ (w : World) (mg : Str → Option Value) (fa : Addr) (h : Heap), YP w h → (K w.params).In h → h.Ns mainGlobals mg →
      mg d.name = some (.ref fa) → LawG l w (K w.params) (CX w) k n x mg fa h)
    (hCX : ∀ (w : World) (H : Hp) (s : Shared) (e : Value) (s' : Shared), CX w [] H s (fun _ _ _ => False) e s' → False) :
    PySem.W.WalkO q loose XP YP l.row.toRowW d [] (fun f vs => PySem.call f vs) :=
  Att.attach_callB hn hdf fun w _ s₁ mg mb fa o pm cd doc a vs ns G Y ho hd hcd hmg hobj hints hlen hbits hg => by
    obtain ⟨fd, cs, sp, tab, out, code, hb, hsp, hF⟩ := F w mg fa _ Y (hY w _ Y) G.T.g hmg
    exact end_tab (hY w _ Y) G.T.g G.T.b G.T.builtins G.T.nolimit hg tab out code G.T.bmain hobj hints (Nat.le_trans hlen hn2) hr hF hb
      (fun H hH hS => hsp H a ns hlen hH hS) fun H e s' => hCX w H s₁ e s'
end LT
set_option Elab.async false
set_option linter.all false
namespace LD
/-! ### days of both, days of none, by rows that rise -/
def Gap (r s : Row) : Prop := ∃ j, r.2 = some j ∧ j + 1 < s.1
structure Asc (L : List Row) : Prop where
  ok : ∀ r ∈ L, Ok r
  pw : L.Pairwise Gap
theorem can_iff : ∀ {L : List Row}, Can L ↔ (∀ r ∈ L, Ok r) ∧ L.Pairwise (fun r s => Gap s r)
  | [] => ⟨fun _ => ⟨nofun, .nil⟩, fun _ => trivial⟩
  | r :: t => by
    constructor
    · intro h
      exact ⟨h.ok, List.pairwise_cons.mpr ⟨fun s hs => h.under s hs, (can_iff.mp h.tail).2⟩⟩
    · rintro ⟨h1, h2⟩
      obtain ⟨g1, g2⟩ := List.pairwise_cons.mp h2
      have ht : Can t := can_iff.mpr ⟨fun s hs => h1 s (.tail _ hs), g2⟩
      cases t with
      | nil => exact h1 r (.head _)
      | cons s t => exact ⟨h1 r (.head _), g1 s (.head _), ht⟩
theorem can_of {L : List Row} (h : Asc L) : Can L.reverse := can_iff.mpr ⟨fun r hr => h.ok r (List.mem_reverse.mp hr), List.pairwise_reverse.mpr h.pw⟩
theorem ins_rev {L : List Row} {d : Int} : Ins L.reverse d ↔ Ins L d := ⟨fun ⟨r, hr, z⟩ => ⟨r, List.mem_reverse.mp hr, z⟩, fun ⟨r, hr, z⟩ => ⟨r, List.mem_reverse.mpr hr, z⟩⟩
theorem asc_uniq {L L' : List Row} (h : Asc L) (h' : Asc L') (e : ∀ d, Ins L d ↔ Ins L' d) : L = L' := by
  have := uniq (can_of h) (can_of h') fun d => by rw [ins_rev, ins_rev, e]
  rw [← List.reverse_reverse L, this, List.reverse_reverse]
theorem Asc.tail {r : Row} {t : List Row} (h : Asc (r :: t)) : Asc t := ⟨fun s hs => h.ok s (.tail _ hs), (List.pairwise_cons.mp h.pw).2⟩
/-! ### a walk over marks, whatever is wanted -/
end LD
set_option Elab.async false
set_option linter.all false
set_option maxRecDepth 100000
set_option maxHeartbeats 1600000
namespace LT
open PySem PySem.Spec PyProof.Rows L2
/-! ### two lists of own things, equal one by one: != is False -/
/-! ### repr of a list of own things -/
end LT
set_option Elab.async false
set_option linter.all false
set_option maxRecDepth 100000
set_option maxHeartbeats 1600000
set_option pp.maxSteps 700
/-! Own layer: repr and == of lists and tuples, one within the other, that hold own things. -/
namespace LT
open PySem PySem.Spec PyProof.Rows L2
/-! ### repr -/
def RepI (X : Cx) (H : Hp) (n : Nat) (as : List Addr) (v : V) (t : Str) : Prop :=
  ∀ (σ : L2.St) (u : Value), RelV v u → ∀ (b : Nat), b + t.length ≤ sizeLine → ∀ (A : Around) (g : List Code) (pins : List (Addr × Obj)) (s : Shared), A.guards = some g → (∀ x ∈ as, Clear g x) → L2.Sub X n A → Inv X pins σ H s →
    wpAny (model X.prog X.w) A (pyReprUnder b u) (fun t' s2 => t' = t ∧ Inv X pins σ H s2) X.xe s
section
variable {X : Cx} {C f : Addr} {fd : FuncData} {ps : List Str} {sp : List Code → Sp} {k n : Nat} {H : Hp} {as : List Addr} {t : Str}
theorem sub_le {m : Nat} {A : Around} (sb : L2.Sub X n A) (h : m ≤ n) : L2.Sub X m A := ⟨sb.room.mono h, sb.fr⟩
theorem RepI.own {a dx : Addr} {fs : List (Str × V)} (hs : PySem.W.findIn X.K (.ref C) "__repr__" = some (some (.ref f))) (hf : PySem.W.isFn X.K (.ref f) = true) (F : FnGc X.prog X.w X.K X.mg X.base CX0 k f fd ps sp) (hb : L2.Binds X.K fd ps [])
    (ha : H a = some (.ins C dx fs)) (hsp : ∀ g, sp g [.ref a] H (fun z H' => ∃ u, z = .str u ∧ (z = .str t ∧ H' = H)) E0) (hk : k ≤ n) : RepI X H n as (.ref a) t := by
  intro σ u r b hbz A g pins s hg hc sb I
  cases r
  obtain ⟨mA, JI, _⟩ := ins_get I.hok ha
  obtain ⟨od, JI, _⟩ := JI.look
  refine under_ownC (by omega) sb.room.units0 I.kIn JI hs hf (wpAny_mono (run_strGc (Q := fun z H' => z = .str t ∧ H' = H) F hg (sub_le sb hk) hb I (hsp g)) (fun z s2 hz => ?_) fun e s2 he => he)
  cases z <;> first | exact hz.elim | skip
  obtain ⟨zv, H', I2, rz, rfl, rfl⟩ := hz
  obtain ⟨tk2, ez⟩ := rz
  cases ez
  exact ⟨t, _, rfl, rfl, I2⟩
variable {pins : List (Addr × Obj)} {σ : L2.St}
theorem show_loopI {A : Around} {g : List Code} (hG : A.guards = some g) (hcl : ∀ x ∈ as, Clear g x) (sb : L2.Sub X (n + 1) A) {R : Result → Shared → Prop}
    (hE : ∀ e s', X.xe e s' → R (.error e) s') {l P : Addr} {xs : List V} {ts : List Str} {b : Nat} (hna : l ∉ as) (hl : H l = some (.lst xs)) (hlen : ts.length = xs.length)
    (each : ∀ (i : Nat) (v : V) (t : Str), xs[i]? = some v → ts[i]? = some t → RepI X H n as v t)
    (hsz : b + (listText ts).length ≤ sizeLine) (fp : FpOk X pins H P) (fin : ∀ s' u, Inv X pins σ H s' → R (.ok (.ret (.str (listText ts) u))) s') :
    ∀ (k i : Nat) (s : Shared) (acc : Array Value) (c : Nat) (done : List (Str × Tok)), xs.length - i = k → i ≤ xs.length → Inv X pins σ H s →
      s.heap.get? P = some (seqObj "list" acc c) → acc.toList = strValues done → done.map (·.1) = ts.take i →
      codeAny (model X.prog X.w) A (.builtin "list.__repr__.loop" ⟨[.ref l, rawInt i, .ref P, rawInt ((b + piled (ts.take i) : Nat) : Int)], []⟩) R s := by
  have hX : (listText ts).length = (textFrom 0 "[" ts).length + 1 := by
    show (textFrom 0 "[" ts ++ "]").length = _
    rw [strLen_append]
    rfl
  have hL := textFrom_len ts 0 "["
  have hp3 := piled_le_listText ts
  intro k
  induction k with
  | zero =>
    intro i s acc c done hk hi I hP hacc hdone
    obtain ⟨its, rv, pl, hz⟩ := I.list (SqL.of hl)
    obtain ⟨o, m, e1, e2, _, e4⟩ := pl
    have il := rv.length
    refine codeAny_builtin PySem.F.entry_list_repr_loop ?_
    show wpAny _ _ (Builtin.«list.__repr__.loop» ⟨[.ref l, .int i 0, .ref P, .int ((b + piled (ts.take i) : Nat) : Int) 0], []⟩) _ _ s
    rw [repr_loop_tree]
    refine wpAny_bind (wpAny_listItems e1 e4 ?_)
    have hnone : its.toArray[(i : Int).toNat]? = none := by
      simp
      omega
    simp only [hnone]
    unfold reprEnd
    refine wpAny_bind (wpAny_listItems hP rfl ?_)
    rw [hacc, repr_fold]
    refine wpAny_bind (wpAny_pure ?_)
    have hall : done.map (·.1) = ts := by rw [hdone, List.take_of_length_le (by omega)]
    rw [hall]
    refine wpAny_bind (wpAny_mkStr (wpAny_pure ?_) (by show (listText ts).length ≤ _; omega))
    exact fin _ _ (I.tok _)
  | succ k ih =>
    intro i s acc c done hk hi I hP hacc hdone
    obtain ⟨its, rv, pl, hz⟩ := I.list (SqL.of hl)
    obtain ⟨o, m, e1, e2, _, e4⟩ := pl
    have il := rv.length
    have hlt : i < xs.length := by omega
    obtain ⟨v, ev⟩ : ∃ v, xs[i]? = some v := ⟨_, List.getElem?_eq_getElem hlt⟩
    obtain ⟨u, eu⟩ : ∃ u, its[i]? = some u := ⟨_, List.getElem?_eq_getElem (by omega)⟩
    obtain ⟨t, ht⟩ : ∃ t, ts[i]? = some t := ⟨_, List.getElem?_eq_getElem (by omega)⟩
    have hrep := each i v t ev ht
    have ru := vals_ix rv i ev eu
    have hp1 := piled_take_succ ht
    have hp2 := piled_take_le ts (i + 1)
    have htl := hL.2.1 t (List.mem_of_getElem? ht)
    refine codeAny_builtin PySem.F.entry_list_repr_loop ?_
    show wpAny _ _ (Builtin.«list.__repr__.loop» ⟨[.ref l, .int i 0, .ref P, .int ((b + piled (ts.take i) : Nat) : Int) 0], []⟩) _ _ s
    rw [repr_loop_tree]
    refine wpAny_bind (wpAny_listItems e1 e4 ?_)
    have hsome : its.toArray[(i : Int).toNat]? = some u := by simpa using eu
    simp only [hsome]
    rw [Int.toNat_natCast]
    have J : Inv X ((P, seqObj "list" acc c) :: pins) σ H s := I.pins_of fun p hp => by
      rcases List.mem_cons.mp hp with rfl | hp
      · exact ⟨hP, fp.1, fp.2.1, fp.2.2.1, fun v z => nomatch z⟩
      · exact I.pin p (List.mem_append_right _ hp)
    have sb2 := sub_guardC sb ⟨[.ref l, .int i 0, .ref P, .int ((b + piled (ts.take i) : Nat) : Int) 0], []⟩
    have hg2 : (A.under (.builtin "list.__repr__.loop" ⟨[.ref l, .int i 0, .ref P, .int ((b + piled (ts.take i) : Nat) : Int) 0], []⟩)).guards = some (.builtin "list.__repr__.loop" ⟨[.ref l, .int i 0, .ref P, .int ((b + piled (ts.take i) : Nat) : Int) 0], []⟩ :: g) := guards_under_guard (isGuard_list_loop _) hG
    refine wpAny_bind (wpAny_holding (wpAny_mono (hrep σ u ru (b + piled (ts.take i) + 1) (by omega) _ _ _ s hg2 (fun b' hb' => (hcl b' hb').cons (a := l) fun e => hna (e ▸ hb')) sb2 J) (fun t' s2 hz => ?_) fun e s2 he => hE e s2 he))
    have et := hz.1.symm
    have I2 := hz.2
    subst et
    have hP2 := (I2.pin (P, seqObj "list" acc c) (List.mem_append_right _ (.head _))).1
    have I3 : Inv X pins σ H s2 := I2.pins_of fun p hp => I2.pin p (List.mem_append_right _ (.tail _ hp))
    refine wpAny_bind (wpAny_mkStr ?_ (by omega))
    refine wpAny_bind ?_
    show wpAny _ _ (updateSeq P _) _ _ _
    have hasz : acc.size ≤ sizeLine := by
      have z1 : acc.toList.length = acc.size := by simp
      have z2 : (strValues done).length = done.length := by simp [strValues]
      have z3 : done.length = (ts.take i).length := by rw [← hdone, List.length_map]
      have z4 : (ts.take i).length ≤ i := by rw [List.length_take]; omega
      rw [hacc] at z1
      omega
    refine wpAny_updateSeq hP2 rfl (wpAny_pure ⟨PySem.F.quiet_list_repr_loop _, ?_⟩) hasz
    have e5 : ((i : Int) + 1) = ((i + 1 : Nat) : Int) := by omega
    have e6 : b + piled (ts.take i) + (t.length + 2) = b + piled (ts.take (i + 1)) := by omega
    rw [e5, e6]
    have sbt := Heap.SameBut.update s2.heap P (Obj.mapSeq (·.push (.str t s2.toks)))
    have I4 : Inv X pins σ H { s2 with heap := s2.heap.update P (Obj.mapSeq (·.push (.str t s2.toks))), toks := s2.toks + 1 } :=
      I3.turnedL (ch := [P]) (fun b o hb q => (sbt.2 b fun z => hb (by rw [z]; exact List.mem_singleton.mpr rfl)).trans q) (fun b hb => by rw [List.mem_singleton.mp hb]; exact fp)
    obtain ⟨c2, hc2⟩ : ∃ c2, (s2.heap.update P (Obj.mapSeq (·.push (.str t s2.toks)))).get? P = some (seqObj "list" (acc.push (.str t s2.toks)) c2) := ⟨_, get?_update_seq hP2 (·.push (.str t s2.toks))⟩
    exact ih (i + 1) _ (acc.push (.str t s2.toks)) c2 (done ++ [(t, s2.toks)]) (by omega) hlt I4 hc2 (by simp [hacc, strValues]) (by simp [List.take_add_one, ht, hdone])
/-- the list's own part, from its head on -/
theorem list_headI {A : Around} {g : List Code} (hG : A.guards = some g) {l : Addr} (hcl : ∀ x ∈ l :: as, Clear g x) (sb : L2.Sub X (n + 1) A) {R : Result → Shared → Prop} (hE : ∀ e s', X.xe e s' → R (.error e) s')
    {xs : List V} {ts : List Str} {b : Nat} {s : Shared} {o : Obj} {y : Value} {its : List Value} {m : Nat} (hna : l ∉ as) (hl : H l = some (.lst xs)) (hlen : ts.length = xs.length)
    (each : ∀ (i : Nat) (v : V) (t : Str), xs[i]? = some v → ts[i]? = some t → RepI X H n as v t) (hsz : b + (listText ts).length ≤ sizeLine) (I : Inv X pins σ H s) (e1 : s.heap.get? l = some o) (e4 : o.data = .seq (y :: its).toArray m)
    (fin : ∀ s' u, Inv X pins σ H s' → R (.ok (.ret (.str (listText ts) u))) s') :
    wpAny (model X.prog X.w) A.in1 (Builtin.listReprAt b ⟨[.ref l], []⟩) (fun fin s' => match fin with | .done f => R (.ok f) s' | .again c' => c'.quiet = true ∧ codeAny (model X.prog X.w) A c' R s') (fun e s' => R (.error e) s') s := by
  refine wpAny_list_repr_head (A := A.in1) hG (fun v rest kw hm => listSameRef_of_ne (hcl l List.mem_cons_self _ _ _ _ hm)) e1 e4 ?_
  refine wpAny_bind (m := newList []) (wpAny_newObj_type ?_)
  refine wpAny_pure ⟨PySem.F.quiet_list_repr_loop _, ?_⟩
  have I2 : Inv X pins σ H { s with heap := s.heap.push { cls := .type "list", data := .seq #[] } } := by
    have := I.kept (h' := s.heap.push { cls := .type "list", data := .seq #[] }) (t' := s.toks) fun b o e => Heap.get?_push_of_some _ e
    exact this
  have fp : FpOk X pins H s.heap.objs.size := I.fpOk (Nat.le_refl _) (I.hok.fresh (Nat.le_refl _))
  exact show_loopI hG (fun x hx => hcl x (List.mem_cons_of_mem _ hx)) sb hE hna hl hlen each hsz fp fin _ 0 _ #[] 0 [] rfl (Nat.zero_le _) I2 (Heap.get?_push_size _ rfl) rfl rfl
theorem RepI.lst {l : Addr} {xs : List V} {ts : List Str} (hl : H l = some (.lst xs)) (hlen : ts.length = xs.length) (hna : l ∉ as) (each : ∀ (i : Nat) (v : V) (t : Str), xs[i]? = some v → ts[i]? = some t → RepI X H n as v t) :
    RepI X H (n + 1) (l :: as) (.ref l) (listText ts) := by
  intro σ u r b hb A g pins s hg hc sb I
  cases r
  obtain ⟨its, rv, pl, hz⟩ := I.list (SqL.of hl)
  obtain ⟨o, m, e1, e2, e3, e4⟩ := pl
  have il := rv.length
  cases its with
  | nil =>
    have hx : xs = [] := List.eq_nil_of_length_eq_zero (by rw [il]; rfl)
    subst hx
    have ht : ts = [] := List.eq_nil_of_length_eq_zero hlen
    subst ht
    exact (ReprK.listEmpty (as := []) (d := 0) (h₀ := s.heap) e1 e2 e4) b hb A g X.xe s _ hg nofun sb.room.units0 (fun _ _ e => e) fun h' tk hk => ⟨rfl, I.kept hk⟩
  | cons y its =>
    refine wpAny_pyReprUnder_ref (by omega) (wpAny_pyReprObjUnder_twin (twin := "list.__repr__.under") ⟨o, e1, e2⟩ PySem.F.slot_list_repr.toG rfl sb.room.units0 ?_)
    refine call_twin_plain PySem.F.plain_list_repr_under PySem.F.entry_list_repr_under PySem.F.check_list_repr_under ⟨o, e1, e2⟩ PySem.F.slot_list_repr.toG (PySem.F.args_list_repr_1 _) ?_
    exact list_headI hg hc sb (fun e s' he => he) hna hl hlen each hb I e1 e4 fun s' u J => ⟨⟨_, _, rfl⟩, _, _, rfl, rfl, J⟩
theorem tupFoldI {A : Around} {g : List Code} (hG : A.guards = some g) (hcl : ∀ x ∈ as, Clear g x) (sb : L2.Sub X n A) : ∀ (vs : List V) (us : List Value) (ts : List Str) (acc : Array Str) (m : Nat) (s : Shared) (Q : (Array Str × Nat) → Shared → Prop), Vals vs us → ts.length = vs.length →
    (∀ (i : Nat) (v : V) (t : Str), vs[i]? = some v → ts[i]? = some t → RepI X H n as v t) → m + piled ts ≤ sizeLine → Inv X pins σ H s → (∀ s', Inv X pins σ H s' → Q ⟨acc ++ ts.toArray, m + piled ts⟩ s') →
    wpAny (model X.prog X.w) A (forIn us (⟨acc, m⟩ : (Array Str × Nat)) tupBody) Q X.xe s := by
  intro vs
  induction vs with
  | nil =>
    intro us ts acc m s Q r hl _ _ I h
    cases r
    have ht : ts = [] := List.eq_nil_of_length_eq_zero hl
    subst ht
    have h0 := h s I
    simp only [List.forIn_nil]
    exact wpAny_pure (by simpa [piled] using h0)
  | cons v vs ih =>
    intro us ts acc m s Q r hl each hn I h
    cases r with
    | cons ru rus =>
      cases ts with
      | nil => cases hl
      | cons t ts =>
        rw [piled_cons] at hn
        rw [List.forIn_cons]
        refine wpAny_bind (wpAny_bind (wpAny_mono (each 0 v t rfl rfl σ _ ru (m + 1) (by omega) _ _ _ s hG hcl sb I) (fun t' s2 hz => wpAny_pure ?_) fun _ _ x => x))
        obtain ⟨rfl, I2⟩ := hz
        refine ih _ ts (acc.push t') (m + (t'.length + 2)) _ Q rus (Nat.succ.inj hl) (fun i v t hv ht => each (i + 1) v t hv ht) (by omega) I2 fun s' J => ?_
        have h1 := h s' J
        have e : m + piled (t' :: ts) = m + (t'.length + 2) + piled ts := by rw [piled_cons]; omega
        rw [e] at h1
        simpa using h1
theorem sub_guardT {A : Around} (sb : L2.Sub X (n + 1) A) (id : String) (hid : id = "tuple.__repr__" ∨ id = "tuple.__repr__.under") (args : Args) : L2.Sub X n (A.under (.builtin id args)) := by
  have hw : (Code.builtin id args).weight ≤ 1 := by
    rcases hid with rfl | rfl
    · show (Code.builtin "tuple.__repr__" ⟨[], []⟩).weight ≤ 1
      decide +kernel
    · show (Code.builtin "tuple.__repr__.under" ⟨[], []⟩).weight ≤ 1
      decide +kernel
  have hc : (Code.builtin id args).cUnits ≤ 10 := by
    rcases hid with rfl | rfl
    · show (Code.builtin "tuple.__repr__" ⟨[], []⟩).cUnits ≤ 10
      decide +kernel
    · show (Code.builtin "tuple.__repr__.under" ⟨[], []⟩).cUnits ≤ 10
      decide +kernel
  have he : (Code.builtin id args).envs = [] := rfl
  obtain ⟨⟨h1, h2, h3⟩, h4⟩ := sb
  refine ⟨⟨h1, ?_, ?_⟩, ?_⟩
  · show A.depth + _ + 3 * n + 5 < _
    omega
  · show A.units + _ + 16 * n + 200 < _
    omega
  · unfold Around.under
    simp [he, pushEnvs, h4]
theorem RepI.tup {l : Addr} {xs : List V} {ts : List Str} (hl : H l = some (.tup xs)) (hlen : ts.length = xs.length) (hna : l ∉ as) (each : ∀ (i : Nat) (v : V) (t : Str), xs[i]? = some v → ts[i]? = some t → RepI X H n as v t) :
    RepI X H (n + 1) (l :: as) (.ref l) (tupleText ts) := by
  intro σ u r b hb A g pins s hg hc sb I
  cases r
  obtain ⟨its, rv, ⟨o, ho, hcl, m, hd⟩, _⟩ := I.tuple (SqT.of hl)
  have il := rv.length
  have hp := piled_le_tupleText ts
  refine wpAny_pyReprUnder_ref (by omega) (wpAny_pyReprObjUnder_twin (twin := "tuple.__repr__.under") ⟨o, ho, hcl⟩ PySem.F.slot_tuple_repr rfl sb.room.units0 ?_)
  refine call_twin_own (PySem.F.quiet_tuple_repr_under _) PySem.F.entry_tuple_repr_under PySem.F.check_tuple_repr_under ⟨o, ho, hcl⟩ PySem.F.slot_tuple_repr (PySem.F.args_tuple_repr_1 _) ?_
  rw [tuple_repr_tree, tupleReprUnderWay_eq]
  refine wpOwn_bind (wpOwn_stackTailAny hg (tupGuardF_off _) (tupGuardF_pos _) ?_)
  have hn : (g.any fun c => tupGuardF (.ref l) (c, default)) = false := by
    rw [List.any_eq_false]
    intro c hcm
    rw [tupGuardF_of_clear (hc l List.mem_cons_self) c hcm]
    exact Bool.false_ne_true
  rw [hn]
  refine wpOwn_of_wpAny ?_
  show wpAny _ _ (tupleReprRest b (.ref l)) _ _ s
  unfold tupleReprRest Builtin.Tuple.tupleItemsOf
  refine wpAny_bind (wpAny_bind (wpAny_seqItems ho hd (wpAny_pure ?_)))
  rw [← Array.forIn_toList]
  have sb2 : L2.Sub X n (A.under (.builtin "tuple.__repr__.under" ⟨[.ref l, rawInt b], []⟩)) := sub_guardT sb _ (.inr rfl) _
  have hg2 : (A.under (.builtin "tuple.__repr__.under" ⟨[.ref l, rawInt b], []⟩)).guards = some (.builtin "tuple.__repr__.under" ⟨[.ref l, rawInt b], []⟩ :: g) := guards_under_guard (isGuard_tuple_repr_under _) hg
  refine wpAny_bind (wpAny_mono (tupFoldI hg2 (fun b' hb' => (hc b' (List.mem_cons_of_mem _ hb')).cons (a := l) fun e => hna (e ▸ hb')) sb2 xs its ts #[] b s (fun r s' => r = ⟨#[] ++ ts.toArray, b + piled ts⟩ ∧ Inv X pins σ H s') rv hlen each (by omega) I fun s' J => ⟨rfl, J⟩) (fun r s' hz => ?_) fun _ _ x => x)
  obtain ⟨rfl, J⟩ := hz
  refine wpAny_bind (wpAny_mkStr (wpAny_pure ?_) ?_)
  · refine ⟨⟨_, _, rfl⟩, _, _, rfl, ?_, J.tok _⟩
    simp [tupleText, hlen, il]
  · have : (tupleText ts).length ≤ sizeLine := by omega
    simpa [tupleText, hlen, il] using this
end
/-! ### trees of such, told without the place that shows them -/
/-! ### != of two lists of such, equal one by one -/
/-! ### xs == [] -/
section
variable {prog : Program} {w : World} {A : Around} {E : Value → Shared → Prop} {s : Shared}
open AutoSeq1 (wpAny_loadPart')
theorem eq_lens {Q : Value → Shared → Prop} {l b : Addr} {items items2 : Array Value} {n n2 : Nat} (hu : A.units < cLine) (ho : s.heap.get? l = some { cls := .type "list", data := .seq items n }) (ho2 : s.heap.get? b = some { cls := .type "list", data := .seq items2 n2 }) (hd : items.size ≠ items2.size)
    (h : Q (.bool false) s) : wpAny (model prog w) A (richCompare .Eq (.ref l) (.ref b)) Q E s := by
  refine wpAny_richCompare_same_room (op := .Eq) ⟨_, ho, rfl⟩ ⟨_, ho2, rfl⟩ PySem.F.slot_list_eq (GQ.call_here PySem.F.slot_list_eq ⟨_, ho, rfl⟩ PySem.F.entry_list_eq (PySem.F.args_list_eq_2 _ _) ?_) hu
  have f3 := AutoSeq1.sub_list_list
  have hne : (items.size != items2.size) = true := by simpa using hd
  obtain ⟨hp, g, d, tk, os⟩ := s
  wp_walk using wpAny_loadPart' ho, wpAny_loadPart' ho2
  exact ⟨(fun z => nomatch z), h⟩
end
def rEqNil (K : PySem.W.Frag) : R2 := fun x y H Q => ∃ (l k : Addr) (xs : List V), x = .ref l ∧ y = .ref k ∧ H l = some (.lst xs) ∧ H k = some (.lst []) ∧ Q (.bl xs.isEmpty) H
theorem op_eqNil {X : Cx} (hu : X.A.units + 64 < cLine) : OpR X (compareOp .Eq) (rEqNil X.K) := by
  intro pins s σ H x y v u Q I rx ry h
  obtain ⟨l, k, xs, rfl, rfl, hl, hk, q⟩ := h
  cases xs with
  | nil => exact op_eqD hu pins s σ H _ _ v u Q I rx ry ⟨.list [], .list [], .lst (SqL.of hl) .nil, .lst (SqL.of hk) .nil, by decide +kernel, by decide +kernel, by
      rw [show PyData.eqv (.list []) (.list []) = true by decide +kernel]
      exact q⟩
  | cons x xs =>
    cases rx
    cases ry
    obtain ⟨_, its, n, rv, ho⟩ := (show ObjOk X.prog X.w H s.heap l (.lst (x :: xs)) from I.hok l _ hl)
    obtain ⟨_, its2, n2, rv2, ho2⟩ := (show ObjOk X.prog X.w H s.heap k (.lst []) from I.hok k _ hk)
    cases rv2
    refine eq_lens (by omega) ho ho2 ?_ ⟨.bl false, H, I, rfl, q⟩
    have := rv.length
    rw [List.length_cons] at this
    show its.toArray.size ≠ 0
    rw [List.size_toArray]
    omega
end LT
set_option Elab.async false
set_option linter.all false
set_option maxRecDepth 100000
set_option maxHeartbeats 1600000
/-! Own layer: runs of heads: one way only; how they show; == of them. -/
namespace LT
open PySem PySem.Spec PyProof.Rows L2 NdefX
/-! ### one way only -/
def Un (rs : List Run) : Prop := ∀ (i : Nat) a b, rs[i]? = some a → rs[i + 1]? = some b → a.1 ≠ b.1
theorem Un.tail {r : Run} {rs : List Run} (h : Un (r :: rs)) : Un rs := fun i a b h1 h2 => h (i + 1) a b h1 h2
theorem Cov.fst {β : Type} {fi : β → Int} {la : β → Option Int} {K : β → Int → Prop} {c : β} {r : List β} {f : Int} (h : Cov fi la K f (c :: r)) : fi c = f ∧ K c f := by
  cases r with
  | nil => exact ⟨h.1, h.2.2 f (Int.le_refl _)⟩
  | cons d r =>
    obtain ⟨h1, e, h2, h3, h4, _⟩ := h
    exact ⟨h1, h4 f (Int.le_refl _) h3⟩
/-! ### by marks -/
/-! ### how they show -/
/-- rows (value, day), as tuples -/
def RowsD (H : Hp) (us : List Addr) (B : List (Int × V)) : Prop := Paired (fun t (p : Int × V) => H t = some (.tup [p.2, .int p.1])) us B
theorem RowsD.mono {H H' : Hp} {us : List Addr} {B : List (Int × V)} (h : RowsD H us B) (s : Same H H') : RowsD H' us B := paired_imp (fun _ _ h => s _ _ h) h
theorem RowsD.upd {H : Hp} {us : List Addr} {B : List (Int × V)} {F : Addr} {xs : List V} {o : HO} (h : RowsD H us B) (e : H F = some (.lst xs)) : RowsD (L2.upd H F o) us B := paired_imp (fun t p h => by rw [upd_ne (ne_of h e (by intro z; cases z))]; exact h) h
/-! ### whole lists of runs -/
end LT
set_option Elab.async false
set_option linter.all false
set_option maxRecDepth 100000
set_option maxHeartbeats 1600000
/-! Own layer: entries: dicts locked, many at once; all that was told of one. -/
namespace LT
open PySem PySem.Spec PyProof.Rows L2 NdefX
/-! ### many locks -/
def tLocksE : Nat → TE → TE
  | 0, t => t
  | n + 1, t => tLockE (tLocksE n t)
def tLockM (t : TE) : TE := fun σ H Q => ∃ n, tLocksE n t σ H Q
theorem pe_locks {X : Cx} {e : Expr} {t : TE} (h : PE X e t) : ∀ n, PE X e (tLocksE n t)
  | 0 => h
  | n + 1 => pe_lock (pe_locks h n)
theorem pe_lockM {X : Cx} {e : Expr} {t : TE} (h : PE X e t) : PE X e (tLockM t) := ⟨fun pins s σ H Q I hw => by
  obtain ⟨n, hw⟩ := hw
  exact (pe_locks h n).run pins s σ H Q I hw⟩
def LockedAll (H Hl : Hp) (ds : List Addr) : Prop := (∀ d ∈ ds, ∃ od u, H d = some u ∧ Hl d = some (.frz od u)) ∧ ∀ a, a ∉ ds → Hl a = H a
def unlockAll (H H' : Hp) (ds : List Addr) : Hp := fun a => if a ∈ ds then H a else H' a
theorem locksE {t : TE} {σ : L2.St} : ∀ (ds : List Addr) (H : Hp) (Q : VK), ds.Nodup → (∀ d ∈ ds, ∃ u, H d = some u ∧ L2.Mut (some u)) →
    (∀ Hl, LockedAll H Hl ds → ∀ Q' : VK, (∀ v H', (∀ d ∈ ds, H' d = Hl d) → Q v (unlockAll H H' ds) → Q' v H') → t σ Hl Q') → tLocksE ds.length t σ H Q
  | [], H, Q, _, _, h => h H ⟨nofun, fun _ _ => rfl⟩ Q fun v H' _ q => by
      have e : unlockAll H H' [] = H' := funext fun a => if_neg nofun
      rw [e] at q
      exact q
  | d :: ds, H, Q, nd, hd, h => by
    have nd' := List.nodup_cons.mp nd
    obtain ⟨u, hu, mu⟩ := hd d List.mem_cons_self
    refine ⟨d, u, hu, mu, fun od => ?_⟩
    have hne : ∀ c ∈ ds, c ≠ d := fun c hc e => nd'.1 (e ▸ hc)
    refine locksE ds (L2.upd H d (.frz od u)) _ nd'.2 (fun c hc => ?_) fun Hl hl Q' hq => ?_
    · rw [upd_ne (hne c hc)]
      exact hd c (List.mem_cons_of_mem _ hc)
    · have ed : Hl d = some (.frz od u) := by rw [hl.2 d nd'.1, upd_same]
      refine h Hl ⟨fun c hc => ?_, fun a ha => ?_⟩ Q' fun v H' hk q => ?_
      · rcases List.mem_cons.mp hc with rfl | hc
        · exact ⟨od, u, hu, ed⟩
        · obtain ⟨oc, uc, h1, h2⟩ := hl.1 c hc
          rw [upd_ne (hne c hc)] at h1
          exact ⟨oc, uc, h1, h2⟩
      · rw [hl.2 a fun h => ha (List.mem_cons_of_mem _ h), upd_ne (fun e => ha (by rw [e]; exact List.mem_cons_self))]
      · refine hq v H' (fun c hc => hk c (List.mem_cons_of_mem _ hc)) ⟨?_, ?_⟩
        · show (if d ∈ ds then _ else H' d) = _
          rw [if_neg nd'.1, hk d List.mem_cons_self, ed]
        · have e : L2.upd (unlockAll (L2.upd H d (.frz od u)) H' ds) d u = unlockAll H H' (d :: ds) := funext fun a => by
            by_cases ha : a = d
            · subst ha
              rw [upd_same]
              show _ = if a ∈ a :: ds then H a else H' a
              rw [if_pos List.mem_cons_self, hu]
            · rw [upd_ne ha]
              show (if a ∈ ds then L2.upd H d (.frz od u) a else H' a) = if a ∈ d :: ds then H a else H' a
              by_cases hs : a ∈ ds
              · rw [if_pos hs, if_pos (List.mem_cons_of_mem _ hs), upd_ne ha]
              · rw [if_neg hs, if_neg fun h => (List.mem_cons.mp h).elim ha hs]
          rw [e]
          exact q
/-- what had not been there stays so; what was there is as it was -/
theorem unlock_same {H Hl H' : Hp} {ds : List Addr} (hl : LockedAll H Hl ds) (s : Same Hl H') : Same H (unlockAll H H' ds) := fun a o e => by
  show (if a ∈ ds then H a else H' a) = some o
  by_cases h : a ∈ ds
  · rw [if_pos h]
    exact e
  · rw [if_neg h]
    exact s a o (by rw [hl.2 a h]; exact e)
theorem unlock_new {H Hl H' : Hp} {ds : List Addr} {a : Addr} {o : HO} (hl : LockedAll H Hl ds) (hn : Hl a = none) (e : H' a = some o) : unlockAll H H' ds a = some o := by
  show (if a ∈ ds then H a else H' a) = some o
  rw [if_neg fun h => by
    obtain ⟨_, _, _, h2⟩ := hl.1 a h
    rw [hn] at h2
    cases h2]
  exact e
/-- a walk's own count -/
theorem walkW {J : It} {n : Nat} {G : Hp → Prop} {Y : Nat → Hp → V → Hp → Prop} (w : Walk J n G Y) {H0 : Hp} {Done : Hp → Prop} {Step : V → Hp → (Hp → Prop) → Prop} (Pv : Nat → Hp → Prop) (h0 : Pv 0 H0) (hg : ∀ i H, i ≤ n → Pv i H → G H)
    (hs : ∀ i x H H', i < n → Pv i H → Y i H x H' → Step x H' (Pv (i + 1))) (hd : ∀ H, Pv n H → Done H) :
    ∃ W : Nat → Nat → Hp → Prop, (∃ m, W 0 m H0) ∧ ∀ i m H, W i m H → (J.stop i H ∧ Done H) ∨ (J.go i H ∧ ∃ Nx : Hp → Prop, (∀ H', Nx H' → ∃ m', m' < m ∧ W (i + 1) m' H') ∧ ∀ x H', J.yld i H x H' → Step x H' Nx) := by
  refine ⟨fun i m H => m = n - i ∧ i ≤ n ∧ Pv i H, ⟨n, by simp, Nat.zero_le _, h0⟩, ?_⟩
  rintro i m H ⟨rfl, hi, p⟩
  have g := hg i H hi p
  by_cases hlt : i < n
  · exact .inr ⟨w.goes i H hlt g, Pv (i + 1), fun H' p' => ⟨n - (i + 1), by omega, rfl, hlt, p'⟩, fun x H' y => hs i x H H' hlt p (w.yields i H x H' hlt g y)⟩
  · have e : i = n := by omega
    subst e
    exact .inl ⟨w.stops H g, hd H p⟩
/-! ### all that was told, day by day -/
def flatH (h : Hist) : List (Int × Int × V) := h.flatMap fun p => p.2.map fun q => (q.1, p.1, q.2)
theorem flatH_snoc {h : Hist} {i : Nat} {e : Int × Told} (he : h[i]? = some e) : flatH (h.take (i + 1)) = flatH (h.take i) ++ e.2.map fun q => (q.1, e.1, q.2) := by
  unfold flatH
  rw [take_snoc he, List.flatMap_append, List.flatMap_cons, List.flatMap_nil, List.append_nil]
theorem flatH_take (h : Hist) (i : Nat) : (flatH (h.take i)).length ≤ (flatH h).length := by
  have e : flatH h = flatH (h.take i) ++ flatH (h.drop i) := by
    unfold flatH
    rw [← List.flatMap_append, List.take_append_drop]
  rw [e, List.length_append]
  omega
def TellT (H : Hp) (t : Addr) (e : Int × Int × V) : Prop := H t = some (.tup [.int e.1, .int e.2.1, e.2.2])
theorem TellT.unlock {H Hl H' : Hp} {ds : List Addr} {t : Addr} {e : Int × Int × V} (hl : LockedAll H Hl ds) (s : Same Hl H') (h : TellT H' t e) : TellT (unlockAll H H' ds) t e := by
  show (if t ∈ ds then H t else H' t) = _
  rw [if_neg fun hm => by
    obtain ⟨_, _, _, h2⟩ := hl.1 t hm
    have h3 := s _ _ h2
    have h4 : H' t = some (.tup [.int e.1, .int e.2.1, e.2.2]) := h
    rw [h4] at h3
    cases h3]
  exact h
theorem unlock_none {H Hl : Hp} {ds : List Addr} {a : Addr} (hl : LockedAll H Hl ds) (n : Hl a = none) : H a = none := by
  by_cases h : a ∈ ds
  · obtain ⟨_, _, _, h2⟩ := hl.1 a h
    rw [n] at h2
    cases h2
  · rw [← hl.2 a h]
    exact n
def histN (h : Hist) : Nat := (flatH h).length
def spAllTold (C : Addr) : Sp := fun vs H Q _ => ∃ (a : HA), vs = [.ref a.x] ∧ HistAt C H a ∧ histN a.h ≤ 2000 ∧ ∀ (l : Addr) (ts : List Addr) (H' : Hp), H l = none → H' l = some (.lst (ts.map V.ref)) → Paired (TellT H') ts (flatH a.h) → Same H H' → Q (.ref l) H'
end LT
set_option Elab.async false
set_option linter.all false
set_option maxRecDepth 100000
set_option maxHeartbeats 1600000
/-! Own layer: sorted by keys that are tuples, made anew by each call of the key. -/
namespace LT
open PySem PySem.Spec PyProof.Rows L2
/-- what stands in a key -/
def Flt : V → Prop
  | .int _ => True
  | .str _ => True
  | .non => True
  | _ => False
def fltD : V → PyData
  | .int i => .int i
  | .str z => .str z
  | _ => .none
def keyD (ys : List V) : PyData := .tuple (ys.map fltD)
theorem fltD_dp {K : PySem.W.Frag} {H : Hp} {v : V} (h : Flt v) : Dp K H v (fltD v) := by
  cases v with
  | int i => exact .int i
  | str z => exact .str z
  | non => exact .non
  | _ => exact h.elim
theorem fltD_all {K : PySem.W.Frag} {H : Hp} : ∀ {ys : List V}, (∀ y ∈ ys, Flt y) → DpAll K H ys (ys.map fltD)
  | [], _ => .nil
  | y :: ys, h => .cons (fltD_dp (h y (.head _))) (fltD_all fun z hz => h z (.tail _ hz))
theorem fltD_depth : ∀ ys : List V, PyData.depthAll (ys.map fltD) ≤ 1
  | [] => by simp [PyData.depthAll]
  | y :: ys => by
    have := fltD_depth ys
    rw [List.map_cons, PyData.depthAll]
    have h1 : (fltD y).depth ≤ 1 := by cases y <;> simp [fltD, PyData.depth]
    omega
theorem keyD_depth (ys : List V) : (keyD ys).depth ≤ 3 := by
  have := fltD_depth ys
  unfold keyD
  rw [PyData.depth]
  omega
section
variable {X : Cx} {pins : List (Addr × Obj)} {σ : L2.St} {H : Hp} {s : Shared}
theorem sort_keyedT {xs : List V} {us : List Value} {key : V → List V} {f : Value} {g : Heap} {E' : Value → Shared → Prop} {A : Around} {R : PySem.Fin → Shared → Prop} (I : Inv X pins σ H { s with heap := g }) (hv : Vals xs us) (hz : us.length ≤ sizeLine) (hu : A.units + 64 < cLine) (hfl : ∀ v ∈ xs, ∀ y ∈ key v, Flt y)
    (hal : PySem.W.AllAlike (xs.map fun v => keyD (key v))) (hso : PySem.W.Sortable (xs.map fun v => keyD (key v)))
    (turn : ∀ (pins' : List (Addr × Obj)) (H' : Hp) (s' : Shared) (v : V) (u : Value), (∀ p ∈ pins, p ∈ pins') → Same H H' → Inv X pins' σ H' s' → v ∈ xs → RelV v u →
      wpAny (model X.prog X.w) A (call f [u]) (fun z s'' => ∃ T H'', z = .ref T ∧ Same H' H'' ∧ H'' T = some (.tup (key v)) ∧ Inv X pins' σ H'' s'') (fun _ _ => False) s')
    (fin : ∀ s' H', Same H H' → H' g.objs.size = none → Inv X pins σ (upd H' g.objs.size (.lst (xs.mergeSort (PySem.W.dataLe false fun v => keyD (key v))))) s' → R (.done (.ret .none)) s') :
    wpAny (model X.prog X.w) A (ksk_tree g.objs.size f false) R E' { s with heap := g.push (seqObj "list" us.toArray 0) } := by
  have ho : (g.push (seqObj "list" us.toArray 0)).get? g.objs.size = some (seqObj "list" us.toArray 0) := Heap.get?_push_size _ rfl
  obtain ⟨e1, ho1⟩ : ∃ e1, ((g.push (seqObj "list" us.toArray 0)).update g.objs.size (Obj.mapSeq fun _ => (#[] : Array Value))).get? g.objs.size = some (seqObj "list" #[] e1) := ⟨_, get?_update_seq ho fun _ => #[]⟩
  have fa0 : FpOk X pins H g.objs.size := I.fpOk (Nat.le_refl _) (I.hok.fresh (Nat.le_refl _))
  generalize ea : g.objs.size = a at *
  have old : ∀ b u, g.get? b = some u → ((g.push (seqObj "list" us.toArray 0)).update a (Obj.mapSeq fun _ => (#[] : Array Value))).get? b = some u := fun b u e => by
    rw [Heap.get?_update_ne _ _ _ _ (by rw [← ea]; exact Nat.ne_of_lt (Heap.lt_size e))]
    exact Heap.get?_push_of_some _ e
  have hs1 : ((g.push (seqObj "list" us.toArray 0)).update a (Obj.mapSeq fun _ => (#[] : Array Value))).objs.size = a + 1 := by rw [Heap.size_update, size_push', ea]
  unfold ksk_tree
  refine wpAny_bind (listItems_at ho rfl ?_)
  refine wpAny_bind (listUpdate_at ho rfl ?_ (by rw [List.size_toArray]; exact hz) (Nat.zero_le _))
  refine wpAny_bind (seqEpoch_at ho1 rfl ?_)
  refine wpAny_bind (wpAny_newTuple ?_ (by show us.length ≤ _; exact hz))
  refine wpAny_bind (wpAny_newList ?_ (Nat.zero_le _))
  refine wpAny_holding ?_
  generalize eg1 : (g.push (seqObj "list" us.toArray 0)).update a (Obj.mapSeq fun _ => (#[] : Array Value)) = g1 at *
  have hs2 : (g1.push (seqObj "tuple" us.toArray 0)).objs.size = a + 2 := by rw [size_push', hs1]
  have nk : ((g1.push (seqObj "tuple" us.toArray 0)).push (seqObj "list" #[] 0)).get? (a + 2) = some (seqObj "list" #[] 0) := by
    rw [← hs2]
    exact Heap.get?_push_size _ rfl
  have na : ((g1.push (seqObj "tuple" us.toArray 0)).push (seqObj "list" #[] 0)).get? a = some (seqObj "list" #[] e1) := Heap.get?_push_of_some _ (Heap.get?_push_of_some _ ho1)
  have old2 : ∀ b u, g.get? b = some u → ((g1.push (seqObj "tuple" us.toArray 0)).push (seqObj "list" #[] 0)).get? b = some u := fun b u e => Heap.get?_push_of_some _ (Heap.get?_push_of_some _ (old b u e))
  show wpAny (model X.prog X.w) A (ksk_rest a f false us.toArray _ (.ref (g1.push (seqObj "tuple" us.toArray 0)).objs.size)) _ _ _
  rw [hs2]
  generalize (g1.push (seqObj "tuple" us.toArray 0)).push (seqObj "list" #[] 0) = g2 at *
  have I2 : Inv X pins σ H { s with heap := g2 } := by
    have := I.kept (h' := g2) (t' := s.toks) old2
    exact this
  have fk0 : FpOk X pins H (a + 2) := I.fpOk (by show g.objs.size ≤ a + 2; omega) (I.hok.fresh (by show g.objs.size ≤ a + 2; omega))
  have pinA : ∀ {s' : Shared}, Inv X pins σ H s' → s'.heap.get? a = some (seqObj "list" #[] e1) → Inv X ((a, seqObj "list" #[] e1) :: pins) σ H s' := fun {s'} J e => J.pins_of fun p hp => by
    rcases List.mem_cons.mp hp with rfl | hp
    · exact ⟨e, fa0.1, fa0.2.1, fa0.2.2.1, fun v z => nomatch z⟩
    · exact J.pin p (List.mem_append_right _ hp)
  have fk : FpOk X ((a, seqObj "list" #[] e1) :: pins) H (a + 2) := ⟨fk0.1, fk0.2.1, fk0.2.2.1, fk0.2.2.2.1, fk0.2.2.2.2.1, fun p hp => by
    rcases List.mem_append.mp hp with h | h
    · exact fk0.2.2.2.2.2 p (List.mem_append_left _ h)
    · rcases List.mem_cons.mp h with rfl | h
      · show a ≠ a + 2
        omega
      · exact fk0.2.2.2.2.2 p (List.mem_append_right _ h)⟩
  have hlen : us.length = xs.length := hv.length.symm
  unfold ksk_rest
  refine wpAny_bind (wpAny_rule ?_)
  rw [List.forIn_toArray]
  refine wpAny_bind (ksk_fold (fun i s' => ∃ (kA : Array Value) (e : Nat) (Hj : Hp), Same H Hj ∧ Hj (a + 2) = none ∧ Inv X ((a, seqObj "list" #[] e1) :: pins) σ Hj s' ∧ s'.heap.get? (a + 2) = some (seqObj "list" kA e) ∧ PySem.W.EachIs (fun u (v : V) => ∃ T, u = Value.ref T ∧ Hj T = some (.tup (key v))) kA.toList (xs.take i)) us 0 _
    ⟨#[], 0, H, Same.refl _, fk0.1, pinA I2 na, nk, by rw [List.take_zero]; exact .nil⟩ ?step ?done)
  case step =>
    rintro j u s' hj ⟨kA, e, Hj, sHj, nHj, J, nk', hk⟩
    simp only [Nat.zero_add] at hk ⊢
    have fkj : FpOk X ((a, seqObj "list" #[] e1) :: pins) Hj (a + 2) := ⟨nHj, fk.2⟩
    have hjl : j < us.length := (List.getElem?_eq_some_iff.mp hj).1
    obtain ⟨v, hvj⟩ : ∃ v, xs[j]? = some v := ⟨_, List.getElem?_eq_getElem (by omega)⟩
    have r : RelV v u := vals_at hv j hvj hj
    have hzA : kA.size ≤ us.length := by
      have h1 := hk.length
      rw [Array.length_toList, List.length_take] at h1
      omega
    have J2 : Inv X ((a + 2, seqObj "list" kA e) :: (a, seqObj "list" #[] e1) :: pins) σ Hj s' := J.pins_of fun p hp => by
      rcases List.mem_cons.mp hp with rfl | hp
      · exact ⟨nk', fkj.1, fkj.2.1, fkj.2.2.1, fun v z => nomatch z⟩
      · exact J.pin p (List.mem_append_right _ hp)
    refine wpAny_bind (wpAny_attempt (wpAny_mono (turn _ Hj s' v u (fun p hp => .tail _ (.tail _ hp)) sHj J2 (List.mem_of_getElem? hvj) r) (fun z s'' hq => ?_) fun _ _ hF => hF.elim))
    obtain ⟨T, H3, rfl, s3, eT, J3⟩ := hq
    have pk3 := J3.pin (a + 2, seqObj "list" kA e) (List.mem_append_right _ (.head _))
    have n3 : H3 (a + 2) = none := pk3.2.1
    have fk3 : FpOk X ((a, seqObj "list" #[] e1) :: pins) H3 (a + 2) := ⟨n3, fk.2⟩
    have nk3 := (J3.pin (a + 2, seqObj "list" kA e) (List.mem_append_right _ (.head _))).1
    have J4 : Inv X ((a, seqObj "list" #[] e1) :: pins) σ H3 s'' := J3.pins_of fun p hp => J3.pin p (List.mem_append_right _ (.tail _ hp))
    obtain ⟨c2, hc2⟩ : ∃ c2, (s''.heap.update (a + 2) (Obj.mapSeq (·.push (.ref T)))).get? (a + 2) = some (seqObj "list" (kA.push (.ref T)) c2) := ⟨_, get?_update_seq nk3 (·.push (.ref T))⟩
    have sb := Heap.SameBut.update s''.heap (a + 2) (Obj.mapSeq (·.push (.ref T)))
    try dsimp only
    refine wpAny_bind (listUpdate_at nk3 rfl ?_ (Nat.le_trans hzA hz) (Nat.le_trans (Nat.le_of_eq (Array.size_push ..)) (Nat.succ_le_succ (Nat.le_trans hzA hz))))
    have J5 : Inv X ((a, seqObj "list" #[] e1) :: pins) σ H3 { s'' with heap := s''.heap.update (a + 2) (Obj.mapSeq (·.push (.ref T))) } := by
      have := J4.turnedL (h' := s''.heap.update (a + 2) (Obj.mapSeq (·.push (.ref T)))) (t' := s''.toks) (ch := [a + 2]) (fun b o hb q => (sb.2 b fun z => hb (by rw [z]; exact List.mem_singleton.mpr rfl)).trans q) (fun b hb => by rw [List.mem_singleton.mp hb]; exact fk3)
      exact this
    refine wpAny_pure ⟨rfl, kA.push (.ref T), c2, H3, sHj.trans s3, n3, J5, hc2, ?_⟩
    have ek : xs.take (j + 1) = xs.take j ++ [v] := by rw [List.take_add_one, hvj]; rfl
    rw [Array.toList_push, ek]
    refine PySem.W.each_snoc (R := fun (u : Value) (v : V) => ∃ T, u = Value.ref T ∧ H3 T = some (.tup (key v))) ⟨T, rfl, eT⟩ ?_
    have up : ∀ {us : List Value} {ys : List V}, PySem.W.EachIs (fun u (v : V) => ∃ T, u = Value.ref T ∧ Hj T = some (.tup (key v))) us ys → PySem.W.EachIs (fun u (v : V) => ∃ T, u = Value.ref T ∧ H3 T = some (.tup (key v))) us ys := by
      intro us ys h
      induction h with
      | nil => exact .nil
      | cons h _ ih =>
        obtain ⟨T, e1, e2⟩ := h
        exact .cons ⟨T, e1, s3 _ _ e2⟩ ih
    exact up hk
  case done =>
    rintro s' ⟨kA, e, Hj, sHj, nHj, J, nk', hk⟩
    have hk1 : PySem.W.EachIs (fun u (v : V) => ∃ T, u = Value.ref T ∧ Hj T = some (.tup (key v))) kA.toList xs := by
      have e3 : xs.take (0 + us.length) = xs := List.take_of_length_le (by omega)
      rw [e3] at hk
      exact hk
    have hsz : kA.size = us.length := by
      have h1 := hk1.length
      rw [Array.length_toList] at h1
      omega
    have pa := J.pin (a, seqObj "list" #[] e1) (List.mem_append_right _ (.head _))
    have na' := pa.1
    have nHa : Hj a = none := pa.2.1
    have hk2 : PySem.W.EachIs (fun v d => ∃ as, Reads s'.heap v d as) kA.toList (xs.map fun v => keyD (key v)) := by
      have h2 : ∀ (us : List Value) (ys : List V), (∀ v ∈ ys, ∀ y ∈ key v, Flt y) → PySem.W.EachIs (fun u (v : V) => ∃ T, u = Value.ref T ∧ Hj T = some (.tup (key v))) us ys → PySem.W.EachIs (fun v d => ∃ as, Reads s'.heap v d as) us (ys.map fun v => keyD (key v)) := by
        intro us ys hf h
        induction ys generalizing us with
        | nil => cases h; exact .nil
        | cons y ys ih =>
          cases h with
          | cons h t =>
            obtain ⟨T, rfl, eT⟩ := h
            exact .cons (Dp.reads J _ (.ref T) _ (.tup (SqT.of eT) (fltD_all fun z hz => hf y (.head _) z hz)) rfl) (ih _ (fun v hv => hf v (.tail _ hv)) t)
      exact h2 _ _ hfl hk1
    have hdp : ∀ d, d ∈ (xs.map fun v => keyD (key v)) → A.units + d.depth < cLine := fun d hd => by
      obtain ⟨v, _, rfl⟩ := List.mem_map.mp hd
      have := keyD_depth (key v)
      omega
    have sb := Heap.SameBut.update s'.heap (a + 2) fun o => { o with data := .freed }
    have kp : PySem.W.KeepsBut a (s'.heap.update (a + 2) fun o => { o with data := .freed }) s'.heap := fun b o hb q => by
      by_cases hb2 : b = a + 2
      · rw [hb2, freed_get] at q
        cases q
      · exact ((sb.2 b hb2).symm.trans q)
    try dsimp only
    refine wpAny_bind (listItems_at nk' rfl ?_)
    refine PySem.W.keyH_end (κ := PySem.W.dataKind s'.heap (xs.map fun v => keyD (key v))) (h₁ := s'.heap.update (a + 2) fun o => { o with data := .freed }) kp freed_get nk' na' (show a + 2 ≠ a by omega) (PySem.W.SortsAt.data (s := s') hk2 hal hso hdp) hsz hz fun h3 tk3 c k3 n3 => ?_
    have ko : PySem.W.KeyedOut false (xs.map fun v => keyD (key v)) us (PySem.W.sortVals (PySem.W.dataKind s'.heap (xs.map fun v => keyD (key v))) false kA.toList us) := ⟨s'.heap, kA.toList, hal, rfl, hk2⟩
    have hR : PySem.W.EachIs (fun (u : Value) (v : V) => RelV v u) us xs := by
      have h2 : ∀ (xs : List V) (us : List Value), Vals xs us → PySem.W.EachIs (fun (u : Value) (v : V) => RelV v u) us xs := by
        intro xs us h
        induction h with
        | nil => exact .nil
        | cons a _ ih => exact .cons a ih
      exact h2 _ _ hv
    have hO := PySem.W.keyedOut_each (fun v => keyD (key v)) ko hR
    have hV : Vals (xs.mergeSort (PySem.W.dataLe false fun v => keyD (key v))) (PySem.W.sortVals (PySem.W.dataKind s'.heap (xs.map fun v => keyD (key v))) false kA.toList us) := by
      have h2 : ∀ (us : List Value) (xs : List V), PySem.W.EachIs (fun (u : Value) (v : V) => RelV v u) us xs → Vals xs us := by
        intro us xs h
        induction h with
        | nil => exact .nil
        | cons a _ ih => exact .cons a ih
      exact h2 _ _ hO
    have J1 : Inv X pins σ Hj s' := J.pins_of fun p hp => J.pin p (List.mem_append_right _ (.tail _ hp))
    have J6 := J1.turnedL (h' := h3) (t' := tk3) (ch := [a, a + 2]) (fun b o hb q => by
      have n1 : b ≠ a := fun z => hb (by rw [z]; exact .head _)
      have n2 : b ≠ a + 2 := fun z => hb (by rw [z]; exact .tail _ (.head _))
      exact k3 b o n1 ((sb.2 b n2).trans q)) (fun b hb => by
      rcases List.mem_cons.mp hb with rfl | hb
      · exact ⟨nHa, fa0.2⟩
      · rw [List.mem_singleton.mp hb]
        exact ⟨nHj, fk0.2⟩)
    refine fin _ Hj sHj nHa (inv_track J6 ⟨nHa, fa0.2⟩ hV ?_ n3)
    rw [List.length_mergeSort]
    omega
end
end LT
set_option Elab.async false
set_option linter.all false
set_option maxRecDepth 100000
set_option maxHeartbeats 1600000
/-! Own layer: sorted(e, key=lambda x: a new tuple). -/
namespace LT
open PySem PySem.Spec PyProof.Rows L2 LamX
def tSortLamT (K : PySem.W.Frag) (T : List (Addr × Str)) (ta : TA) (tb : TE) : TE := fun σ H Q => ta σ H (oneOf fun z H1 => Tabs T H1 ∧ ∃ (q : Addr) (xs : List V) (key : V → List V), z = .ref q ∧ (SqL K H1 q xs ∨ SqT K H1 q xs) ∧ (∀ v ∈ xs, ∀ y ∈ key v, Flt y) ∧ PySem.W.AllAlike (xs.map fun v => keyD (key v)) ∧ PySem.W.Sortable (xs.map fun v => keyD (key v)) ∧
    ∀ H2, ExtN H1 H2 → Tabs T H2 → (∀ v ∈ xs, ∀ H3, Same H2 H3 → ∀ Q' : VK, (∀ u, H3 u = none → Q' (.ref u) (upd H3 u (.tup (key v)))) → tb (some v :: σ) H3 Q') ∧ ∀ l H3, Same H2 H3 → H3 l = none → Q (.ref l) (upd H3 l (.lst (xs.mergeSort (PySem.W.dataLe false fun v => keyD (key v))))))
section
variable {X : Cx}
/-- sorted(e, key=lambda x: body) -/
theorem pe_sortedLamT {T : List (Addr × Str)} {c P : Addr} {x : Str} {k : Nat} {params : Arguments} {body e : Expr} {scope : Scope} {ta : TA} {tb : TE} {p lpos kpos pos : Pos} (hg : Gl X "sorted") (hm : X.mg "sorted" = none) (ha : PA X [e] ta)
    (hst : X.stack = X.env :: X.outer) (hfr : X.env.frame = some X.env.locals) (TB : TabB X.base X.mg c P) (hcode : X.env.code = .ref c) (hmT : (P, X.env.qual ++ "<lambda>") ∈ T) (hu : ∀ p ∈ T, p.1 = P → p.2 = X.env.qual ++ "<lambda>")
    (L : LamP X.env.scope scope x) (hx : x ∉ X.N) (hdef : defaultsOf params X.env = ([], [])) (hbind : ∀ (q : Str) (cl : List (Str × Addr)) (pm cv ctv u : Value), bindArgs (PySem.W.kla_fn "<lambda>" q params body scope cl pm cv ctv) ⟨[u], []⟩ = pure [(x, u)]) (hr : Room (k + 8) X.A)
    (hbody : ∀ (A : Around) (outer : List Env) (s : Shared) (H : Hp) (f c' : Addr), Room k (A.deeper (lamEnv X scope s.heap.objs.size f c')) → PE (lamCxP noX X A outer s H noE scope f c' x) body tb)
    (hv : bootBuiltins "sorted" = some (.builtin "sorted"))
    (he : backTo pos (starEach [e] X.env) = (false, eval e X.env) :: backTo pos (starEach [] X.env) := by rfl) (hpl : (backTo pos (starEach [e] X.env)).any (·.1) = false := by rfl)  :
    PE X (.Call (.Name "sorted" p) [e] [⟨some "key", .Lambda params body scope lpos, kpos⟩] pos) (tSortLamT X.K T ta tb) := by
  refine ⟨fun pins s σ H Q I h => ?_⟩
  refine wpAny_Call_Name_kw (ld_blt I hg hm hv ?_)
  refine PyProof.Rows.callWith_kw (thn (ha.run pos pins s σ H (oneOf fun z H1 => Tabs T H1 ∧ ∃ (q : Addr) (xs : List V) (key : V → List V), z = .ref q ∧ (SqL X.K H1 q xs ∨ SqT X.K H1 q xs) ∧ (∀ v ∈ xs, ∀ y ∈ key v, Flt y) ∧ PySem.W.AllAlike (xs.map fun v => keyD (key v)) ∧ PySem.W.Sortable (xs.map fun v => keyD (key v)) ∧
    ∀ H2, ExtN H1 H2 → Tabs T H2 → (∀ v ∈ xs, ∀ H3, Same H2 H3 → ∀ Q' : VK, (∀ u, H3 u = none → Q' (.ref u) (upd H3 u (.tup (key v)))) → tb (some v :: σ) H3 Q') ∧ ∀ l H3, Same H2 H3 → H3 l = none → Q (.ref l) (upd H3 l (.lst (xs.mergeSort (PySem.W.dataLe false fun v => keyD (key v)))))) I h) fun us s1 ⟨vs, H1, I1, r1, q1⟩ => ?_) he hpl (by rfl) (by rfl)
  match vs, q1 with
  | [z], q1 =>
  have q1 : Tabs T H1 ∧ ∃ (q : Addr) (xs : List V) (key : V → List V), z = .ref q ∧ (SqL X.K H1 q xs ∨ SqT X.K H1 q xs) ∧ (∀ v ∈ xs, ∀ y ∈ key v, Flt y) ∧ PySem.W.AllAlike (xs.map fun v => keyD (key v)) ∧ PySem.W.Sortable (xs.map fun v => keyD (key v)) ∧
    ∀ H2, ExtN H1 H2 → Tabs T H2 → (∀ v ∈ xs, ∀ H3, Same H2 H3 → ∀ Q' : VK, (∀ u, H3 u = none → Q' (.ref u) (upd H3 u (.tup (key v)))) → tb (some v :: σ) H3 Q') ∧ ∀ l H3, Same H2 H3 → H3 l = none → Q (.ref l) (upd H3 l (.lst (xs.mergeSort (PySem.W.dataLe false fun v => keyD (key v))))) := q1
  show wpAny _ _ (evalAll ((do let v ← eval (.Lambda params body scope lpos) X.env; standAt pos; pure v) :: (backToKw pos (keywordEach [] X.env)).map (·.2))) _ _ s1
  obtain ⟨hT, q, xs, key, rfl, hq, hfl, hal, hso, h2⟩ := q1
  refine wpAny_evalAll_cons (wpAny_bind (lam_make2 I1 TB hcode hmT hu hT hdef (L.has I1.ok) fun f c' pm ctv H2 s2 I2 eN T2 hf hfn hfs hco => wpAny_bind (wpAny_standAt (wpAny_pure ?_))))
  refine wpAny_evalAll_nil ?_
  obtain ⟨hb, hQ⟩ := h2 H2 eN T2
  obtain ⟨n1, n2⟩ := stk_free hst hfr hfs
  have I3 : Inv X ((f, PySem.W.kla_obj "<lambda>" (X.env.qual ++ "<lambda>") params body scope (cloFrom X.env.cells scope.names []) pm c' ctv) :: pins) σ H2 s2 := I2.pins_of fun p hp => by
    rcases List.mem_cons.mp hp with rfl | hp
    · exact ⟨hf, hfn, n1, n2, fun v z => nomatch z⟩
    · exact I2.pin p (List.mem_append_right _ hp)
  cases r1 with
  | cons r1 r0 =>
    cases r0
    cases r1
    show wpAny (model X.prog X.w) X.A (call (.builtin "sorted") [.ref q] [(Str.ofString "key", .ref f)]) _ _ s2
    have seq : ∃ (T : String) (o : Obj) (its : List Value) (n : Nat), (T = "list" ∨ T = "tuple") ∧ s2.heap.get? q = some o ∧ o.cls = .type T ∧ o.data = .seq its.toArray n ∧ Vals xs its ∧ its.length ≤ sizeLine := by
      rcases hq with hq | hq
      · obtain ⟨its, hv, ⟨o, n, e1, e2, _, e4⟩, hl⟩ := I2.list (extN_seqL eN hq)
        exact ⟨"list", o, its, n, .inl rfl, e1, e2, e4, hv, by rw [← hv.length]; exact hl⟩
      · obtain ⟨its, hv, ⟨o, e1, e2, n, e4⟩, hl⟩ := I2.tuple (extN_seqT eN hq)
        exact ⟨"tuple", o, its, n, .inr rfl, e1, e2, e4, hv, by rw [← hv.length]; exact hl⟩
    obtain ⟨T', o, its, n, hT', e1, e2, e3, hvs, hl⟩ := seq
    refine sorted_seq hT' e1 e2 e3 hl (ksk_s1 _ _) (fun _ => ksk_l1 _ _) fun E' g hg => ?_
    rw [ksk_t1]
    have I4 : Inv X ((f, PySem.W.kla_obj "<lambda>" (X.env.qual ++ "<lambda>") params body scope (cloFrom X.env.cells scope.names []) pm c' ctv) :: pins) σ H2 { s2 with heap := g } := by
      have := I3.kept (h' := g) (t' := s2.toks) hg
      exact this
    have hr2 : Room (k + 6) X.A.in1.in1 := hr.in1.in1
    refine sort_keyedT (key := key) I4 hvs hl hr2.units hfl hal hso (fun pins' H' s' v u hp sH J hv r => ?_) fun s' H' sH hn J => ⟨rfl, .ref g.objs.size, _, J.pins_of fun p hp => J.pin p (List.mem_append_right _ (.tail _ hp)), rfl, hQ _ _ sH hn⟩
    have hf' := (J.pin _ (List.mem_append_right _ (hp _ (.head _)))).1
    refine wpAny_call (codeAny_mono (lam_run (CX := noX) (E := noE) (Q := fun z H'' => ∃ u, z = .ref u ∧ H' u = none ∧ H'' = upd H' u (.tup (key v))) (k := k) J L hx (in1_env0 J) Un.refl hf' (sH _ _ hco) (hbind _ _ _ _ _ _) r (hr2.mono (by omega)) (fun hr3 => hbody _ _ _ _ _ _ hr3) (hb v hv H' sH _ fun u hu => ⟨u, rfl, hu, rfl⟩)) fun res s'' hq => ?_)
    match res, hq with
    | .error _, hq => exact hq.elim
    | .ok .next, hq => exact hq.elim
    | .ok .brk, hq => exact hq.elim
    | .ok .cont, hq => exact hq.elim
    | .ok (.ret z), hq =>
      obtain ⟨z', H'', J', rz, u, rfl, hu, rfl⟩ := J.after hq
      cases rz
      exact ⟨u, _, rfl, same_upd hu, upd_same, J'⟩
end
end LT
set_option Elab.async false
set_option linter.all false
set_option maxRecDepth 100000
set_option maxHeartbeats 1600000
/-! Own layer: entries of a book: sorted, one way only. -/
namespace LT
open PySem PySem.Spec PyProof.Rows L2 NdefX
def evKey (e : Evt) : List V := [.str (kindS e.mv), .int e.kn, .str e.who, .int e.day]
def evLe : Evt → Evt → Bool := PySem.W.dataLe false fun e => keyD (evKey e)
theorem evLe_tot : ∀ a b : Evt, (evLe a b || evLe b a) = true := fun a b => Bool.or_eq_true_iff.mpr ((PySem.W.sortLe_total (PyProof.Rows.listOrd PyProof.Rows.itemOrd) false fun e : Evt => PySem.W.keyToks (keyD (evKey e))).total a b)
theorem evLe_tr : ∀ a b c : Evt, evLe a b = true → evLe b c = true → evLe a c = true := fun a b c => (PySem.W.sortLe_total (PyProof.Rows.listOrd PyProof.Rows.itemOrd) false fun e : Evt => PySem.W.keyToks (keyD (evKey e))).trans a b c
theorem kindS_inj {a b : Bool} (h : kindS a = kindS b) : a = b := by
  have := kind_eq a b
  rw [h, decide_eq_true (show V.str (kindS b) = V.str (kindS b) from rfl)] at this
  exact of_decide_eq_true this.symm
def EvSame (a b : Evt) : Prop := a.mv = b.mv ∧ a.kn = b.kn ∧ a.who = b.who ∧ a.day = b.day
theorem toks_inj {a b : Evt} (h : PySem.W.keyToks (keyD (evKey a)) = PySem.W.keyToks (keyD (evKey b))) : EvSame a b := by
  simp [keyD, evKey, fltD, PySem.W.keyToks, PySem.W.keyToksAll] at h
  exact ⟨kindS_inj (str_eq (by rw [h.1])), h.2.1, str_eq (by rw [h.2.2.1]), h.2.2.2⟩
theorem evLe_anti {a b : Evt} (h1 : evLe a b = true) (h2 : evLe b a = true) : EvSame a b := by
  refine toks_inj ((PyProof.Rows.listOrd PyProof.Rows.itemOrd).total _ _ ?_ ?_)
  · unfold evLe at h2
    rw [PySem.W.dataLe_eq] at h2
    have h2 : (!PySem.W.dataLt (keyD (evKey a)) (keyD (evKey b))) = true := h2
    have h2 : PySem.W.dataLt (keyD (evKey a)) (keyD (evKey b)) = false := by simpa using h2
    exact h2
  · unfold evLe at h1
    rw [PySem.W.dataLe_eq] at h1
    have h1 : (!PySem.W.dataLt (keyD (evKey b)) (keyD (evKey a))) = true := h1
    have h1 : PySem.W.dataLt (keyD (evKey b)) (keyD (evKey a)) = false := by simpa using h1
    exact h1
/-- what was told last of a day on a known one -/
def entA (es : List Evt) (mv : Bool) (who : Str) (d kn : Int) : Option V := getA ((getA (histE es mv who) d).getD []) kn
structure IsEnts (es L : List Evt) : Prop where
  up : L.Pairwise fun a b => evLe a b = true
  nd : L.Pairwise fun a b => ¬ EvSame a b
  mem : ∀ e, e ∈ L ↔ entA es e.mv e.who e.day e.kn = some e.w
theorem evt_ext {a b : Evt} (h : EvSame a b) (hw : a.w = b.w) : a = b := by
  obtain ⟨h1, h2, h3, h4⟩ := h
  cases a
  cases b
  simp only at h1 h2 h3 h4 hw
  subst h1 h2 h3 h4 hw
  rfl
theorem IsEnts.nodup {es L : List Evt} (h : IsEnts es L) : L.Nodup := h.nd.imp fun hn e => hn (by rw [e]; exact ⟨rfl, rfl, rfl, rfl⟩)
theorem IsEnts.uniq {es L L' : List Evt} (h : IsEnts es L) (k : IsEnts es L') : L = L' := by
  have p : L.Perm L' := (List.perm_ext_iff_of_nodup h.nodup k.nodup).mpr fun e => (h.mem e).trans (k.mem e).symm
  refine List.Perm.eq_of_pairwise (le := fun a b => evLe a b = true) (fun a b ha hb h1 h2 => ?_) h.up k.up p
  have s := evLe_anti h1 h2
  have ea := (h.mem a).mp ha
  have eb := (k.mem b).mp hb
  rw [s.1, s.2.1, s.2.2.1, s.2.2.2, eb] at ea
  exact evt_ext s (Option.some.inj ea).symm
theorem ents_of {es L : List Evt} (nd : L.Pairwise fun a b => ¬ EvSame a b) (mem : ∀ e, e ∈ L ↔ entA es e.mv e.who e.day e.kn = some e.w) : IsEnts es (L.mergeSort evLe) := by
  have p := List.mergeSort_perm L evLe
  refine ⟨List.pairwise_mergeSort evLe_tr evLe_tot L, ?_, fun e => ?_⟩
  · refine p.symm.pairwise nd fun h s => h ⟨s.1.symm, s.2.1.symm, s.2.2.1.symm, s.2.2.2.symm⟩
  · rw [p.mem_iff]
    exact mem e
/-! ### on the heap -/
def evOfO : Option HO → Evt
  | some (.tup [.str k, .int kn, .str who, .int d, w]) => ⟨decide (k = kindS true), kn, who, d, w⟩
  | _ => ⟨true, 0, Str.empty, 0, .non⟩
def evOfV (H : Hp) : V → Evt
  | .ref t => evOfO (H t)
  | _ => evOfO none
theorem evOf_is {H : Hp} {t : Addr} {e : Evt} (h : EvT H t e) : evOfV H (.ref t) = e := by
  have h : H t = some (.tup [.str (kindS e.mv), .int e.kn, .str e.who, .int e.day, e.w]) := h
  show evOfO (H t) = e
  rw [h]
  obtain ⟨mv, kn, who, d, w⟩ := e
  show (⟨decide (kindS mv = kindS true), kn, who, d, w⟩ : Evt) = _
  have : decide (kindS mv = kindS true) = mv := by cases mv <;> decide +kernel
  rw [this]
theorem ents_sorted {H : Hp} {ts : List Addr} {L : List Evt} (h : Paired (EvT H) ts L) : ∃ ts' : List Addr, (ts.map V.ref).mergeSort (PySem.W.dataLe false fun v => keyD (evKey (evOfV H v))) = ts'.map V.ref ∧ Paired (EvT H) ts' (L.mergeSort evLe) := by
  have eL : (ts.map V.ref).map (evOfV H) = L := by
    induction h with
    | nil => rfl
    | cons r _ ih =>
      rw [List.map_cons, List.map_cons, ih, evOf_is r]
  have all : ∀ v ∈ ts.map V.ref, ∃ t, v = V.ref t ∧ EvT H t (evOfV H v) := fun v hv => by
    obtain ⟨i, hi⟩ := List.getElem?_of_mem hv
    rw [List.getElem?_map, Option.map_eq_some_iff] at hi
    obtain ⟨t, ht, rfl⟩ := hi
    obtain ⟨e, _, r⟩ := paired_get h ht
    exact ⟨t, rfl, by rw [evOf_is r]; exact r⟩
  have em := List.map_mergeSort (r := PySem.W.dataLe false fun v => keyD (evKey (evOfV H v))) (s := evLe) (f := evOfV H) (l := ts.map V.ref) fun a _ b _ => rfl
  rw [eL] at em
  have p := List.mergeSort_perm (ts.map V.ref) (PySem.W.dataLe false fun v => keyD (evKey (evOfV H v)))
  rw [← em]
  generalize (ts.map V.ref).mergeSort (PySem.W.dataLe false fun v => keyD (evKey (evOfV H v))) = M at *
  have all2 : ∀ v ∈ M, ∃ t, v = V.ref t ∧ EvT H t (evOfV H v) := fun v hv => all v (p.mem_iff.mp hv)
  clear em p
  induction M with
  | nil => exact ⟨[], rfl, .nil⟩
  | cons v M ih =>
    obtain ⟨t, rfl, r⟩ := all2 v List.mem_cons_self
    obtain ⟨ts', e1, e2⟩ := ih fun w hw => all2 w (List.mem_cons_of_mem _ hw)
    exact ⟨t :: ts', by rw [e1]; rfl, .cons r e2⟩
theorem alike_ev (a b : Evt) : PySem.W.alike (keyD (evKey a)) (keyD (evKey b)) = true := by
  simp [keyD, evKey, fltD, PySem.W.alike, PySem.W.alikeAll]
/-! ### what the book goes through -/
theorem flatH_mem {h : Hist} {kn d : Int} {w : V} : (kn, d, w) ∈ flatH h ↔ ∃ t, (d, t) ∈ h ∧ (kn, w) ∈ t := by
  unfold flatH
  rw [List.mem_flatMap]
  constructor
  · rintro ⟨p, hp, hm⟩
    obtain ⟨q, hq, e⟩ := List.mem_map.mp hm
    cases e
    exact ⟨p.2, hp, hq⟩
  · rintro ⟨t, ht, hq⟩
    exact ⟨(d, t), ht, List.mem_map.mpr ⟨(kn, w), hq, rfl⟩⟩
theorem entA_mem {es : List Evt} {mv : Bool} {who : Str} {d kn : Int} {w : V} : (kn, d, w) ∈ flatH (histE es mv who) ↔ entA es mv who d kn = some w := by
  rw [flatH_mem]
  have nk := (hist_keys mv who es).1
  unfold entA
  constructor
  · rintro ⟨t, ht, hq⟩
    have e := getA_of_mem nk ht
    rw [e]
    exact getA_of_mem (hist_of mv who es d t e).1 hq
  · intro h
    cases e : getA (histE es mv who) d with
    | none =>
      rw [e] at h
      cases h
    | some t =>
      rw [e] at h
      exact ⟨t, getA_mem e, getA_mem h⟩
theorem entA_ev {es : List Evt} {mv : Bool} {who : Str} {d kn : Int} {w : V} (h : entA es mv who d kn = some w) : ∃ e ∈ es, e.mv = mv ∧ e.who = who := by
  unfold entA at h
  cases e : getA (histE es mv who) d with
  | none =>
    rw [e] at h
    cases h
  | some t =>
    rw [e] at h
    obtain ⟨e', h1, h2, _⟩ := (hist_of mv who es d t e).2.2.2 _ (getA_mem h)
    exact ⟨e', h1, h2⟩
theorem flatH_nd {es : List Evt} {mv : Bool} {who : Str} : (flatH (histE es mv who)).Pairwise fun a b => ¬ (a.1 = b.1 ∧ a.2.1 = b.2.1) := by
  have nk := (hist_keys mv who es).1
  unfold flatH
  rw [List.pairwise_flatMap]
  refine ⟨fun p hp => ?_, ?_⟩
  · have nt := (hist_of mv who es p.1 p.2 (getA_of_mem nk hp)).1
    rw [List.pairwise_map]
    have : p.2.Pairwise fun a b => a.1 ≠ b.1 := List.pairwise_map.mp nt
    exact this.imp fun h e => h e.1
  · have : (histE es mv who).Pairwise fun a b => a.1 ≠ b.1 := List.pairwise_map.mp nk
    refine this.imp fun {a b} h x hx y hy e => h ?_
    obtain ⟨q, _, rfl⟩ := List.mem_map.mp hx
    obtain ⟨r, _, rfl⟩ := List.mem_map.mp hy
    exact e.2
def flatE (mv : Bool) (hs : List (Str × HA)) : List Evt := hs.flatMap fun p => (flatH p.2.h).map fun q => ⟨mv, q.1, p.1, q.2.1, q.2.2⟩
def entL (B : BA) : List Evt := flatE false B.ld ++ flatE true B.mv
theorem flatE_nd {mv : Bool} {es : List Evt} {hs : List (Str × HA)} (nk : (hs.map (·.1)).Nodup) (hh : ∀ p ∈ hs, p.2.h = histE es mv p.1) : (flatE mv hs).Pairwise fun a b => ¬ EvSame a b := by
  unfold flatE
  rw [List.pairwise_flatMap]
  refine ⟨fun p hp => ?_, ?_⟩
  · rw [List.pairwise_map, hh p hp]
    exact flatH_nd.imp fun h e => h ⟨e.2.1, e.2.2.2⟩
  · have : hs.Pairwise fun a b => a.1 ≠ b.1 := List.pairwise_map.mp nk
    refine this.imp fun {a b} h x hx y hy e => h ?_
    obtain ⟨q, _, rfl⟩ := List.mem_map.mp hx
    obtain ⟨r, _, rfl⟩ := List.mem_map.mp hy
    exact e.2.2.1
theorem flatE_mem {mv : Bool} {es : List Evt} {hs : List (Str × HA)} (hh : ∀ p ∈ hs, p.2.h = histE es mv p.1) {e : Evt} : e ∈ flatE mv hs ↔ e.mv = mv ∧ e.who ∈ hs.map (·.1) ∧ entA es e.mv e.who e.day e.kn = some e.w := by
  unfold flatE
  rw [List.mem_flatMap]
  constructor
  · rintro ⟨p, hp, hm⟩
    obtain ⟨⟨kn, d, w⟩, hq, rfl⟩ := List.mem_map.mp hm
    rw [hh p hp] at hq
    exact ⟨rfl, List.mem_map.mpr ⟨p, hp, rfl⟩, entA_mem.mp hq⟩
  · rintro ⟨rfl, hw, h⟩
    obtain ⟨p, hp, ep⟩ := List.mem_map.mp hw
    refine ⟨p, hp, List.mem_map.mpr ⟨(e.kn, e.day, e.w), ?_, ?_⟩⟩
    · rw [hh p hp, ep]
      exact entA_mem.mpr h
    · rw [ep]
theorem entL_is {B : BA} (b : BkP B) : IsEnts B.es ((entL B).mergeSort evLe) := by
  refine ents_of ?_ fun e => ?_
  · unfold entL
    rw [List.pairwise_append]
    refine ⟨flatE_nd b.lk b.hl, flatE_nd (by rw [b.km]; exact b.rk.nd) b.hm, fun x hx y hy s => ?_⟩
    have h1 := ((flatE_mem b.hl).mp hx).1
    have h2 := ((flatE_mem b.hm).mp hy).1
    have := s.1
    rw [h1, h2] at this
    cases this
  · unfold entL
    rw [List.mem_append, flatE_mem b.hl, flatE_mem b.hm]
    constructor
    · rintro (⟨_, _, h⟩ | ⟨_, _, h⟩) <;> exact h
    · intro h
      obtain ⟨e', he, h1, h2⟩ := entA_ev h
      cases hm : e.mv with
      | false => exact .inl ⟨rfl, by rw [← h2]; exact b.ln e' he (by rw [h1, hm]), by rw [hm] at h; exact h⟩
      | true => exact .inr ⟨rfl, by rw [b.km, ← h2]; exact ((b.ev e' he).mw (by rw [h1, hm])).1, by rw [hm] at h; exact h⟩
end LT
set_option Elab.async false
set_option linter.all false
set_option maxRecDepth 100000
set_option maxHeartbeats 1600000
/-! Own layer: a += b of lists; entries of a book, its promise. -/
namespace LT
open PySem PySem.Spec PyProof.Rows L2 NdefX LamX
theorem fillI_list : fillsInplaceSlot (.type "list") "add" (Operator.Add == .Add) = pure false := by
  unfold fillsInplaceSlot
  show (typeLookup (.type "list") (dunderI "add") >>= fun fi => pure (fi.isSome && !isSeqSlot fi)) = pure false
  rw [PySem.F.slot_list_iadd.lookup]
  simp only [pure_bind, show isSeqSlot (some (.builtin "list.__iadd__")) = true by decide +kernel]
  rfl
theorem seqI_list : seqSlot? (.type "list") (dunderI "add") = pure (some (.builtin "list.__iadd__")) := PySem.seqSlot_of PySem.F.slot_list_iadd.lookup (by decide +kernel)
theorem call_iadd {prog : Program} {w : World} {A : Around} {E : Value → Shared → Prop} {s : Shared} {a b : Addr} {xs ys : Array Value} {n m : Nat} {Q : Value → Shared → Prop}
    (ha : s.heap.get? a = some { cls := .type "list", data := .seq xs n }) (hb : s.heap.get? b = some { cls := .type "list", data := .seq ys m }) (hz : xs.size + ys.size ≤ sizeLine)
    (h : Q (.ref a) { s with heap := s.heap.update a (Obj.mapSeq (· ++ ys)) }) : wpAny (model prog w) A (call (.builtin "list.__iadd__") [.ref a, .ref b]) Q E s := by
  have hl : ¬(!xs.isEmpty && Builtin.List.listTooLong (xs.size + ys.size)) = true := extend_door hz
  refine wpAny_call (codeAny_call_builtin PySem.F.slot_list_iadd.plain PySem.F.entry_list_iadd (PySem.F.slot_list_iadd.check _ _ _ _ _ _ _ _ (show s.TypeIs (.ref a) "list" from ⟨_, ha, rfl⟩) (PySem.F.args_list_iadd_2 _ _) ?_))
  show wpAny _ A.in1 (Builtin.List.listExtendWith (.ref a) (.ref b) (.ref a)) _ _ _
  unfold Builtin.List.listExtendWith
  refine wpAny_bind (wpAny_typeOf ⟨_, hb, rfl⟩ ?_)
  have h1 : (Builtin.List.listSameRef (.ref a) (.ref b) || Value.type "list" == Value.type "list" || Value.type "list" == Value.type "tuple") = true := by simp
  simp only [h1, if_true]
  refine wpAny_bind ?_
  unfold Builtin.List.listItems
  refine wpAny_bind (wpAny_seqItems hb rfl (wpAny_pure ?_))
  refine wpAny_bind ?_
  refine wpAny_bind (wpAny_seqItems ha rfl (wpAny_pure ?_))
  rw [if_neg hl]
  show wpAny _ A.in1 (updateSeq a (· ++ ys) >>= fun _ => ret (.ref a)) _ _ s
  refine wpAny_bind (wpAny_updateSeq ha rfl ?_)
  exact wpAny_pure h
theorem iadd_list {prog : Program} {w : World} {A : Around} {E : Value → Shared → Prop} {s : Shared} {a b : Addr} {xs ys : Array Value} {n m : Nat} {Q : Value → Shared → Prop}
    (ha : s.heap.get? a = some { cls := .type "list", data := .seq xs n }) (hb : s.heap.get? b = some { cls := .type "list", data := .seq ys m }) (hz : xs.size + ys.size ≤ sizeLine)
    (h : Q (.ref a) { s with heap := s.heap.update a (Obj.mapSeq (· ++ ys)) }) : wpAny (model prog w) A (inplaceOp .Add (.ref a) (.ref b)) Q E s := by
  unfold inplaceOp
  refine wpAny_holding ?_
  refine wpAny_bind (wpAny_typeOf ⟨_, ha, rfl⟩ (wpAny_bind (wpAny_of_eq fillI_list ?_)))
  show wpAny _ A (if false = true then _ else _) Q E s
  rw [if_neg Bool.false_ne_true]
  refine wpAny_bind (wpAny_binaryOp1_none (nm := "add") ⟨_, ha, rfl⟩ ⟨_, hb, rfl⟩ PySem.noFill_list_add ?_)
  refine wpAny_bind (wpAny_of_eq seqI_list ?_)
  refine wpAny_bind (wpAny_rule ?_)
  exact call_iadd ha hb hz h
def ipCat : TIp := fun x y H Q => ∃ a b xs ys, x = .ref a ∧ y = .ref b ∧ H a = some (.lst xs) ∧ H b = some (.lst ys) ∧ xs.length + ys.length ≤ sizeLine ∧ Q (.ref a) (L2.upd H a (.lst (xs ++ ys)))
theorem ip_cat {X : Cx} : PIp X .Add ipCat := by
  intro pins s σ H x y v u Q I r1 r2 h
  obtain ⟨a, b, xs, ys, rfl, rfl, ha, hb, hz, q⟩ := h
  cases r1
  cases r2
  obtain ⟨z, its, n, r, hl, e⟩ := I.lstM ha
  obtain ⟨z2, its2, n2, r2, hl2, e2⟩ := I.lstM hb
  refine iadd_list e e2 (by rw [List.size_toArray, List.size_toArray]; omega) ?_
  refine ⟨.ref a, _, I.lset (its' := its ++ its2) ha e (by simp) (r.append r2) ?_, rfl, q⟩
  rw [List.length_append]
  omega
theorem flat_ev {es : List Evt} {mv : Bool} {who : Str} {q : Int × Int × V} (h : q ∈ flatH (histE es mv who)) : (⟨mv, q.1, who, q.2.1, q.2.2⟩ : Evt) ∈ es := by
  obtain ⟨kn, d, w⟩ := q
  obtain ⟨t, ht, hq⟩ := flatH_mem.mp h
  have nk := (hist_keys mv who es).1
  obtain ⟨e', h1, ⟨h2, h3⟩, h4, h5, h6⟩ := (hist_of mv who es d t (getA_of_mem nk ht)).2.2.2 _ hq
  obtain ⟨a, b, c, d', w'⟩ := e'
  simp only at h2 h3 h4 h5 h6
  subst h2 h3 h4 h5 h6
  exact h1
theorem flat_le (es : List Evt) (mv : Bool) (who : Str) : (flatH (histE es mv who)).length ≤ es.length := by
  have nd : ((flatH (histE es mv who)).map fun q => (⟨mv, q.1, who, q.2.1, q.2.2⟩ : Evt)).Nodup := by
    show List.Pairwise _ _
    rw [List.pairwise_map]
    refine flatH_nd.imp fun {a b} h e => h ?_
    have e1 := congrArg Evt.kn e
    have e2 := congrArg Evt.day e
    exact ⟨e1, e2⟩
  have := List.Nodup.length_le_of_subset nd (l₂ := es) fun e he => by
    obtain ⟨q, hq, rfl⟩ := List.mem_map.mp he
    exact flat_ev hq
  rwa [List.length_map] at this
theorem entL_le {B : BA} (b : BkP B) : (entL B).length ≤ B.es.length := by
  have I := entL_is b
  have p := List.mergeSort_perm (entL B) evLe
  have nd : (entL B).Nodup := p.nodup_iff.mp I.nodup
  refine List.Nodup.length_le_of_subset nd fun e he => ?_
  unfold entL flatE at he
  rcases List.mem_append.mp he with he | he
  · obtain ⟨x, hx, he⟩ := List.mem_flatMap.mp he
    obtain ⟨q, hq, rfl⟩ := List.mem_map.mp he
    rw [b.hl x hx] at hq
    exact flat_ev hq
  · obtain ⟨x, hx, he⟩ := List.mem_flatMap.mp he
    obtain ⟨q, hq, rfl⟩ := List.mem_map.mp he
    rw [b.hm x hx] at hq
    exact flat_ev hq
theorem flatE_snoc {mv : Bool} {hs : List (Str × HA)} {i : Nat} {e : Str × HA} (he : hs[i]? = some e) : flatE mv (hs.take (i + 1)) = flatE mv (hs.take i) ++ (flatH e.2.h).map fun q => ⟨mv, q.1, e.1, q.2.1, q.2.2⟩ := by
  unfold flatE
  rw [take_snoc he, List.flatMap_append, List.flatMap_cons, List.flatMap_nil, List.append_nil]
theorem flatE_take (mv : Bool) (hs : List (Str × HA)) (i : Nat) : (flatE mv (hs.take i)).length ≤ (flatE mv hs).length := by
  have e : flatE mv hs = flatE mv (hs.take i) ++ flatE mv (hs.drop i) := by
    unfold flatE
    rw [← List.flatMap_append, List.take_append_drop]
  rw [e, List.length_append]
  omega
theorem evT_upd {H : Hp} {p t : Addr} {e : Evt} {o : HO} {xs : List V} (h : EvT H t e) (hp : H p = some (.lst xs)) : EvT (L2.upd H p o) t e := by
  show L2.upd H p o t = _
  rw [upd_ne (ne_of h hp (by intro z; cases z))]
  exact h
theorem paired_cat {α β : Type} {R : α → β → Prop} {xs xs' : List α} {ys ys' : List β} (h : Paired R xs ys) (k : Paired R xs' ys') : Paired R (xs ++ xs') (ys ++ ys') := by
  induction h with
  | nil => exact k
  | cons r _ ih => exact .cons r ih
theorem evT_frz {H : Hp} {p t : Addr} {e : Evt} {o : HO} {od : Obj} {u : HO} (h : EvT H t e) (hp : H p = some (.frz od u)) : EvT (L2.upd H p o) t e := by
  show L2.upd H p o t = _
  rw [upd_ne (ne_of h hp (by intro z; cases z))]
  exact h
theorem evT_dK {H : Hp} {p t : Addr} {e : Evt} {o : HO} {r : List (Key × V)} (h : EvT H t e) (hp : H p = some (.dK r)) : EvT (L2.upd H p o) t e := by
  show L2.upd H p o t = _
  rw [upd_ne (ne_of h hp (by intro z; cases z))]
  exact h
/-- new, but for what tables have grown by -/
def NewN (H : Hp) (a : Addr) : Prop := ∀ o, H a = some o → ∃ ps, o = .tbl ps
theorem newN_of {H H1 : Hp} {a : Addr} (e : ExtN H H1) (n : H1 a = none) : NewN H a := fun o h => by
  cases o with
  | tbl ps => exact ⟨ps, rfl⟩
  | _ =>
    have := e a _ h nofun
    rw [n] at this
    cases this
/-- what entries gives -/
def spEntries (CB CH : Addr) (T : List (Addr × Str)) : Sp := fun vs H Q _ => ∃ (b : Addr) (rk : List (Str × Int)) (es : List Evt) (fp : List Addr), vs = [.ref b] ∧ Bk CB CH H b rk es fp ∧ es.length ≤ 60 ∧ Tabs T H ∧
  ∀ (l : Addr) (ts : List Addr) (L : List Evt) (H' : Hp), NewN H l → ExtN H H' → Tabs T H' → H' l = some (.lst (ts.map V.ref)) → Paired (EvT H') ts L → IsEnts es L → Q (.ref l) H'
end LT
set_option Elab.async false
set_option linter.all false
set_option maxRecDepth 100000
set_option maxHeartbeats 1600000
/-! Own layer: what the top has left of defs and methods that make lambdas. -/
namespace LT
open PySem PySem.Spec PyProof.Rows L2 NdefX LamX
/-- of a def -/
structure LeftLd (K : PySem.W.Frag) (x : Str) (st : Stmt) (f c P : Addr) (oc : Value) (od an : Option Addr) (kV dc pm ct : Value) (sl : Array (Option Value)) (oC : Value) (dC : Option Addr) (vC : Array Value) (sC : Array (Option Value)) : Prop where
  ns : PySem.W.nsIn K mainGlobals x = some (some (.ref f))
  lk : K.lookup f = some ⟨oc, od, .func (PySem.W.fnOf x x (defArgs st) (defBody st) (defScope st) .none kV dc pm an (.ref c) ct), sl⟩
  cd : PySem.W.codeIn K (.ref c) x = true
  kp : PySem.W.keepIn K (.ref f) = true
  lC : K.lookup c = some ⟨oC, dC, .fields vC, sC⟩
  vP : vC[11]? = some (.ref P)
  hd : PySem.W.codeHdIn K c P = true
  nP : K.lookup P = none
theorem LeftLd.fn {K : PySem.W.Frag} {x : Str} {st : Stmt} {f c P : Addr} {oc : Value} {od an : Option Addr} {kV dc pm ct : Value} {sl : Array (Option Value)} {oC : Value} {dC : Option Addr} {vC : Array Value} {sC : Array (Option Value)} (h : LeftLd K x st f c P oc od an kV dc pm ct sl oC dC vC sC) :
    FunC K x x st f c (PySem.W.fnOf x x (defArgs st) (defBody st) (defScope st) .none kV dc pm an (.ref c) ct) := ⟨⟨oc, od, kV, dc, pm, an, ct, sl, rfl, h.lk, h.cd⟩, h.kp⟩
/-- of a method -/
structure LeftLm (K : PySem.W.Frag) (C : Addr) (x q : Str) (st : Stmt) (f c P : Addr) (oc : Value) (od an : Option Addr) (kV dc pm ct : Value) (sl : Array (Option Value)) (oC : Value) (dC : Option Addr) (vC : Array Value) (sC : Array (Option Value)) : Prop where
  at_ : PySem.W.findIn K (.ref C) x = some (some (.ref f))
  lk : K.lookup f = some ⟨oc, od, .func (PySem.W.fnOf x q (defArgs st) (defBody st) (defScope st) .none kV dc pm an (.ref c) ct), sl⟩
  cd : PySem.W.codeIn K (.ref c) q = true
  kp : PySem.W.keepIn K (.ref f) = true
  isf : PySem.W.isFn K (.ref f) = true
  lC : K.lookup c = some ⟨oC, dC, .fields vC, sC⟩
  vP : vC[11]? = some (.ref P)
  hd : PySem.W.codeHdIn K c P = true
  nP : K.lookup P = none
theorem LeftLm.fn {K : PySem.W.Frag} {C : Addr} {x q : Str} {st : Stmt} {f c P : Addr} {oc : Value} {od an : Option Addr} {kV dc pm ct : Value} {sl : Array (Option Value)} {oC : Value} {dC : Option Addr} {vC : Array Value} {sC : Array (Option Value)} (h : LeftLm K C x q st f c P oc od an kV dc pm ct sl oC dC vC sC) :
    FunC K x q st f c (PySem.W.fnOf x q (defArgs st) (defBody st) (defScope st) .none kV dc pm an (.ref c) ct) := ⟨⟨oc, od, kV, dc, pm, an, ct, sl, rfl, h.lk, h.cd⟩, h.kp⟩
theorem LeftLm.me {K : PySem.W.Frag} {C : Addr} {x q : Str} {st : Stmt} {f c P : Addr} {oc : Value} {od an : Option Addr} {kV dc pm ct : Value} {sl : Array (Option Value)} {oC : Value} {dC : Option Addr} {vC : Array Value} {sC : Array (Option Value)} (h : LeftLm K C x q st f c P oc od an kV dc pm ct sl oC dC vC sC) :
    Meth K C x f := ⟨h.at_, h.isf, h.kp⟩
end LT
set_option Elab.async false
set_option linter.all false
set_option maxRecDepth 100000
set_option maxHeartbeats 1600000
/-! Own layer: books where lambdas are made; book_of. -/
namespace LT
open PySem PySem.Spec PyProof.Rows L2 NdefX LamX
/-- neither a table nor a code object -/
def Plain (o : HO) : Prop := (∀ ps, o ≠ .tbl ps) ∧ ∀ c q, o ≠ CodeO c q
theorem plain_ins {C dx : Addr} {fs : List (Str × V)} : Plain (.ins C dx fs) := ⟨nofun, fun c q z => by unfold CodeO at z; cases z⟩
theorem plain_dK {r : List (Key × V)} : Plain (.dK r) := ⟨nofun, fun c q z => by unfold CodeO at z; cases z⟩
theorem plain_lst {xs : List V} : Plain (.lst xs) := ⟨nofun, fun c q z => by unfold CodeO at z; cases z⟩
theorem HistAt.pl {C : Addr} {H : Hp} {a : HA} (h : HistAt C H a) : ∀ c ∈ a.fp, ∀ o, H c = some o → Plain o := by
  intro c hc o e
  rcases List.mem_cons.mp hc with rfl | hc
  · rw [h.ix] at e
    cases e
    exact plain_ins
  rcases List.mem_cons.mp hc with rfl | hc
  · rw [h.bd] at e
    cases e
    exact plain_dK
  obtain ⟨p, hp, rfl⟩ := List.mem_map.mp hc
  obtain ⟨i, hi⟩ := List.getElem?_of_mem hp
  obtain ⟨e', _, _, h2⟩ := paired_get h.ta hi
  rw [h2] at e
  cases e
  exact plain_dK
theorem BkH.pl {CB CH : Addr} {H : Hp} {B : BA} {v : V} (h : BkH CB CH H B v) : ∀ c ∈ B.fp, ∀ o, H c = some o → Plain o := by
  intro c hc o e
  rcases List.mem_cons.mp hc with rfl | hc
  · rw [h.ix] at e
    cases e
    exact plain_ins
  rcases List.mem_cons.mp hc with rfl | hc
  · rw [h.rd] at e
    cases e
    exact plain_dK
  rcases List.mem_cons.mp hc with rfl | hc
  · rw [h.md] at e
    cases e
    exact plain_dK
  rcases List.mem_cons.mp hc with rfl | hc
  · rw [h.ldd] at e
    cases e
    exact plain_dK
  rcases List.mem_append.mp hc with hc | hc
  · obtain ⟨x, hx, hc⟩ := hsfp_mem.mp hc
    exact (h.hm x hx).pl c hc o e
  · obtain ⟨x, hx, hc⟩ := hsfp_mem.mp hc
    exact (h.hl x hx).pl c hc o e
theorem Bk.pl {CB CH : Addr} {H : Hp} {b : Addr} {rk : List (Str × Int)} {es : List Evt} {fp : List Addr} (h : Bk CB CH H b rk es fp) : ∀ c ∈ fp, ∀ o, H c = some o → Plain o := by
  obtain ⟨B, rfl, rfl, rfl, rfl, h1, _⟩ := h
  exact h1.pl
theorem Bk.extN {CB CH : Addr} {H H' : Hp} {b : Addr} {rk : List (Str × Int)} {es : List Evt} {fp : List Addr} (h : Bk CB CH H b rk es fp) (e : ExtN H H') : Bk CB CH H' b rk es fp := h.by fun c hc o x => e c o x (h.pl c hc o x).1
theorem tabs_L {T : List (Addr × Str)} {fp : List Addr} {H H' : Hp} (t : Tabs T H) (hp : ∀ c ∈ fp, ∀ o, H c = some o → Plain o) (s : SameL fp H H') : Tabs T H' := fun x hx => by
  obtain ⟨ps, h1, h2, h3⟩ := t x hx
  refine ⟨ps, s _ _ (fun m => (hp _ m _ h1).1 ps rfl) h1, h2, fun pos cv hc => ?_⟩
  obtain ⟨c, e1, e2⟩ := h3 pos cv hc
  exact ⟨c, e1, s _ _ (fun m => (hp _ m _ e2).2 c x.2 rfl) e2⟩
theorem extN_L {fp : List Addr} {H H1 H2 : Hp} (e : ExtN H H1) (n : ∀ c ∈ fp, NewN H c) (s : SameL fp H1 H2) : ExtN H H2 := fun c o h t => s c o (fun m => by
  obtain ⟨ps, z⟩ := n c m o h
  exact t ps z) (e c o h t)
theorem NewN.back {H H1 : Hp} {c : Addr} (e : ExtN H H1) (n : NewN H1 c) : NewN H c := fun o h => by
  by_cases t : ∃ ps, o = HO.tbl ps
  · exact t
  · exact n o (e c o h fun ps z => t ⟨ps, z⟩)
theorem newN_none {H : Hp} {c : Addr} (h : H c = none) : NewN H c := fun o e => by
  rw [h] at e
  cases e
/-! ### sorted by the known day -/
def knLe (a b : Evt) : Bool := decide (a.kn ≤ b.kn)
theorem kn_sorted {H : Hp} {ts : List Addr} {L : List Evt} (h : Paired (EvT H) ts L) : ∃ ts' : List Addr, (ts.map V.ref).mergeSort (fun a b => decide ((evOfV H a).kn ≤ (evOfV H b).kn)) = ts'.map V.ref ∧ Paired (EvT H) ts' (L.mergeSort knLe) := by
  have eL : (ts.map V.ref).map (evOfV H) = L := by
    induction h with
    | nil => rfl
    | cons r _ ih =>
      rw [List.map_cons, List.map_cons, ih, evOf_is r]
  have all : ∀ v ∈ ts.map V.ref, ∃ t, v = V.ref t ∧ EvT H t (evOfV H v) := fun v hv => by
    obtain ⟨i, hi⟩ := List.getElem?_of_mem hv
    rw [List.getElem?_map, Option.map_eq_some_iff] at hi
    obtain ⟨t, ht, rfl⟩ := hi
    obtain ⟨e, _, r⟩ := paired_get h ht
    exact ⟨t, rfl, by rw [evOf_is r]; exact r⟩
  have em := List.map_mergeSort (r := fun a b => decide ((evOfV H a).kn ≤ (evOfV H b).kn)) (s := knLe) (f := evOfV H) (l := ts.map V.ref) fun a _ b _ => rfl
  rw [eL] at em
  have p := List.mergeSort_perm (ts.map V.ref) (fun a b => decide ((evOfV H a).kn ≤ (evOfV H b).kn))
  rw [← em]
  generalize (ts.map V.ref).mergeSort (fun a b => decide ((evOfV H a).kn ≤ (evOfV H b).kn)) = M at *
  have all2 : ∀ v ∈ M, ∃ t, v = V.ref t ∧ EvT H t (evOfV H v) := fun v hv => all v (p.mem_iff.mp hv)
  clear em p
  induction M with
  | nil => exact ⟨[], rfl, .nil⟩
  | cons v M ih =>
    obtain ⟨t, rfl, r⟩ := all2 v List.mem_cons_self
    obtain ⟨ts', e1, e2⟩ := ih fun w hw => all2 w (List.mem_cons_of_mem _ hw)
    exact ⟨t :: ts', by rw [e1]; rfl, .cons r e2⟩
theorem kn_rising (L : List Evt) : (L.mergeSort knLe).Pairwise fun a b => a.kn ≤ b.kn := by
  have := List.pairwise_mergeSort (le := knLe) (fun a b c h1 h2 => by unfold knLe at *; simp at *; omega) (fun a b => by unfold knLe; simp; omega) L
  exact this.imp fun h => of_decide_eq_true h
/-! ### entries of entries -/
theorem entA_has {mv : Bool} {who : Str} {d kn : Int} : ∀ es : List Evt, (∃ e ∈ es, e.mv = mv ∧ e.who = who ∧ e.day = d ∧ e.kn = kn) → ∃ w, entA es mv who d kn = some w := by
  refine snoc_ind (fun ⟨_, h, _⟩ => nomatch h) fun es e ih h => ?_
  unfold entA
  rw [histE_snoc]
  unfold stepH
  by_cases ho : ofE mv who e = true
  · rw [if_pos ho, getA_note]
    by_cases hd : d = e.day
    · rw [if_pos hd]
      show ∃ w, getA (putA ((getA (histE es mv who) e.day).getD []) e.kn e.w) kn = some w
      rw [getA_put]
      by_cases hk : kn = e.kn
      · rw [if_pos hk]
        exact ⟨_, rfl⟩
      · rw [if_neg hk]
        obtain ⟨x, hx, h1, h2, h3, h4⟩ := h
        rcases List.mem_append.mp hx with hx | hx
        · have := ih ⟨x, hx, h1, h2, h3, h4⟩
          rw [← hd]
          exact this
        · rw [List.mem_singleton.mp hx] at h4
          exact absurd h4.symm hk
    · rw [if_neg hd]
      obtain ⟨x, hx, h1, h2, h3, h4⟩ := h
      rcases List.mem_append.mp hx with hx | hx
      · exact ih ⟨x, hx, h1, h2, h3, h4⟩
      · rw [List.mem_singleton.mp hx] at h3
        exact absurd h3.symm hd
  · rw [if_neg ho]
    obtain ⟨x, hx, h1, h2, h3, h4⟩ := h
    rcases List.mem_append.mp hx with hx | hx
    · exact ih ⟨x, hx, h1, h2, h3, h4⟩
    · rw [List.mem_singleton.mp hx] at h1 h2
      exact absurd (ofE_iff.mpr ⟨h1, h2⟩) ho
theorem entA_in {es : List Evt} {mv : Bool} {who : Str} {d kn : Int} {w : V} (h : entA es mv who d kn = some w) : (⟨mv, kn, who, d, w⟩ : Evt) ∈ es := flat_ev (entA_mem.mpr h)
theorem entA_uniq {es : List Evt} (nd : es.Pairwise fun a b => ¬ EvSame a b) (e : Evt) : e ∈ es ↔ entA es e.mv e.who e.day e.kn = some e.w := by
  constructor
  · intro h
    obtain ⟨w, hw⟩ := entA_has es ⟨e, h, rfl, rfl, rfl, rfl⟩
    have h2 := entA_in hw
    rw [hw]
    by_cases he : e = ⟨e.mv, e.kn, e.who, e.day, w⟩
    · rw [show e.w = w from congrArg Evt.w he]
    · have key : ∀ (l : List Evt), (l.Pairwise fun a b => ¬ EvSame a b) → e ∈ l → (⟨e.mv, e.kn, e.who, e.day, w⟩ : Evt) ∈ l → False := by
        intro l nl h1 h2
        obtain ⟨i, hi⟩ := List.getElem?_of_mem h1
        obtain ⟨j, hj⟩ := List.getElem?_of_mem h2
        have a1 := List.getElem?_eq_some_iff.mp hi
        have a2 := List.getElem?_eq_some_iff.mp hj
        rcases Nat.lt_trichotomy i j with q | q | q
        · have := List.pairwise_iff_getElem.mp nl i j a1.1 a2.1 q
          rw [a1.2, a2.2] at this
          exact this ⟨rfl, rfl, rfl, rfl⟩
        · subst q
          rw [hi] at hj
          exact he (Option.some.inj hj)
        · have := List.pairwise_iff_getElem.mp nl j i a2.1 a1.1 q
          rw [a1.2, a2.2] at this
          exact this ⟨rfl, rfl, rfl, rfl⟩
      exact (key es nd h h2).elim
  · intro h
    have := entA_in h
    exact this
theorem IsEnts.sub {es L : List Evt} (h : IsEnts es L) : ∀ e ∈ L, e ∈ es := fun e he => entA_in ((h.mem e).mp he)
theorem IsEnts.len {es L : List Evt} (h : IsEnts es L) : L.length ≤ es.length := List.Nodup.length_le_of_subset h.nodup fun e he => h.sub e he
/-- told anew by the known days, the entries are the same -/
theorem IsEnts.again {es L : List Evt} (h : IsEnts es L) : IsEnts (L.mergeSort knLe) L := by
  have p := List.mergeSort_perm L knLe
  have nd : (L.mergeSort knLe).Pairwise fun a b => ¬ EvSame a b := p.symm.pairwise h.nd fun h s => h ⟨s.1.symm, s.2.1.symm, s.2.2.1.symm, s.2.2.2.symm⟩
  exact ⟨h.up, h.nd, fun e => p.mem_iff.symm.trans (entA_uniq nd e)⟩
/-- the book of ranks and entries -/
def spBookOf (CB CH : Addr) (T : List (Addr × Str)) : Sp := fun vs H Q _ => ∃ (r l : Addr) (rk : List (Str × Int)) (ts : List Addr) (L : List Evt), vs = [.ref r, .ref l] ∧ H r = some (.dK (sd rk)) ∧ Rk rk ∧ H l = some (.lst (ts.map V.ref)) ∧ Paired (EvT H) ts L ∧ (∀ e ∈ L, EvOK rk e) ∧ L.length ≤ 60 ∧ Tabs T H ∧
  ∀ (b : Addr) (fp : List Addr) (H' : Hp), Bk CB CH H' b rk (L.mergeSort knLe) fp → (∀ c ∈ fp, NewN H c) → ExtN H H' → Tabs T H' → Q (.ref b) H'
def spTwin (CB CH : Addr) (T : List (Addr × Str)) : Sp := fun vs H Q _ => ∃ (b : Addr) (rk : List (Str × Int)) (es : List Evt) (fp : List Addr), vs = [.ref b] ∧ Bk CB CH H b rk es fp ∧ es.length ≤ 60 ∧ Tabs T H ∧
  ∀ (L : List Evt) (b2 : Addr) (fp2 : List Addr) (H' : Hp), IsEnts es L → Bk CB CH H' b2 rk (L.mergeSort knLe) fp2 → (∀ c ∈ fp2, NewN H c) → ExtN H H' → Tabs T H' → Q (.ref b2) H'
end LT
set_option Elab.async false
set_option linter.all false
set_option maxRecDepth 100000
/-! Own layer: runs of what was told, a day more than once with the same. -/
namespace LT
open PySem PySem.Spec PyProof.Rows L2 NdefX
def dd : List (Int × V) → List (Int × V)
  | [] => []
  | [a] => [a]
  | a :: b :: r => if a = b then dd (b :: r) else a :: dd (b :: r)
end LT
set_option Elab.async false
set_option linter.all false
set_option maxRecDepth 100000
/-! Own layer: runs by marks, any function of days. -/
namespace LT
open PySem PySem.Spec PyProof.Rows L2 NdefX
def elseV (g1 g2 : Int → V) (d : Int) : V := .bl (!decide (g1 d = g2 d))
end LT
set_option Elab.async false
set_option linter.all false
set_option maxRecDepth 100000
/-! Own layer: the runs that are true, as days told one way only. -/
namespace LT
open PySem PySem.Spec PyProof.Rows L2 NdefX
theorem ins_nil {d : Int} : ¬ LD.Ins [] d := fun ⟨_, h, _⟩ => nomatch h
end LT
set_option Elab.async false
set_option linter.all false
set_option maxRecDepth 100000
/-! Own layer: days told mark by mark, the last row grown where it ends the day before. -/
namespace LT
open PySem PySem.Spec PyProof.Rows L2 NdefX
def lastJ (F : List LD.Row) : Option Int := F.getLast?.bind (·.2)
def stepU (g : Int → V) (F : List LD.Row) (m : Int) (x : Option Int) : List LD.Row :=
  if g m = .bl true then (if lastJ F = some (m - 1) then F.dropLast ++ [((F.getLast?.map (·.1)).getD 0, x.map (· - 1))] else F ++ [(m, x.map (· - 1))]) else F
structure UI (g : Int → V) (F : List LD.Row) (m : Int) : Prop where
  asc : LD.Asc F
  top : ∀ r ∈ F, ∃ j, r.2 = some j ∧ j < m
  ins : ∀ d, LD.Ins F d ↔ 0 ≤ d ∧ d < m ∧ g d = .bl true
theorem ins_app {F G : List LD.Row} {d : Int} : LD.Ins (F ++ G) d ↔ LD.Ins F d ∨ LD.Ins G d := by
  constructor
  · rintro ⟨r, hr, h⟩
    exact (List.mem_append.mp hr).imp (fun q => ⟨r, q, h⟩) fun q => ⟨r, q, h⟩
  · rintro (⟨r, hr, h⟩ | ⟨r, hr, h⟩)
    · exact ⟨r, List.mem_append_left _ hr, h⟩
    · exact ⟨r, List.mem_append_right _ hr, h⟩
theorem ins_one {r : LD.Row} {d : Int} : LD.Ins [r] d ↔ r.1 ≤ d ∧ ∀ j, r.2 = some j → d ≤ j := by
  constructor
  · rintro ⟨s, hs, h⟩
    rw [List.mem_singleton.mp hs] at h
    exact h
  · exact fun h => ⟨r, List.mem_cons_self, h⟩
theorem map_pred {x : Option Int} {j : Int} (h : x.map (· - 1) = some j) : ∃ b, x = some b ∧ j = b - 1 := by
  cases x with
  | none => cases h
  | some b => exact ⟨b, rfl, (Option.some.inj h).symm⟩
theorem stepU_ok {g : Int → V} {F : List LD.Row} {m : Int} {x : Option Int} (h : UI g F m) (m0 : 0 ≤ m) (hx : ∀ b, x = some b → m < b) (same : ∀ d, m ≤ d → (∀ b, x = some b → d < b) → g d = g m) :
    LD.Asc (stepU g F m x) ∧ (∀ b, x = some b → ∀ r ∈ stepU g F m x, ∃ j, r.2 = some j ∧ j < b) ∧ ∀ d, LD.Ins (stepU g F m x) d ↔ 0 ≤ d ∧ (∀ b, x = some b → d < b) ∧ g d = .bl true := by
  have low : ∀ d, d < m → ∀ b, x = some b → d < b := fun d hd b hb => by
    have := hx b hb
    omega
  unfold stepU
  by_cases hg : g m = .bl true
  · rw [if_pos hg]
    have new : ∀ (d : Int), (m ≤ d ∧ ∀ j, x.map (· - 1) = some j → d ≤ j) ↔ (m ≤ d ∧ ∀ b, x = some b → d < b) := fun d => by
      refine and_congr_right fun _ => ⟨fun k b hb => ?_, fun k j hj => ?_⟩
      · have := k (b - 1) (by rw [hb]; rfl)
        omega
      · obtain ⟨b, hb, rfl⟩ := map_pred hj
        have := k b hb
        omega
    by_cases hl : lastJ F = some (m - 1)
    · rw [if_pos hl]
      have hne : F ≠ [] := fun e => by
        rw [e] at hl
        cases hl
      obtain ⟨B, p, rfl⟩ : ∃ B p, F = B ++ [p] := ⟨F.dropLast, F.getLast hne, (List.dropLast_concat_getLast hne).symm⟩
      obtain ⟨a, y⟩ := p
      have hy : y = some (m - 1) := by
        unfold lastJ at hl
        rw [List.getLast?_concat] at hl
        exact hl
      subst hy
      rw [List.dropLast_concat, List.getLast?_concat]
      show LD.Asc (B ++ [(a, x.map (· - 1))]) ∧ (∀ b, x = some b → ∀ r ∈ B ++ [(a, x.map (· - 1))], ∃ j, r.2 = some j ∧ j < b) ∧ ∀ d, LD.Ins (B ++ [(a, x.map (· - 1))]) d ↔ _
      have pw := List.pairwise_append.mp h.asc.pw
      have oka := h.asc.ok (a, some (m - 1)) (List.mem_append_right _ List.mem_cons_self)
      have am : a ≤ m - 1 := oka.2 _ rfl
      have a0 : 0 ≤ a := oka.1
      refine ⟨⟨fun r hr => ?_, List.pairwise_append.mpr ⟨pw.1, List.pairwise_singleton _ _, fun r hr s hs => ?_⟩⟩, fun b hb r hr => ?_, fun d => ?_⟩
      · rcases List.mem_append.mp hr with hr | hr
        · exact h.asc.ok r (List.mem_append_left _ hr)
        · rw [List.mem_singleton.mp hr]
          refine ⟨a0, fun j hj => ?_⟩
          obtain ⟨b, hb, rfl⟩ := map_pred hj
          have := hx b hb
          show a ≤ b - 1
          omega
      · rw [List.mem_singleton.mp hs]
        exact pw.2.2 r hr (a, some (m - 1)) List.mem_cons_self
      · rcases List.mem_append.mp hr with hr | hr
        · obtain ⟨j, h1, h2⟩ := h.top r (List.mem_append_left _ hr)
          exact ⟨j, h1, low j h2 b hb⟩
        · rw [List.mem_singleton.mp hr]
          exact ⟨b - 1, by rw [hb]; rfl, by omega⟩
      · have hi := h.ins d
        rw [ins_app, ins_one] at hi ⊢
        by_cases hd : d < m
        · rw [show (0 ≤ d ∧ (∀ b, x = some b → d < b) ∧ g d = .bl true) ↔ (0 ≤ d ∧ d < m ∧ g d = .bl true) from ⟨fun k => ⟨k.1, hd, k.2.2⟩, fun k => ⟨k.1, low d hd, k.2.2⟩⟩, ← hi]
          refine or_congr_right (and_congr_right fun _ => ⟨fun _ j hj => ?_, fun _ j hj => ?_⟩)
          · have : m - 1 = j := Option.some.inj hj
            omega
          · obtain ⟨b, hb, rfl⟩ := map_pred hj
            have := hx b hb
            omega
        · have nB : ¬ LD.Ins B d := fun ⟨r, hr, q⟩ => by
            obtain ⟨j, h1, h2⟩ := h.top r (List.mem_append_left _ hr)
            have := q.2 j h1
            omega
          have nw := new d
          constructor
          · rintro (q | q)
            · exact absurd q nB
            · have k := nw.mp ⟨by omega, q.2⟩
              exact ⟨by omega, k.2, (same d (by omega) k.2).trans hg⟩
          · rintro ⟨k0, k1, _⟩
            exact .inr ⟨by show a ≤ d; omega, (nw.mpr ⟨by omega, k1⟩).2⟩
    · rw [if_neg hl]
      have far : ∀ r ∈ F, ∃ j, r.2 = some j ∧ j + 1 < m := fun r hr => by
        have hne : F ≠ [] := fun e => by
          rw [e] at hr
          cases hr
        obtain ⟨B, p, rfl⟩ : ∃ B p, F = B ++ [p] := ⟨F.dropLast, F.getLast hne, (List.dropLast_concat_getLast hne).symm⟩
        obtain ⟨jp, e1, e2⟩ := h.top p (List.mem_append_right _ List.mem_cons_self)
        have nl : jp ≠ m - 1 := fun e => hl (by
          unfold lastJ
          rw [List.getLast?_concat, ← e]
          exact e1)
        rcases List.mem_append.mp hr with hr | hr
        · obtain ⟨j, k1, k2⟩ := (List.pairwise_append.mp h.asc.pw).2.2 r hr p List.mem_cons_self
          have := (h.asc.ok p (List.mem_append_right _ List.mem_cons_self)).2 jp e1
          exact ⟨j, k1, by omega⟩
        · rw [List.mem_singleton.mp hr]
          exact ⟨jp, e1, by omega⟩
      refine ⟨⟨fun r hr => ?_, List.pairwise_append.mpr ⟨h.asc.pw, List.pairwise_singleton _ _, fun r hr s hs => ?_⟩⟩, fun b hb r hr => ?_, fun d => ?_⟩
      · rcases List.mem_append.mp hr with hr | hr
        · exact h.asc.ok r hr
        · rw [List.mem_singleton.mp hr]
          refine ⟨m0, fun j hj => ?_⟩
          obtain ⟨b, hb, rfl⟩ := map_pred hj
          have := hx b hb
          show m ≤ b - 1
          omega
      · rw [List.mem_singleton.mp hs]
        exact far r hr
      · rcases List.mem_append.mp hr with hr | hr
        · obtain ⟨j, h1, h2⟩ := h.top r hr
          exact ⟨j, h1, low j h2 b hb⟩
        · rw [List.mem_singleton.mp hr]
          exact ⟨b - 1, by rw [hb]; rfl, by omega⟩
      · rw [ins_app, ins_one, h.ins d]
        have nw := new d
        constructor
        · rintro (q | q)
          · exact ⟨q.1, low d q.2.1, q.2.2⟩
          · have k := nw.mp q
            exact ⟨by omega, k.2, (same d k.1 k.2).trans hg⟩
        · rintro ⟨k0, k1, k2⟩
          by_cases hd : d < m
          · exact .inl ⟨k0, hd, k2⟩
          · exact .inr (nw.mpr ⟨by omega, k1⟩)
  · rw [if_neg hg]
    refine ⟨h.asc, fun b hb r hr => ?_, fun d => ?_⟩
    · obtain ⟨j, h1, h2⟩ := h.top r hr
      exact ⟨j, h1, low j h2 b hb⟩
    · rw [h.ins d]
      constructor
      · exact fun q => ⟨q.1, low d q.2.1, q.2.2⟩
      · rintro ⟨k0, k1, k2⟩
        by_cases hd : d < m
        · exact ⟨k0, hd, k2⟩
        · exact absurd ((same d (by omega) k1).symm.trans k2) hg
end LT
set_option Elab.async false
set_option linter.all false
set_option maxRecDepth 100000
/-! Own layer: texts sorted, one way only. -/
namespace LT
open PySem PySem.Spec PyProof.Rows
end LT
set_option Elab.async false
set_option linter.all false
set_option maxRecDepth 100000
set_option maxHeartbeats 1600000
/-! Own layer: what is changed between two known days. -/
namespace LT
open PySem PySem.Spec PyProof.Rows L2 NdefX
theorem elseV_true {g1 g2 : Int → V} {d : Int} : elseV g1 g2 d = .bl true ↔ g1 d ≠ g2 d := by
  unfold elseV
  by_cases h : g1 d = g2 d
  · rw [decide_eq_true h]
    exact ⟨(fun k => by cases k), fun k => absurd h k⟩
  · rw [decide_eq_false h]
    exact ⟨fun _ => h, fun _ => rfl⟩
/-- the days on which two are unlike, told one way only -/
structure IsElse (g1 g2 : Int → V) (rows : List LD.Row) : Prop where
  asc : LD.Asc rows
  ins : ∀ d, LD.Ins rows d ↔ 0 ≤ d ∧ g1 d ≠ g2 d
theorem IsElse.uniq {g1 g2 : Int → V} {r s : List LD.Row} (a : IsElse g1 g2 r) (b : IsElse g1 g2 s) : r = s := LD.asc_uniq a.asc b.asc fun d => (a.ins d).trans (b.ins d).symm
/-! ### the law's own way: mark by mark -/
structure UInv (g : Int → V) (ms : List Int) (i : Nat) (F : List LD.Row) : Prop where
  asc : LD.Asc F
  top : ∀ b, ms[i]? = some b → ∀ r ∈ F, ∃ j, r.2 = some j ∧ j < b
  ins : ∀ d, LD.Ins F d ↔ 0 ≤ d ∧ (∀ b, ms[i]? = some b → d < b) ∧ g d = .bl true
theorem UInv.nil {g : Int → V} {ms : List Int} (h : ms[0]? = some 0) : UInv g ms 0 [] := ⟨⟨(fun r hr => by cases hr), List.Pairwise.nil⟩, (fun b hb r hr => by cases hr), fun d => ⟨fun k => absurd k ins_nil, fun ⟨d0, k, _⟩ => by
  have := k 0 h
  omega⟩⟩
theorem mark_gap {ms : List Int} (up : ms.Pairwise (· < ·)) {i : Nat} {m : Int} (hm : ms[i]? = some m) {d : Int} (nx : ∀ b, ms[i + 1]? = some b → d < b) {o : Int} (mo : m < o) (od : o ≤ d) : o ∉ ms := fun ho => by
  obtain ⟨j, hj⟩ := List.getElem?_of_mem ho
  obtain ⟨il, ei⟩ := List.getElem?_eq_some_iff.mp hm
  obtain ⟨jl, ej⟩ := List.getElem?_eq_some_iff.mp hj
  rcases Nat.lt_trichotomy j i with h | h | h
  · have := List.pairwise_iff_getElem.mp up j i jl il h
    omega
  · subst h
    omega
  · by_cases e : j = i + 1
    · subst e
      have := nx o hj
      omega
    · have l1 : i + 1 < ms.length := by omega
      have := List.pairwise_iff_getElem.mp up (i + 1) j l1 jl (by omega)
      have := nx _ (List.getElem?_eq_getElem l1)
      omega
theorem UInv.step {g : Int → V} {ms : List Int} {i : Nat} {F : List LD.Row} {m : Int} (h : UInv g ms i F) (up : ms.Pairwise (· < ·)) (nn : ∀ d ∈ ms, 0 ≤ d) (hm : ms[i]? = some m) (same : ∀ d, m ≤ d → (∀ o, m < o → o ≤ d → o ∉ ms) → g d = g m) :
    UInv g ms (i + 1) (stepU g F m (ms[i + 1]?)) := by
  have U : UI g F m := ⟨h.asc, h.top m hm, fun d => (h.ins d).trans ⟨fun k => ⟨k.1, k.2.1 m hm, k.2.2⟩, fun k => ⟨k.1, fun b hb => by rw [hm] at hb; cases hb; exact k.2.1, k.2.2⟩⟩⟩
  obtain ⟨a, b, c⟩ := stepU_ok (x := ms[i + 1]?) U (nn m (List.mem_of_getElem? hm)) (fun b hb => by
    obtain ⟨il, ei⟩ := List.getElem?_eq_some_iff.mp hm
    obtain ⟨jl, ej⟩ := List.getElem?_eq_some_iff.mp hb
    have := List.pairwise_iff_getElem.mp up i (i + 1) il jl (by omega)
    omega) fun d hd nx => same d hd fun o mo od => mark_gap up hm nx mo od
  exact ⟨a, b, c⟩
theorem UInv.done {g1 g2 : Int → V} {ms : List Int} {F : List LD.Row} (h : UInv (elseV g1 g2) ms ms.length F) : IsElse g1 g2 F :=
  ⟨h.asc, fun d => (h.ins d).trans ⟨fun k => ⟨k.1, elseV_true.mp k.2.2⟩, fun k => ⟨k.1, (fun b hb => by rw [List.getElem?_eq_none (Nat.le_refl _)] at hb; cases hb), elseV_true.mpr k.2⟩⟩⟩
/-! ### rows and changes on the heap -/
def RowsR (H : Hp) (us : List Addr) (F : List LD.Row) : Prop := Paired (fun t (r : LD.Row) => H t = some (.tup [.int r.1, knV r.2])) us F
theorem RowsR.mono {H H' : Hp} {us : List Addr} {F : List LD.Row} (h : RowsR H us F) (s : Same H H') : RowsR H' us F := paired_imp (fun _ _ h => s _ _ h) h
theorem RowsR.upd {H : Hp} {us : List Addr} {B : List LD.Row} {F : Addr} {xs : List V} {o : HO} (h : RowsR H us B) (e : H F = some (.lst xs)) : RowsR (L2.upd H F o) us B := paired_imp (fun t p h => by rw [upd_ne (ne_of h e (by intro z; cases z))]; exact h) h
abbrev Chg := Str × List LD.Row
def ChT (CS : Addr) (H : Hp) (c : Addr × Addr) (e : Chg) : Prop := H c.1 = some (.tup [.str e.1, .ref c.2]) ∧ PartsAt CS H c.2 e.2
theorem ChT.mono {CS : Addr} {H H' : Hp} {c : Addr × Addr} {e : Chg} (h : ChT CS H c e) (s : Same H H') : ChT CS H' c e := ⟨s _ _ h.1, h.2.mono s⟩
theorem PartsAt.upd {CS : Addr} {H : Hp} {l F : Addr} {ps : List Part} {xs : List V} {o : HO} (h : PartsAt CS H l ps) (e : H F = some (.lst xs)) (n : l ≠ F) : PartsAt CS (L2.upd H F o) l ps := by
  obtain ⟨ts, a, b⟩ := h
  exact ⟨ts, by rw [upd_ne n]; exact a, paired_imp (fun _ _ h => h.upd e) b⟩
theorem ChT.upd {CS : Addr} {H : Hp} {F : Addr} {c : Addr × Addr} {e : Chg} {xs : List V} {o : HO} (h : ChT CS H c e) (eF : H F = some (.lst xs)) (n : c.2 ≠ F) : ChT CS (L2.upd H F o) c e :=
  ⟨by rw [upd_ne (ne_of h.1 eF (by intro z; cases z))]; exact h.1, h.2.upd eF n⟩
structure ChsAt (CS : Addr) (H : Hp) (T : Addr) (cs : List (Addr × Addr)) (chs : List Chg) : Prop where
  hT : H T = some (.lst ((cs.map (·.1)).map V.ref))
  hc : Paired (ChT CS H) cs chs
theorem ChsAt.mono {CS : Addr} {H H' : Hp} {T : Addr} {cs : List (Addr × Addr)} {chs : List Chg} (h : ChsAt CS H T cs chs) (s : Same H H') : ChsAt CS H' T cs chs := ⟨s _ _ h.hT, paired_imp (fun _ _ h => h.mono s) h.hc⟩
/-! ### rows by marks -/
/-! ### how changes show and compare -/
def Parts3 (CS : Addr) (H : Hp) (l : Addr) (ps : List Part) : Prop := ∃ xs : List Addr, H l = some (.lst (xs.map V.ref ++ [V.int 3])) ∧ Paired (fun x (p : Part) => StrAt CS H x p.1 p.2) xs ps
theorem Parts3.mono {CS : Addr} {H H' : Hp} {l : Addr} {ps : List Part} (h : Parts3 CS H l ps) (s : Same H H') : Parts3 CS H' l ps := by
  obtain ⟨ts, a, b⟩ := h
  exact ⟨ts, s _ _ a, paired_imp (fun _ _ h => h.mono s) b⟩
theorem nm_repr {z : Str} (h : Nm z) : (reprText z).length ≤ 82 := by
  have h1 := StrLaws.reprText_len z fun c hc => by
    have := h.al c hc
    unfold small at this
    simp at this
    omega
  have := h.l8
  omega
end LT
set_option Elab.async false
set_option linter.all false
set_option maxRecDepth 100000
set_option maxHeartbeats 1600000
/-! Own layer: turns as a law finds them; two books where lambdas are made. -/
namespace LT
open PySem PySem.Spec PyProof.Rows L2 NdefX LamX
def RowW (H : Hp) (t : Addr) (r : Run) : Prop := H t = some (.tup [r.1, .int r.2.1, knV r.2.2])
def RowsW (H : Hp) (l : Addr) (rs : List Run) : Prop := ∃ ts : List Addr, H l = some (.lst (ts.map V.ref)) ∧ Paired (RowW H) ts rs
theorem RowsW.mono {H H' : Hp} {l : Addr} {rs : List Run} (h : RowsW H l rs) (s : Same H H') : RowsW H' l rs := by
  obtain ⟨ts, a, b⟩ := h
  exact ⟨ts, s _ _ a, paired_imp (fun _ _ k => s _ _ k) b⟩
/-! ### how turns show -/
theorem pl_repr {y : Str} (h : Pl y) : (reprText y).length ≤ 82 := by
  rcases h with rfl | h
  · decide +kernel
  · exact nm_repr h
end LT
set_option Elab.async false
set_option linter.all false
set_option maxRecDepth 100000
set_option maxHeartbeats 1600000
/-! Own layer: two books (or one) looked at where lambdas are made; lists of entries held against one another. -/
namespace LT
open PySem PySem.Spec PyProof.Rows L2 NdefX LamX
theorem ho_extN {M : List Addr} {H H' : Hp} (e : ExtN H H') : ExtN (Ho M H) (Ho M H') := fun a o h t => ho_in (ho_iff.mp h).1 (e a o (ho_iff.mp h).2 t)
theorem LastOK.extN {H H' : Hp} {la : Addr} {rk : List (Str × Int)} (h : LastOK H la rk) (e : ExtN H H') : LastOK H' la rk := by
  obtain ⟨o, a, b⟩ := h
  refine ⟨o, ?_, b⟩
  cases o with
  | none => exact e _ _ a nofun
  | some x =>
    obtain ⟨t, a1, a2⟩ := a
    exact ⟨t, e _ _ a1 nofun, e _ _ a2 nofun⟩
theorem evT_extN {H H' : Hp} {t : Addr} {x : Evt} (e : ExtN H H') (h : EvT H t x) : EvT H' t x := e t (.tup [.str (kindS x.mv), .int x.kn, .str x.who, .int x.day, x.w]) h nofun
theorem ClAt.extN {CB CH : Addr} {H H' Hi Hi' : Hp} {c : Cl} (h : ClAt CB CH H Hi c) (e : ExtN H H') (ei : ExtN Hi Hi') : ClAt CB CH H' Hi' c := by
  obtain ⟨ts, e1, e2⟩ := h.ev
  exact ⟨e _ _ h.hP nofun, ⟨ei _ _ h.hI.hn nofun, ei _ _ h.hI.hr nofun, ei _ _ h.hI.hl nofun⟩, h.hG, h.k0, h.la.extN ei, ⟨ts, e _ _ e1 nofun, paired_imp (fun _ _ k => evT_extN ei k) e2⟩, h.bk.extN e, h.kl, h.nPE, h.nPf, h.nEf⟩
theorem pot_extN {H H' : Hp} {p : Addr} (h : Pot H p) (e : ExtN H H') : Pot H' p := by
  obtain ⟨x, y, e1, e2⟩ := h
  exact ⟨x, y, e _ _ e1 nofun, e2⟩
theorem Two.extN {CB CH : Addr} {H H' : Hp} {p : Addr} {c d : Cl} (h : Two CB CH H p c d) (e : ExtN H H') : Two CB CH H' p c d :=
  ⟨pot_extN h.pot e, h.c1.extN e (ho_extN e), h.d1.extN e (ho_extN e), h.pc, h.pd, h.cd⟩
theorem One.extN {CB CH : Addr} {H H' : Hp} {p : Addr} {c : Cl} (h : One CB CH H p c) (e : ExtN H H') : One CB CH H' p c := by
  cases h with
  | mk a b c1 => exact ⟨pot_extN a e, b.extN e (ho_extN e), c1⟩
theorem ClAt.pl {CB CH : Addr} {H Hi : Hp} {c : Cl} (h : ClAt CB CH H Hi c) : ∀ a ∈ c.m, ∀ o, H a = some o → Plain o := by
  intro a ha o e
  rcases List.mem_cons.mp ha with rfl | ha
  · rw [h.hP] at e
    cases e
    exact plain_dK
  rcases List.mem_cons.mp ha with rfl | ha
  · obtain ⟨ts, e1, _⟩ := h.ev
    rw [e1] at e
    cases e
    exact plain_lst
  · exact h.bk.pl a ha o e
theorem pot_pl {H : Hp} {p : Addr} (h : Pot H p) : ∀ o, H p = some o → Plain o := fun o e => by
  obtain ⟨x, y, e1, _⟩ := h
  rw [e1] at e
  cases e
  exact plain_lst
theorem tabs_pot {T : List (Addr × Str)} {p : Addr} {H H' : Hp} (t : Tabs T H) (hp : Pot H p) (s : SameB p H H') : Tabs T H' :=
  tabs_L (fp := [p]) t (fun c hc o e => by rw [List.mem_singleton.mp hc] at e; exact pot_pl hp o e) (SameL.ofB List.mem_cons_self s)
/-! ### lists of entries -/
def EntA (H : Hp) (l : Addr) (L : List Evt) : Prop := ∃ ts : List Addr, H l = some (.lst (ts.map V.ref)) ∧ Paired (EvT H) ts L
theorem EntA.extN {H H' : Hp} {l : Addr} {L : List Evt} (h : EntA H l L) (e : ExtN H H') : EntA H' l L := by
  obtain ⟨ts, a, b⟩ := h
  exact ⟨ts, e _ _ a nofun, paired_imp (fun _ _ k => evT_extN e k) b⟩
theorem EntA.updL {H : Hp} {l G : Addr} {L : List Evt} {zs : List V} {o : HO} (h : EntA H l L) (eG : H G = some (.lst zs)) (n : l ≠ G) : EntA (L2.upd H G o) l L := by
  obtain ⟨ts, a, b⟩ := h
  exact ⟨ts, by rw [upd_ne n]; exact a, paired_imp (fun t x k => by
    show L2.upd H G o t = _
    rw [upd_ne (ne_of (show H t = some (.tup _) from k) eG (by intro z; cases z))]
    exact k) b⟩
structure EntL (H0 H : Hp) (G : Addr) (Ls : List (List Evt)) : Prop where
  n : H0 G = none
  e : ExtN H0 H
  g : ∃ ls : List Addr, H G = some (.lst (ls.map V.ref)) ∧ Paired (EntA H) ls Ls ∧ ∀ l ∈ ls, l ≠ G
theorem EntL.nil {H0 : Hp} {G : Addr} (n : H0 G = none) : EntL H0 (L2.upd H0 G (.lst [])) G [] := ⟨n, ExtN.of (same_upd n), [], upd_same, .nil, nofun⟩
theorem EntL.push {H0 H H' : Hp} {G l : Addr} {Ls : List (List Evt)} {L : List Evt} (h : EntL H0 H G Ls) (e : ExtN H H') (new : NewN H l) (hl : EntA H' l L) : ∃ zs : List V, H' G = some (.lst zs) ∧ zs.length = Ls.length ∧ EntL H0 (L2.upd H' G (.lst (zs ++ [V.ref l]))) G (Ls ++ [L]) := by
  obtain ⟨ls, eG, hls, hn⟩ := h.g
  have eG' := e _ _ eG nofun
  have nlG : l ≠ G := fun z => by
    obtain ⟨ps, k⟩ := new _ (by rw [z]; exact eG)
    cases k
  refine ⟨ls.map V.ref, eG', by rw [List.length_map, Paired.length hls], h.n, fun b o hb t => ?_, ls ++ [l], by rw [upd_same, List.map_append]; rfl, ?_, fun x hx => ?_⟩
  · rw [upd_ne (ne_of_none hb h.n)]
    exact e b o (h.e b o hb t) t
  · refine paired_snoc' ?_ (hl.updL eG' nlG)
    have key : ∀ {ls : List Addr} {Ls : List (List Evt)}, Paired (EntA H) ls Ls → (∀ l ∈ ls, l ≠ G) → Paired (EntA (L2.upd H' G (.lst (ls.map V.ref ++ [V.ref l])))) ls Ls := by
      intro ls' Ls' h1 h2
      generalize HO.lst (ls'.map V.ref ++ [V.ref l]) = o
      induction h1 with
      | nil => exact .nil
      | cons a _ ih => exact .cons ((a.extN e).updL eG' (h2 _ List.mem_cons_self)) (ih fun x hx => h2 x (List.mem_cons_of_mem _ hx))
    exact key hls hn
  · rcases List.mem_append.mp hx with hx | hx
    · exact hn x hx
    · rw [List.mem_singleton.mp hx]
      exact nlG
theorem EntL.ext {H0 H H' : Hp} {G : Addr} {Ls : List (List Evt)} (h : EntL H0 H G Ls) (e : ExtN H H') : EntL H0 H' G Ls := by
  obtain ⟨ls, eG, hls, hn⟩ := h.g
  exact ⟨h.n, h.e.trans e, ls, e _ _ eG nofun, paired_imp (fun _ _ k => k.extN e) hls, hn⟩
/-! ### as plain data -/
def wD : V → PyData
  | .int i => .int i
  | .str z => .str z
  | _ => .none
def evD (e : Evt) : PyData := .tuple [.str (kindS e.mv), .int e.kn, .str e.who, .int e.day, wD e.w]
def WOK (w : V) : Prop := w = .non ∨ (∃ i, w = .int i) ∨ ∃ z, w = .str z ∧ PyData.strOk z = true
structure EvSt (e : Evt) : Prop where
  who : PyData.strOk e.who = true
  w : WOK e.w
theorem wD_dp {K : PySem.W.Frag} {H : Hp} {w : V} (h : WOK w) : Dp K H w (wD w) := by
  rcases h with rfl | ⟨i, rfl⟩ | ⟨z, rfl, _⟩
  · exact .non
  · exact .int i
  · exact .str z
theorem wD_lay {w : V} (h : WOK w) : PyData.canLay0 (wD w) = true ∧ PyData.depth (wD w) ≤ 1 := by
  rcases h with rfl | ⟨i, rfl⟩ | ⟨z, rfl, hz⟩
  · exact ⟨by simp [wD, PyData.canLay0], by simp [wD, PyData.depth]⟩
  · exact ⟨by simp [wD, PyData.canLay0], by simp [wD, PyData.depth]⟩
  · exact ⟨by simp [wD, PyData.canLay0, hz], by simp [wD, PyData.depth]⟩
theorem kindS_ok (b : Bool) : PyData.strOk (kindS b) = true := by cases b <;> decide +kernel
theorem evD_lay : ∀ {L : List Evt}, (∀ e ∈ L, EvSt e) → PyData.canLayAll0 (L.map evD) = true ∧ PyData.depthAll (L.map evD) ≤ 2
  | [], _ => ⟨by simp [PyData.canLayAll0], by simp [PyData.depthAll]⟩
  | e :: L, h => by
    obtain ⟨i1, i2⟩ := evD_lay (L := L) fun x hx => h x (List.mem_cons_of_mem _ hx)
    have he := h e List.mem_cons_self
    obtain ⟨w1, w2⟩ := wD_lay he.w
    refine ⟨by simp [PyData.canLayAll0, evD, PyData.canLay0, i1, w1, he.who, kindS_ok], ?_⟩
    have h2 : (evD e).depth ≤ 2 := by
      simp only [evD, PyData.depth, PyData.depthAll]
      omega
    simp only [List.map_cons, PyData.depthAll]
    omega
theorem ev_dp {K : PySem.W.Frag} {H : Hp} : ∀ {us : List Addr} {L : List Evt}, Paired (EvT H) us L → (∀ e ∈ L, EvSt e) → DpAll K H (us.map V.ref) (L.map evD)
  | _, _, .nil, _ => .nil
  | _, _, .cons (a := t) (b := r) h k, hs => .cons (.tup (SqT.of h) (.cons (.str _) (.cons (.int _) (.cons (.str _) (.cons (.int _) (.cons (wD_dp (hs r List.mem_cons_self).w) .nil)))))) (ev_dp k fun x hx => hs x (List.mem_cons_of_mem _ hx))
theorem tabs_updG {T : List (Addr × Str)} {H : Hp} {a : Addr} {zs : List V} {o : HO} (t : Tabs T H) (hl : H a = some (.lst zs)) : Tabs T (L2.upd H a o) :=
  tabs_L (fp := [a]) t (fun c hc o' e => by rw [List.mem_singleton.mp hc, hl] at e; cases e; exact plain_lst) (SameL.upd List.mem_cons_self (.of (Same.refl _)))
theorem refs_not_pot {ts : List Addr} (a b : Int) : (HO.lst (ts.map V.ref)) ≠ .lst [.int a, .int b] := by
  intro h
  have h := HO.lst.inj h
  match ts, h with
  | [], h => cases h
  | t :: r, h => cases (List.cons.inj h).1
theorem EntA.pot {H H' : Hp} {p l : Addr} {L : List Evt} (h : EntA H l L) (hp : Pot H p) (s : SameB p H H') : EntA H' l L := by
  obtain ⟨ts, a, b⟩ := h
  refine ⟨ts, s _ _ (ne_of_pot hp a refs_not_pot) a, paired_imp (fun t x k => ?_) b⟩
  have k : H t = some (.tup _) := k
  exact s _ _ (ne_of_pot hp k) k
/-- what a list of lists of entries holds -/
def EntsL (H : Hp) (G : Addr) (Ls : List (List Evt)) : Prop := ∃ ls : List Addr, H G = some (.lst (ls.map V.ref)) ∧ Paired (EntA H) ls Ls
theorem EntsL.extN {H H' : Hp} {G : Addr} {Ls : List (List Evt)} (h : EntsL H G Ls) (e : ExtN H H') : EntsL H' G Ls := by
  obtain ⟨ls, a, b⟩ := h
  exact ⟨ls, e _ _ a nofun, paired_imp (fun _ _ k => k.extN e) b⟩
theorem EntsL.pot {H H' : Hp} {p G : Addr} {Ls : List (List Evt)} (h : EntsL H G Ls) (hp : Pot H p) (s : SameB p H H') : EntsL H' G Ls := by
  obtain ⟨ls, a, b⟩ := h
  exact ⟨ls, s _ _ (ne_of_pot hp a refs_not_pot) a, paired_imp (fun _ _ k => k.pot hp s) b⟩
theorem nm_strOk {z : Str} (h : Nm z) : PyData.strOk z = true := by
  show (z.cps.all fun c => decide (c < 0x110000)) = true
  rw [← Array.all_toList, List.all_eq_true]
  intro c hc
  have := h.al c hc
  unfold small at this
  rw [Bool.and_eq_true, decide_eq_true_eq, decide_eq_true_eq] at this
  exact decide_eq_true (by omega)
theorem evSt_of {rk : List (Str × Int)} {e : Evt} (hk : ∀ z ∈ rk.map (·.1), Nm z) (h : EvOK rk e) : EvSt e := by
  cases hm : e.mv with
  | true =>
    obtain ⟨a, b⟩ := h.mw hm
    refine ⟨nm_strOk (hk _ a), ?_⟩
    rcases b with b | ⟨z, b, hz⟩
    · exact .inl b
    · refine .inr (.inr ⟨z, b, ?_⟩)
      rcases hz with rfl | hz
      · decide +kernel
      · exact nm_strOk hz
  | false =>
    obtain ⟨a, n, b, _⟩ := h.lw hm
    exact ⟨nm_strOk a, .inr (.inl ⟨n, b⟩)⟩
end LT
set_option Elab.async false
set_option linter.all false
set_option maxRecDepth 100000
set_option maxHeartbeats 1600000
/-! Own layer: the first unfed day, one only; promises of the law that looks at it. -/
namespace LT
open PySem PySem.Spec PyProof.Rows L2 NdefX
def UnfO (s : Shop) : Option (Int × Int) → Prop
  | none => ∀ d, 0 ≤ d → 0 ≤ s.left d
  | some (d, n) => 0 ≤ d ∧ d < 10 ^ 120 ∧ s.left d = -n ∧ 0 < n ∧ Fed s d
def UnfAt (H : Hp) (v : V) : Option (Int × Int) → Prop
  | none => v = .non
  | some (d, n) => ∃ t, v = .ref t ∧ H t = some (.tup [.int d, .int n])
theorem UnfAt.mono {H H' : Hp} {v : V} {o : Option (Int × Int)} (h : UnfAt H v o) (s : Same H H') : UnfAt H' v o := by
  cases o with
  | none => exact h
  | some p =>
    obtain ⟨t, e, h⟩ := h
    exact ⟨t, e, s _ _ h⟩
theorem UnfO.uniq {s : Shop} {o1 o2 : Option (Int × Int)} (a : UnfO s o1) (b : UnfO s o2) : o1 = o2 := by
  cases o1 with
  | none =>
    cases o2 with
    | none => rfl
    | some q =>
      obtain ⟨b1, b2, b3, b4, b5⟩ := b
      have := a q.1 b1
      omega
  | some p =>
    obtain ⟨a1, a2, a3, a4, a5⟩ := a
    cases o2 with
    | none =>
      have := b p.1 a1
      omega
    | some q =>
      obtain ⟨b1, b2, b3, b4, b5⟩ := b
      obtain ⟨d, n⟩ := p
      obtain ⟨e, m⟩ := q
      simp only at a1 a2 a3 a4 a5 b1 b2 b3 b4 b5
      have e1 : d = e := by
        by_cases h : d < e
        · have := b5 d a1 h
          omega
        · by_cases h' : e < d
          · have := a5 e b1 h'
            omega
          · omega
      subst e1
      have : n = m := by omega
      rw [this]
def unfD : Option (Int × Int) → PyData
  | none => .none
  | some (d, n) => .tuple [.int d, .int n]
theorem UnfAt.dp {K : PySem.W.Frag} {H : Hp} {v : V} {o : Option (Int × Int)} (h : UnfAt H v o) : Dp K H v (unfD o) := by
  cases o with
  | none =>
    rw [show v = .non from h]
    exact .non
  | some p =>
    obtain ⟨t, rfl, h⟩ := h
    exact .tup (SqT.of h) (.cons (.int _) (.cons (.int _) .nil))
end LT
set_option Elab.async false
set_option linter.all false
set_option maxRecDepth 100000
set_option maxHeartbeats 1600000
/-! Own layer: what more stores, and one head more, do to what is left. -/
namespace LT
open PySem PySem.Spec PyProof.Rows L2 NdefX LamX
/-! ### told anew, the same holds -/
def SameHd (es es' : List Evt) : Prop := ∀ mv z kn d, heldE es' mv z kn d = heldE es mv z kn d
/-! ### shops alike -/
theorem SameHd.pl {es es' : List Evt} (h : SameHd es es') (z : Str) (kn : Option Int) (d : Int) : plE es' z kn d = plE es z kn d := by
  unfold plE
  rw [show heldE es' true z kn = heldE es true z kn from funext fun x => h true z kn x]
theorem land_held (s : Shop) (d : Int) : s.land d = numI (heldE s.es false s.z s.kn d) := by
  unfold Shop.land Shop.landW heldE
  cases heldO s.es false s.z s.kn d with
  | none => rfl
  | some w => rfl
theorem shop_left {s s' : Shop} (hl : ∀ d, 0 ≤ d → s'.land d = s.land d) (hm : ∀ d, 0 ≤ d → s'.many d = s.many d) (hR : s'.R = s.R) (d : Int) : s'.left d = s.left d := by
  unfold Shop.left leftI
  refine sumN_congr fun i _ => ?_
  unfold Shop.net
  rw [hl _ (Int.natCast_nonneg _), hm _ (Int.natCast_nonneg _), hR]
theorem SameHd.left {es es' : List Evt} (h : SameHd es es') (rk : List (Str × Int)) (z : Str) (kn : Option Int) (R : Int) (d : Int) : (shopOf es' rk z kn R).left d = (shopOf es rk z kn R).left d := by
  refine shop_left (s := shopOf es rk z kn R) (s' := shopOf es' rk z kn R) (fun d _ => ?_) (fun d _ => ?_) rfl d
  · rw [land_held, land_held]
    show numI (heldE es' false z kn d) = numI (heldE es false z kn d)
    rw [h]
  · show manyI es' _ z kn d = manyI es _ z kn d
    unfold manyI
    congr 2
    exact List.filter_congr fun k _ => by rw [h.pl]
/-! ### one head more -/
/-! ### unfed, wanted -/
theorem UnfO.le {s s' : Shop} {o o' : Option (Int × Int)} (h : ∀ d, 0 ≤ d → s'.left d ≤ s.left d) (a : UnfO s o) (b : UnfO s' o') : o = none ∨ ∃ p p', o = some p ∧ o' = some p' ∧ p'.1 ≤ p.1 := by
  cases o with
  | none => exact .inl rfl
  | some p =>
    obtain ⟨d, n⟩ := p
    obtain ⟨a1, a2, a3, a4, a5⟩ := a
    have := h d a1
    cases o' with
    | none =>
      have := b d a1
      omega
    | some p' =>
      obtain ⟨d', n'⟩ := p'
      obtain ⟨b1, b2, b3, b4, b5⟩ := b
      refine .inr ⟨_, _, rfl, rfl, ?_⟩
      show d' ≤ d
      refine Classical.byContradiction fun hn => ?_
      have := b5 d a1 (by omega)
      omega
end LT
set_option Elab.async false
set_option linter.all false
set_option maxRecDepth 100000
set_option maxHeartbeats 1600000
/-! Own layer: a plan and its book beside a pot, with no list of what was told. -/
namespace LT
open PySem PySem.Spec PyProof.Rows L2 NdefX LamX
structure PbD where
  P : Addr
  b : Addr
  la : Addr
  D : PlanD
  kn : Int
  es : List Evt
  fp : List Addr
def PbD.m (c : PbD) : List Addr := c.P :: c.fp
structure Pb (CB CH : Addr) (H : Hp) (p : Addr) (c : PbD) : Prop where
  pot : Pot H p
  hP : H c.P = some (.dK (planK c.D c.kn c.la))
  hI : PlanI (Ho (p :: c.m) H) c.D
  hG : PlanG c.D
  k0 : 0 ≤ c.kn
  la : LastOK (Ho (p :: c.m) H) c.la c.D.rk
  bk : Bk CB CH H c.b c.D.rk c.es c.fp
  kl : ∀ e ∈ c.es, e.kn ≤ c.kn
  wl : ∀ e ∈ c.es, ∀ n, e.w = .int n → n < 10 ^ 55
  pP : p ≠ c.P
  pf : p ∉ c.fp
  Pf : c.P ∉ c.fp
theorem Pb.ex {CB CH : Addr} {H : Hp} {p : Addr} {c : PbD} (h : Pb CB CH H p c) : ∀ a ∈ p :: c.m, ∃ o, H a = some o := by
  intro a ha
  rcases List.mem_cons.mp ha with rfl | ha
  · obtain ⟨x, y, e, _⟩ := h.pot
    exact ⟨_, e⟩
  rcases List.mem_cons.mp ha with rfl | ha
  · exact ⟨_, h.hP⟩
  · exact h.bk.ex a ha
theorem Pb.look {CB CH : Addr} {H H' : Hp} {p : Addr} {c : PbD} (h : Pb CB CH H p c) (hp : Pot H' p) (s : SameB p H H') : Pb CB CH H' p c := by
  have sl : SameL [p] H H' := SameL.ofB List.mem_cons_self s
  have si : Same (Ho (p :: c.m) H) (Ho (p :: c.m) H') := ho_step sl (fun a ha => by rw [List.mem_singleton.mp ha]; exact List.mem_cons_self) fun a ha => .inl ha
  exact ⟨hp, s _ _ (Ne.symm h.pP) h.hP, h.hI.mono si, h.hG, h.k0, h.la.mono si, h.bk.by fun x hx o e => s _ _ (fun z => h.pf (by rw [← z]; exact hx)) e, h.kl, h.wl, h.pP, h.pf, h.Pf⟩
theorem Pb.mono {CB CH : Addr} {H H' : Hp} {p : Addr} {c : PbD} (h : Pb CB CH H p c) (s : Same H H') : Pb CB CH H' p c := h.look (h.pot.mono s) (SameB.of s)
theorem Pb.extN {CB CH : Addr} {H H' : Hp} {p : Addr} {c : PbD} (h : Pb CB CH H p c) (e : ExtN H H') : Pb CB CH H' p c :=
  ⟨pot_extN h.pot e, e _ _ h.hP nofun, ⟨ho_extN e _ _ h.hI.hn nofun, ho_extN e _ _ h.hI.hr nofun, ho_extN e _ _ h.hI.hl nofun⟩, h.hG, h.k0, h.la.extN (ho_extN e), h.bk.extN e, h.kl, h.wl, h.pP, h.pf, h.Pf⟩
theorem Pb.pl {CB CH : Addr} {H : Hp} {p : Addr} {c : PbD} (h : Pb CB CH H p c) : ∀ a ∈ p :: c.m, ∀ o, H a = some o → Plain o := by
  intro a ha o e
  rcases List.mem_cons.mp ha with rfl | ha
  · exact pot_pl h.pot o e
  rcases List.mem_cons.mp ha with rfl | ha
  · rw [h.hP] at e
    cases e
    exact plain_dK
  · exact h.bk.pl a ha o e
theorem Pb.hn {CB CH : Addr} {H : Hp} {p : Addr} {c : PbD} (h : Pb CB CH H p c) : H c.D.n = some (.lst (c.D.zs.map V.str)) := ho_le _ _ h.hI.hn
theorem Pb.hl {CB CH : Addr} {H : Hp} {p : Addr} {c : PbD} (h : Pb CB CH H p c) : H c.D.l = some (.lst (c.D.ls.map V.str)) := ho_le _ _ h.hI.hl
theorem Pb.hr {CB CH : Addr} {H : Hp} {p : Addr} {c : PbD} (h : Pb CB CH H p c) : H c.D.r = some (.dK (sd c.D.rk)) := ho_le _ _ h.hI.hr
/-- an event made of the plan and told to the book -/
theorem Pb.told {CB CH : Addr} {H H1 H3 : Hp} {p la' : Addr} {c : PbD} {e : Evt} {fp' : List Addr} (h : Pb CB CH H p c) (s1 : SameL [p, c.P] H H1) (hla : LastAt (new H H1) la' (some e)) (ok : EvOK c.D.rk e) (hP1 : H1 c.P = some (.dK (planK c.D e.kn la'))) (hp1 : Pot H1 p) (kle : c.kn ≤ e.kn) (sm : ∀ n, e.w = .int n → n < 10 ^ 55)
    (bk3 : Bk CB CH H3 c.b c.D.rk (c.es ++ [e]) fp') (fr : ∀ a ∈ fp', a ∈ c.fp ∨ H1 a = none) (s3 : SameL c.fp H1 H3) :
    Pb CB CH H3 p { c with la := la', kn := e.kn, es := c.es ++ [e], fp := fp' } ∧ SameL (p :: c.m) H H3 ∧ (∀ a ∈ fp', a ∈ p :: c.m ∨ H a = none) := by
  have hp3 : Pot H3 p := by
    obtain ⟨x, y, e1, e2⟩ := hp1
    exact ⟨x, y, s3 _ _ h.pf e1, e2⟩
  have s03 : SameL (p :: c.m) H H3 := fun a o n e => by
    have n1 : a ∉ [p, c.P] := fun hm => n (by
      rcases List.mem_cons.mp hm with z | z
      · rw [z]; exact List.mem_cons_self
      · rw [List.mem_singleton.mp z]; exact List.mem_cons_of_mem _ List.mem_cons_self)
    exact s3 a o (fun hm => n (List.mem_cons_of_mem _ (List.mem_cons_of_mem _ hm))) (s1 a o n1 e)
  have fr0 : ∀ a ∈ fp', a ∈ p :: c.m ∨ H a = none := fun a ha => by
    rcases fr a ha with z | z
    · exact .inl (List.mem_cons_of_mem _ (List.mem_cons_of_mem _ z))
    · by_cases hm : a ∈ [p, c.P]
      · rcases List.mem_cons.mp hm with y | y
        · exact .inl (by rw [y]; exact List.mem_cons_self)
        · exact .inl (by rw [List.mem_singleton.mp y]; exact List.mem_cons_of_mem _ List.mem_cons_self)
      · exact .inr (s1.free z hm)
  have nf : ∀ {a : Addr} {o : HO}, (a = p ∨ a = c.P) → H1 a = some o → a ∉ fp' := fun {a o} ha e hm => by
    rcases fr a hm with z | z
    · rcases ha with rfl | rfl
      · exact h.pf z
      · exact h.Pf z
    · rw [e] at z
      cases z
  have pf' : p ∉ fp' := by
    obtain ⟨x, y, e1, _⟩ := hp1
    exact nf (.inl rfl) e1
  have Pf' : c.P ∉ fp' := nf (.inr rfl) hP1
  have sI : Same (Ho (p :: c.m) H) (Ho (p :: PbD.m { c with la := la', kn := e.kn, es := c.es ++ [e], fp := fp' }) H3) := ho_step s03 (fun a ha => ha) fun a ha => by
    rcases List.mem_cons.mp ha with z | z
    · exact .inl (by rw [z]; exact List.mem_cons_self)
    rcases List.mem_cons.mp z with z | z
    · exact .inl (by rw [z]; exact List.mem_cons_of_mem _ List.mem_cons_self)
    · exact fr0 a z
  have sN : Same (new H H1) (Ho (p :: PbD.m { c with la := la', kn := e.kn, es := c.es ++ [e], fp := fp' }) H3) := fun a o e => by
    obtain ⟨e0, e1⟩ := new_iff.mp e
    have no : ∀ x ∈ p :: c.m, a ≠ x := fun x hx z => by
      obtain ⟨o', ho⟩ := h.ex x hx
      rw [← z, e0] at ho
      cases ho
    refine ho_in (fun hm => ?_) (s3 a o (fun hm => no a (List.mem_cons_of_mem _ (List.mem_cons_of_mem _ hm)) rfl) e1)
    rcases List.mem_cons.mp hm with z | z
    · exact no p List.mem_cons_self z
    rcases List.mem_cons.mp z with z | z
    · exact no c.P (List.mem_cons_of_mem _ List.mem_cons_self) z
    · rcases fr a z with y | y
      · exact no a (List.mem_cons_of_mem _ (List.mem_cons_of_mem _ y)) rfl
      · rw [e1] at y
        cases y
  refine ⟨⟨hp3, s3 _ _ h.Pf hP1, h.hI.mono sI, h.hG, Int.le_trans h.k0 kle, ⟨some e, hla.mono sN, fun x hx => by cases hx; exact ok⟩, bk3, fun x hx => ?_, fun x hx => ?_, h.pP, pf', Pf'⟩, s03, fr0⟩
  · rcases List.mem_append.mp hx with hx | hx
    · exact Int.le_trans (h.kl x hx) kle
    · rw [List.mem_singleton.mp hx]
      exact Int.le_refl _
  · rcases List.mem_append.mp hx with hx | hx
    · exact h.wl x hx
    · rw [List.mem_singleton.mp hx]
      exact sm
theorem Pb.land {CB CH : Addr} {H : Hp} {p : Addr} {c : PbD} (h : Pb CB CH H p c) (z : Str) (R d : Int) : (shopOf c.es c.D.rk z none R).land d < 10 ^ 55 := by
  rw [land_held]
  show numI (heldE c.es false z none d) < _
  unfold heldE
  cases e : heldO c.es false z none d with
  | none => show (0 : Int) < 10 ^ 55; decide
  | some w =>
    obtain ⟨x, hx, _, hw⟩ := heldO_mem e
    show numI w < _
    rw [← hw]
    cases hv : x.w with
    | int n => exact h.wl x hx n hv
    | _ => show (0 : Int) < 10 ^ 55; decide
/-! ### what a book is made of -/
def OwnO (o : HO) : Prop := (∃ C d fs, o = .ins C d fs) ∨ ∃ r, o = .dK r
theorem HistAt.own {C : Addr} {H : Hp} {a : HA} (h : HistAt C H a) : ∀ c ∈ a.fp, ∀ o, H c = some o → OwnO o := by
  intro c hc o e
  rcases List.mem_cons.mp hc with rfl | hc
  · rw [h.ix] at e
    cases e
    exact .inl ⟨_, _, _, rfl⟩
  rcases List.mem_cons.mp hc with rfl | hc
  · rw [h.bd] at e
    cases e
    exact .inr ⟨_, rfl⟩
  obtain ⟨p, hp, rfl⟩ := List.mem_map.mp hc
  obtain ⟨i, hi⟩ := List.getElem?_of_mem hp
  obtain ⟨e', _, _, h2⟩ := paired_get h.ta hi
  rw [h2] at e
  cases e
  exact .inr ⟨_, rfl⟩
theorem Bk.own {CB CH : Addr} {H : Hp} {b : Addr} {rk : List (Str × Int)} {es : List Evt} {fp : List Addr} (k : Bk CB CH H b rk es fp) : ∀ c ∈ fp, ∀ o, H c = some o → OwnO o := by
  obtain ⟨B, rfl, rfl, rfl, rfl, h, _⟩ := k
  intro c hc o e
  rcases List.mem_cons.mp hc with rfl | hc
  · rw [h.ix] at e
    cases e
    exact .inl ⟨_, _, _, rfl⟩
  rcases List.mem_cons.mp hc with rfl | hc
  · rw [h.rd] at e
    cases e
    exact .inr ⟨_, rfl⟩
  rcases List.mem_cons.mp hc with rfl | hc
  · rw [h.md] at e
    cases e
    exact .inr ⟨_, rfl⟩
  rcases List.mem_cons.mp hc with rfl | hc
  · rw [h.ldd] at e
    cases e
    exact .inr ⟨_, rfl⟩
  rcases List.mem_append.mp hc with hc | hc
  · obtain ⟨x, hx, hc⟩ := hsfp_mem.mp hc
    exact (h.hm x hx).own c hc o e
  · obtain ⟨x, hx, hc⟩ := hsfp_mem.mp hc
    exact (h.hl x hx).own c hc o e
theorem Bk.nt {CB CH : Addr} {H : Hp} {b : Addr} {rk : List (Str × Int)} {es : List Evt} {fp : List Addr} (k : Bk CB CH H b rk es fp) {t : Addr} {xs : List V} (e : H t = some (.tup xs)) : t ∉ fp := fun h => by
  rcases k.own t h _ e with ⟨_, _, _, z⟩ | ⟨_, z⟩ <;> cases z
theorem Bk.nl {CB CH : Addr} {H : Hp} {b : Addr} {rk : List (Str × Int)} {es : List Evt} {fp : List Addr} (k : Bk CB CH H b rk es fp) {t : Addr} {xs : List V} (e : H t = some (.lst xs)) : t ∉ fp := fun h => by
  rcases k.own t h _ e with ⟨_, _, _, z⟩ | ⟨_, z⟩ <;> cases z
/-! ### all but tables and the pot -/
def ExtP (p : Addr) (H H' : Hp) : Prop := ∀ a o, a ≠ p → H a = some o → (∀ ps, o ≠ .tbl ps) → H' a = some o
theorem ExtP.trans {p : Addr} {H H1 H2 : Hp} (a : ExtP p H H1) (b : ExtP p H1 H2) : ExtP p H H2 := fun x o n h t => b x o n (a x o n h t) t
theorem ExtP.L {p : Addr} {fp : List Addr} {H H1 H2 : Hp} (e : ExtP p H H1) (n : ∀ c ∈ fp, NewN H c) (s : SameL fp H1 H2) : ExtP p H H2 := fun c o np h t => s c o (fun m => by
  obtain ⟨ps, z⟩ := n c m o h
  exact t ps z) (e c o np h t)
end LT
set_option Elab.async false
set_option linter.all false
set_option maxRecDepth 100000
namespace K91
open PySem PySem.Spec PyProof.Rows L2 LT NdefX
def topS (i : Nat) : Stmt := PySem.Challenge.pw_lightturns_k91_clashes.main.body.getD i (.Pass ⟨0, 0, 0, 0⟩)
abbrev s_is_name : Stmt := topS 15
abbrev s_is_place : Stmt := topS 18
abbrev s_is_whole : Stmt := topS 20
abbrev s_is_from : Stmt := topS 21
abbrev s_is_within : Stmt := topS 22
abbrev s_is_day : Stmt := topS 23
abbrev s_check_day : Stmt := topS 25
abbrev s_check_known : Stmt := topS 26
abbrev s_check_days : Stmt := topS 27
abbrev s_check_light : Stmt := topS 28
abbrev s_check_place : Stmt := topS 29
abbrev s_check_number : Stmt := topS 30
abbrev s_History___init__ : Stmt := inClass (topS 32) 0
abbrev s_History_note : Stmt := inClass (topS 32) 1
abbrev s_History_all_told : Stmt := inClass (topS 32) 2
abbrev s_History_told_last : Stmt := inClass (topS 32) 3
abbrev s_History_holding : Stmt := inClass (topS 32) 4
abbrev s_Book___init__ : Stmt := inClass (topS 37) 0
abbrev s_Book_ranks : Stmt := inClass (topS 37) 1
abbrev s_Book_tell : Stmt := inClass (topS 37) 2
abbrev s_Book_land : Stmt := inClass (topS 37) 3
abbrev s_Book_where : Stmt := inClass (topS 37) 5
abbrev s_Book_landed : Stmt := inClass (topS 37) 6
abbrev s_Book_moves_known : Stmt := inClass (topS 37) 7
abbrev s_Book_landings_known : Stmt := inClass (topS 37) 8
abbrev s_Book_entries : Stmt := inClass (topS 37) 9
abbrev s_Book_twin : Stmt := inClass (topS 37) 10
abbrev s_Book___eq__ : Stmt := inClass (topS 37) 11
abbrev s_Book___len__ : Stmt := inClass (topS 37) 12
abbrev s_book_of : Stmt := topS 38
abbrev s_check_keeper : Stmt := topS 39
abbrev s_check_not_early : Stmt := topS 40
abbrev s_are_ranks : Stmt := topS 41
abbrev s_clashes : Stmt := topS 43
abbrev s__law_cell : Stmt := topS 45
abbrev s__law_pot : Stmt := topS 46
abbrev s__law_take : Stmt := topS 47
abbrev s__law_word : Stmt := topS 48
abbrev s__law_unlike : Stmt := topS 49
abbrev s__law_far : Stmt := topS 50
abbrev s__law_plan : Stmt := topS 51
abbrev s__law_key : Stmt := topS 52
abbrev s__law_worth : Stmt := topS 53
abbrev s__law_book : Stmt := topS 54
abbrev s__law_pair : Stmt := topS 55
abbrev s__law_due : Stmt := topS 56
abbrev s__law_right : Stmt := topS 57
abbrev s__law_stay : Stmt := topS 58
abbrev s_law : Stmt := topS 59
/-- all that the top has left -/
structure All (K : PySem.W.Frag) (P : Program) (mg : Str → Option Value) : Type where
  T : Tx mg
  t_SMALL_LETTERS : Tok
  g_SMALL_LETTERS : mg "SMALL_LETTERS" = some (.str (Str.ofString "abcdefghijklmnopqrstuvwxyz") t_SMALL_LETTERS)
  t_LONGEST_NAME : Tok
  g_LONGEST_NAME : mg "LONGEST_NAME" = some (.int (8) t_LONGEST_NAME)
  t_ASHORE : Tok
  g_ASHORE : mg "ASHORE" = some (.str (Str.ofString "") t_ASHORE)
  t_MOST_KEEPERS : Tok
  g_MOST_KEEPERS : mg "MOST_KEEPERS" = some (.int (30) t_MOST_KEEPERS)
  t_HIGHEST_RANK : Tok
  g_HIGHEST_RANK : mg "HIGHEST_RANK" = some (.int (1) t_HIGHEST_RANK)
  t_LOWEST_RANK : Tok
  g_LOWEST_RANK : mg "LOWEST_RANK" = some (.int (9) t_LOWEST_RANK)
  C_History : Addr
  Z_History : ClF K mg "History" C_History
  n_History_by_day : PySem.W.findIn K (.ref C_History) "by_day" = some none
  C_Book : Addr
  Z_Book : ClF K mg "Book" C_Book
  n_Book_rank_of : PySem.W.findIn K (.ref C_Book) "rank_of" = some none
  n_Book_moves : PySem.W.findIn K (.ref C_Book) "moves" = some none
  n_Book_landings : PySem.W.findIn K (.ref C_Book) "landings" = some none
  n_Book_latest_known : PySem.W.findIn K (.ref C_Book) "latest_known" = some none
  I_Book : IsC K C_Book
  f_History___init__ : Addr
  d_History___init__ : FuncData
  h_History___init__ : Mth K C_History "__init__" "History.__init__" ["self"] s_History___init__ f_History___init__ d_History___init__
  M_History : Mk K C_History f_History___init__
  f_History_note : Addr
  d_History_note : FuncData
  h_History_note : Mth K C_History "note" "History.note" ["self", "known", "day", "worth"] s_History_note f_History_note d_History_note
  f_History_all_told : Addr
  d_History_all_told : FuncData
  h_History_all_told : Mth K C_History "all_told" "History.all_told" ["self"] s_History_all_told f_History_all_told d_History_all_told
  f_History_told_last : Addr
  d_History_told_last : FuncData
  h_History_told_last : Mth K C_History "told_last" "History.told_last" ["self", "day", "known"] s_History_told_last f_History_told_last d_History_told_last
  f_History_holding : Addr
  d_History_holding : FuncData
  h_History_holding : Mth K C_History "holding" "History.holding" ["self", "known"] s_History_holding f_History_holding d_History_holding
  f_Book___init__ : Addr
  d_Book___init__ : FuncData
  h_Book___init__ : Mth K C_Book "__init__" "Book.__init__" ["self", "ranks"] s_Book___init__ f_Book___init__ d_Book___init__
  M_Book : Mk K C_Book f_Book___init__
  f_Book_ranks : Addr
  d_Book_ranks : FuncData
  h_Book_ranks : Mth K C_Book "ranks" "Book.ranks" ["self"] s_Book_ranks f_Book_ranks d_Book_ranks
  f_Book_tell : Addr
  d_Book_tell : FuncData
  h_Book_tell : Mth K C_Book "tell" "Book.tell" ["self", "known", "keeper", "day", "place"] s_Book_tell f_Book_tell d_Book_tell
  f_Book_land : Addr
  d_Book_land : FuncData
  h_Book_land : Mth K C_Book "land" "Book.land" ["self", "known", "light", "day", "weight"] s_Book_land f_Book_land d_Book_land
  f_Book_moves_known : Addr
  d_Book_moves_known : FuncData
  h_Book_moves_known : Mth K C_Book "moves_known" "Book.moves_known" ["self", "keeper", "known"] s_Book_moves_known f_Book_moves_known d_Book_moves_known
  f_Book_landings_known : Addr
  d_Book_landings_known : FuncData
  h_Book_landings_known : Mth K C_Book "landings_known" "Book.landings_known" ["self", "light", "known"] s_Book_landings_known f_Book_landings_known d_Book_landings_known
  f_Book_twin : Addr
  d_Book_twin : FuncData
  h_Book_twin : Mth K C_Book "twin" "Book.twin" ["self"] s_Book_twin f_Book_twin d_Book_twin
  f_Book___eq__ : Addr
  d_Book___eq__ : FuncData
  h_Book___eq__ : Mth K C_Book "__eq__" "Book.__eq__" ["self", "other"] s_Book___eq__ f_Book___eq__ d_Book___eq__
  Q_Book : EqC K C_Book f_Book___eq__
  f_Book___len__ : Addr
  d_Book___len__ : FuncData
  h_Book___len__ : Mth K C_Book "__len__" "Book.__len__" ["self"] s_Book___len__ f_Book___len__ d_Book___len__
  f_Book_where : Addr
  d_Book_where : FuncData
  q_Book_where : FunD K "where" "Book.where" (defArgs s_Book_where) (defBody s_Book_where) (defScope s_Book_where) [.non] [] f_Book_where d_Book_where
  me_Book_where : Meth K C_Book "where" f_Book_where
  f_Book_landed : Addr
  d_Book_landed : FuncData
  q_Book_landed : FunD K "landed" "Book.landed" (defArgs s_Book_landed) (defBody s_Book_landed) (defScope s_Book_landed) [.non] [] f_Book_landed d_Book_landed
  me_Book_landed : Meth K C_Book "landed" f_Book_landed
  f_is_name : Addr
  d_is_name : FuncData
  h_is_name : Has K mg "is_name" ["thing"] s_is_name f_is_name d_is_name
  f_is_place : Addr
  d_is_place : FuncData
  h_is_place : Has K mg "is_place" ["thing"] s_is_place f_is_place d_is_place
  f_is_whole : Addr
  d_is_whole : FuncData
  h_is_whole : Has K mg "is_whole" ["thing"] s_is_whole f_is_whole d_is_whole
  f_is_from : Addr
  d_is_from : FuncData
  h_is_from : Has K mg "is_from" ["thing", "least"] s_is_from f_is_from d_is_from
  f_is_within : Addr
  d_is_within : FuncData
  h_is_within : Has K mg "is_within" ["thing", "least", "most"] s_is_within f_is_within d_is_within
  f_is_day : Addr
  d_is_day : FuncData
  h_is_day : Has K mg "is_day" ["thing"] s_is_day f_is_day d_is_day
  f_check_day : Addr
  d_check_day : FuncData
  h_check_day : Has K mg "check_day" ["thing"] s_check_day f_check_day d_check_day
  f_check_known : Addr
  d_check_known : FuncData
  h_check_known : Has K mg "check_known" ["thing"] s_check_known f_check_known d_check_known
  f_check_days : Addr
  d_check_days : FuncData
  h_check_days : Has K mg "check_days" ["day", "known"] s_check_days f_check_days d_check_days
  f_check_light : Addr
  d_check_light : FuncData
  h_check_light : Has K mg "check_light" ["thing"] s_check_light f_check_light d_check_light
  f_check_place : Addr
  d_check_place : FuncData
  h_check_place : Has K mg "check_place" ["thing"] s_check_place f_check_place d_check_place
  f_check_number : Addr
  d_check_number : FuncData
  h_check_number : Has K mg "check_number" ["thing", "least"] s_check_number f_check_number d_check_number
  f_check_keeper : Addr
  d_check_keeper : FuncData
  h_check_keeper : Has K mg "check_keeper" ["book", "thing"] s_check_keeper f_check_keeper d_check_keeper
  f_check_not_early : Addr
  d_check_not_early : FuncData
  h_check_not_early : Has K mg "check_not_early" ["book", "known"] s_check_not_early f_check_not_early d_check_not_early
  f_are_ranks : Addr
  d_are_ranks : FuncData
  h_are_ranks : Has K mg "are_ranks" ["thing"] s_are_ranks f_are_ranks d_are_ranks
  f_clashes : Addr
  d_clashes : FuncData
  h_clashes : Has K mg "clashes" ["one", "other"] s_clashes f_clashes d_clashes
  f__law_cell : Addr
  d__law_cell : FuncData
  h__law_cell : Has K mg "_law_cell" ["_law_script", "_law_k"] s__law_cell f__law_cell d__law_cell
  f__law_pot : Addr
  d__law_pot : FuncData
  h__law_pot : Has K mg "_law_pot" ["_law_script", "_law_k"] s__law_pot f__law_pot d__law_pot
  f__law_take : Addr
  d__law_take : FuncData
  h__law_take : Has K mg "_law_take" ["_law_pot_here", "_law_room"] s__law_take f__law_take d__law_take
  f__law_word : Addr
  d__law_word : FuncData
  h__law_word : Has K mg "_law_word" ["_law_pot_here"] s__law_word f__law_word d__law_word
  f__law_unlike : Addr
  d__law_unlike : FuncData
  h__law_unlike : Has K mg "_law_unlike" ["_law_pot_here", "_law_many"] s__law_unlike f__law_unlike d__law_unlike
  f__law_far : Addr
  d__law_far : FuncData
  h__law_far : Has K mg "_law_far" ["_law_pot_here"] s__law_far f__law_far d__law_far
  f__law_plan : Addr
  d__law_plan : FuncData
  h__law_plan : Has K mg "_law_plan" ["_law_pot_here"] s__law_plan f__law_plan d__law_plan
  f__law_key : Addr
  d__law_key : FuncData
  h__law_key : Has K mg "_law_key" ["_law_pot_here", "_law_plan_here", "_law_names"] s__law_key f__law_key d__law_key
  f__law_worth : Addr
  d__law_worth : FuncData
  h__law_worth : Has K mg "_law_worth" ["_law_pot_here", "_law_plan_here", "_law_mark"] s__law_worth f__law_worth d__law_worth
  f__law_pair : Addr
  d__law_pair : FuncData
  h__law_pair : Has K mg "_law_pair" ["_law_pot_here", "_law_plan_here"] s__law_pair f__law_pair d__law_pair
  f__law_due : Addr
  d__law_due : FuncData
  h__law_due : Has K mg "_law_due" ["_law_ranks", "_law_entries"] s__law_due f__law_due d__law_due
  f__law_right : Addr
  d__law_right : FuncData
  h__law_right : Has K mg "_law_right" ["_law_mine", "_law_theirs", "_law_due_here"] s__law_right f__law_right d__law_right
  f__law_stay : Addr
  d__law_stay : FuncData
  h__law_stay : Has K mg "_law_stay" ["_law_books", "_law_ranks", "_law_entries"] s__law_stay f__law_stay d__law_stay
  f_Book_entries : Addr
  d_Book_entries : FuncData
  c_Book_entries : Addr
  p_Book_entries : Addr
  L_Book_entries : FunC K "entries" "Book.entries" s_Book_entries f_Book_entries c_Book_entries d_Book_entries
  lb_Book_entries : L2.Binds K d_Book_entries ["self"] []
  me_Book_entries : Meth K C_Book "entries" f_Book_entries
  f_book_of : Addr
  d_book_of : FuncData
  c_book_of : Addr
  p_book_of : Addr
  L_book_of : FunC K "book_of" "book_of" s_book_of f_book_of c_book_of d_book_of
  lb_book_of : L2.Binds K d_book_of ["ranks", "entries"] []
  gl_book_of : mg "book_of" = some (.ref f_book_of)
  f__law_book : Addr
  d__law_book : FuncData
  c__law_book : Addr
  p__law_book : Addr
  L__law_book : FunC K "_law_book" "_law_book" s__law_book f__law_book c__law_book d__law_book
  lb__law_book : L2.Binds K d__law_book ["_law_ranks", "_law_entries"] []
  gl__law_book : mg "_law_book" = some (.ref f__law_book)
  ne_Book_entries_book_of : p_Book_entries ≠ p_book_of
  ne_Book_entries__law_book : p_Book_entries ≠ p__law_book
  ne_book_of__law_book : p_book_of ≠ p__law_book
def q_lam_Book_entries : Str := (envOfC "Book.entries" (defScope s_Book_entries) 0 0 .none).qual ++ "<lambda>"
def q_lam_book_of : Str := (envOfC "book_of" (defScope s_book_of) 0 0 .none).qual ++ "<lambda>"
def q_lam__law_book : Str := (envOfC "_law_book" (defScope s__law_book) 0 0 .none).qual ++ "<lambda>"
/-- the tables of code that lambdas grow -/
def TLs {K : PySem.W.Frag} {P : Program} {mg : Str → Option Value} (D : All K P mg) : List (Addr × Str) := [(D.p_Book_entries, q_lam_Book_entries), (D.p_book_of, q_lam_book_of), (D.p__law_book, q_lam__law_book)]
structure TBs {K : PySem.W.Frag} {P : Program} {mg : Str → Option Value} (D : All K P mg) (base : Heap) : Prop where
  t_Book_entries : LamX.TabB base mg D.c_Book_entries D.p_Book_entries
  t_book_of : LamX.TabB base mg D.c_book_of D.p_book_of
  t__law_book : LamX.TabB base mg D.c__law_book D.p__law_book
theorem All.mem_Book_entries {K : PySem.W.Frag} {P : Program} {mg : Str → Option Value} (D : All K P mg) : (D.p_Book_entries, q_lam_Book_entries) ∈ TLs D := .head _
theorem All.uq_Book_entries {K : PySem.W.Frag} {P : Program} {mg : Str → Option Value} (D : All K P mg) : ∀ p ∈ TLs D, p.1 = D.p_Book_entries → p.2 = q_lam_Book_entries := fun p hp e => by
  rcases List.mem_cons.mp hp with rfl | hp
  · rfl
  rcases List.mem_cons.mp hp with rfl | hp
  · exact absurd e.symm D.ne_Book_entries_book_of
  rcases List.mem_cons.mp hp with rfl | hp
  · exact absurd e.symm D.ne_Book_entries__law_book
  cases hp
theorem All.mem_book_of {K : PySem.W.Frag} {P : Program} {mg : Str → Option Value} (D : All K P mg) : (D.p_book_of, q_lam_book_of) ∈ TLs D := .tail _ (.head _)
theorem All.uq_book_of {K : PySem.W.Frag} {P : Program} {mg : Str → Option Value} (D : All K P mg) : ∀ p ∈ TLs D, p.1 = D.p_book_of → p.2 = q_lam_book_of := fun p hp e => by
  rcases List.mem_cons.mp hp with rfl | hp
  · exact absurd e D.ne_Book_entries_book_of
  rcases List.mem_cons.mp hp with rfl | hp
  · rfl
  rcases List.mem_cons.mp hp with rfl | hp
  · exact absurd e.symm D.ne_book_of__law_book
  cases hp
theorem All.mem__law_book {K : PySem.W.Frag} {P : Program} {mg : Str → Option Value} (D : All K P mg) : (D.p__law_book, q_lam__law_book) ∈ TLs D := .tail _ (.tail _ (.head _))
theorem All.uq__law_book {K : PySem.W.Frag} {P : Program} {mg : Str → Option Value} (D : All K P mg) : ∀ p ∈ TLs D, p.1 = D.p__law_book → p.2 = q_lam__law_book := fun p hp e => by
  rcases List.mem_cons.mp hp with rfl | hp
  · exact absurd e D.ne_Book_entries__law_book
  rcases List.mem_cons.mp hp with rfl | hp
  · exact absurd e D.ne_book_of__law_book
  rcases List.mem_cons.mp hp with rfl | hp
  · rfl
  cases hp
end K91
set_option Elab.async false
set_option linter.all false
set_option maxRecDepth 100000
set_option maxHeartbeats 1600000
set_option pp.maxSteps 300
namespace K91
open PySem PySem.Spec PyProof.Rows L2 LT NdefX LamX
section
variable {P : Program} {w : World} {K : PySem.W.Frag} {mg : Str → Option Value} {base : Heap}
theorem sc_is_whole : FnScope ["thing"] ["thing"] (defScope s_is_whole) := ⟨rfl, rfl, rfl, by decide +kernel, rfl, by decide +kernel, by decide +kernel⟩
theorem ok_is_whole (D : All K P mg) : FnOk P w K mg base CX0 1 D.f_is_whole D.d_is_whole ["thing"] spWhole := by
  refine D.h_is_whole.fn.ok sc_is_whole (fun vs H Q E h => ?_) (fun cdv A outer s H vs Q E hr h => ?_)
  · first | (obtain ⟨_, rfl, _⟩ := h; rfl) | (obtain ⟨_, _, rfl, _⟩ := h; rfl) | (obtain ⟨_, _, _, rfl, _⟩ := h; rfl) | (obtain ⟨_, _, _, _, rfl, _⟩ := h; rfl) | (obtain ⟨_, _, _, _, _, rfl, _⟩ := h; rfl) | (obtain ⟨_, _, _, _, _, _, rfl, _⟩ := h; rfl) | (obtain ⟨_, _, _, _, _, _, _, rfl, _⟩ := h; rfl) | (obtain ⟨_, _, _, _, _, _, _, _, rfl, _⟩ := h; rfl) | (obtain ⟨_, _, _, _, _, _, _, _, _, rfl, _⟩ := h; rfl) | (obtain ⟨_, _, _, _, _, _, _, _, _, _, rfl, _⟩ := h; rfl) | (obtain ⟨_, _, _, _, _, _, _, _, _, _, _, rfl, _⟩ := h; rfl) | (obtain ⟨_, _, _, _, _, _, _, _, _, _, _, _, rfl, _⟩ := h; rfl) | (obtain ⟨_, _, _, _, _, _, _, _, _, _, _, _, _, rfl, _⟩ := h; rfl) | (obtain ⟨_, _, _, _, _, _, _, _, _, _, _, _, _, _, rfl, _⟩ := h; rfl) | (obtain ⟨_, _, _, _, _, _, _, _, _, _, _, _, _, _, _, rfl, _⟩ := h; rfl)
  · have T := D.T
    have nd := sc_is_whole.nd
    have hu := hr.units
    have hu1 := hu_of hr
    have hu0 := hr.units0
    obtain ⟨v, rfl, hv, q⟩ := h
    refine ⟨_, pss_one (ps_ret (pe_and (pe_callB call_isi (by rfl) T.isi (by decide +kernel) (pa_cons (pv 0) (pa_cons (pe_bltn (v := .ty "int") (by rfl) T.int (by decide +kernel) rfl) pa_nil))) (pe_one (pe_not (pe_callB call_isi (by rfl) T.isi (by decide +kernel) (pa_cons (pv 0) (pa_cons (pe_bltn (v := .ty "bool") (by rfl) T.bool (by decide +kernel) rfl) pa_nil))))))), ?_⟩
    obtain ⟨t, ty, k1, k2⟩ := hv.ty (K := K)
    refine ⟨_, rfl, v, .ty "int", t, _, isInt v, rfl, .ty _, ty, k1, _, rfl, ?_⟩
    rw [← whole_eq v] at q
    cases hb : isInt v with
    | false =>
      rw [hb] at q
      exact q
    | true =>
      rw [hb] at q
      exact ⟨_, rfl, v, .ty "bool", t, _, isBl v, rfl, .ty _, ty, k2, _, rfl, q⟩
theorem sc_is_from : FnScope ["thing", "least"] ["thing", "least"] (defScope s_is_from) := ⟨rfl, rfl, rfl, by decide +kernel, rfl, by decide +kernel, by decide +kernel⟩
theorem ok_is_from (D : All K P mg) : FnOk P w K mg base CX0 2 D.f_is_from D.d_is_from ["thing", "least"] spFromB := by
  refine D.h_is_from.fn.ok sc_is_from (fun vs H Q E h => ?_) (fun cdv A outer s H vs Q E hr h => ?_)
  · first | (obtain ⟨_, rfl, _⟩ := h; rfl) | (obtain ⟨_, _, rfl, _⟩ := h; rfl) | (obtain ⟨_, _, _, rfl, _⟩ := h; rfl) | (obtain ⟨_, _, _, _, rfl, _⟩ := h; rfl) | (obtain ⟨_, _, _, _, _, rfl, _⟩ := h; rfl) | (obtain ⟨_, _, _, _, _, _, rfl, _⟩ := h; rfl) | (obtain ⟨_, _, _, _, _, _, _, rfl, _⟩ := h; rfl) | (obtain ⟨_, _, _, _, _, _, _, _, rfl, _⟩ := h; rfl) | (obtain ⟨_, _, _, _, _, _, _, _, _, rfl, _⟩ := h; rfl) | (obtain ⟨_, _, _, _, _, _, _, _, _, _, rfl, _⟩ := h; rfl) | (obtain ⟨_, _, _, _, _, _, _, _, _, _, _, rfl, _⟩ := h; rfl) | (obtain ⟨_, _, _, _, _, _, _, _, _, _, _, _, rfl, _⟩ := h; rfl) | (obtain ⟨_, _, _, _, _, _, _, _, _, _, _, _, _, rfl, _⟩ := h; rfl) | (obtain ⟨_, _, _, _, _, _, _, _, _, _, _, _, _, _, rfl, _⟩ := h; rfl) | (obtain ⟨_, _, _, _, _, _, _, _, _, _, _, _, _, _, _, rfl, _⟩ := h; rfl)
  · have T := D.T
    have nd := sc_is_from.nd
    have hu := hr.units
    have hu1 := hu_of hr
    have hu0 := hr.units0
    obtain ⟨v, l, rfl, hv, q⟩ := h
    refine ⟨_, pss_one (ps_ret (pe_and (pe_call (ok_is_whole D) (hr.mono (by decide)) (by rfl) D.h_is_whole.gl D.h_is_whole.fn.kp D.h_is_whole.bd .nil pass0 (pa_cons (pv 0) pa_nil)) (pe_one (pe_cmpR op_ge (pv 0) (pv 1) (nomark _))))), ?_⟩
    refine ⟨_, rfl, v, rfl, hv, _, rfl, ?_⟩
    cases hv with
    | int i => exact ⟨_, rfl, _, rfl, _, _, rfl, rfl, q⟩
    | _ => exact q
theorem sc_is_within : FnScope ["thing", "least", "most"] ["thing", "least", "most"] (defScope s_is_within) := ⟨rfl, rfl, rfl, by decide +kernel, rfl, by decide +kernel, by decide +kernel⟩
theorem ok_is_within (D : All K P mg) : FnOk P w K mg base CX0 2 D.f_is_within D.d_is_within ["thing", "least", "most"] spWithin := by
  refine D.h_is_within.fn.ok sc_is_within (fun vs H Q E h => ?_) (fun cdv A outer s H vs Q E hr h => ?_)
  · first | (obtain ⟨_, rfl, _⟩ := h; rfl) | (obtain ⟨_, _, rfl, _⟩ := h; rfl) | (obtain ⟨_, _, _, rfl, _⟩ := h; rfl) | (obtain ⟨_, _, _, _, rfl, _⟩ := h; rfl) | (obtain ⟨_, _, _, _, _, rfl, _⟩ := h; rfl) | (obtain ⟨_, _, _, _, _, _, rfl, _⟩ := h; rfl) | (obtain ⟨_, _, _, _, _, _, _, rfl, _⟩ := h; rfl) | (obtain ⟨_, _, _, _, _, _, _, _, rfl, _⟩ := h; rfl) | (obtain ⟨_, _, _, _, _, _, _, _, _, rfl, _⟩ := h; rfl) | (obtain ⟨_, _, _, _, _, _, _, _, _, _, rfl, _⟩ := h; rfl) | (obtain ⟨_, _, _, _, _, _, _, _, _, _, _, rfl, _⟩ := h; rfl) | (obtain ⟨_, _, _, _, _, _, _, _, _, _, _, _, rfl, _⟩ := h; rfl) | (obtain ⟨_, _, _, _, _, _, _, _, _, _, _, _, _, rfl, _⟩ := h; rfl) | (obtain ⟨_, _, _, _, _, _, _, _, _, _, _, _, _, _, rfl, _⟩ := h; rfl) | (obtain ⟨_, _, _, _, _, _, _, _, _, _, _, _, _, _, _, rfl, _⟩ := h; rfl)
  · have T := D.T
    have nd := sc_is_within.nd
    have hu := hr.units
    have hu1 := hu_of hr
    have hu0 := hr.units0
    obtain ⟨v, l, m, rfl, hv, q⟩ := h
    refine ⟨_, pss_one (ps_ret (pe_and (pe_call (ok_is_whole D) (hr.mono (by decide)) (by rfl) D.h_is_whole.gl D.h_is_whole.fn.kp D.h_is_whole.bd .nil pass0 (pa_cons (pv 0) pa_nil)) (pe_one (pe_chain op_le op_le (pv 1) (pv 0) (pv 2))))), ?_⟩
    refine ⟨_, rfl, v, rfl, hv, _, rfl, ?_⟩
    cases hv with
    | int i =>
      refine ⟨_, rfl, _, rfl, l, i, rfl, rfl, _, rfl, ?_⟩
      have q' : Q (.bl (decide (l ≤ i) && decide (i ≤ m))) H := q
      cases h : decide (l ≤ i) with
      | true =>
        rw [h] at q'
        exact ⟨_, rfl, i, m, rfl, rfl, q'⟩
      | false =>
        rw [h] at q'
        exact q'
    | _ => exact q
theorem sc_is_day : FnScope ["thing"] ["thing"] (defScope s_is_day) := ⟨rfl, rfl, rfl, by decide +kernel, rfl, by decide +kernel, by decide +kernel⟩
theorem ok_is_day (D : All K P mg) : FnOk P w K mg base CX0 3 D.f_is_day D.d_is_day ["thing"] spDayB := by
  refine D.h_is_day.fn.ok sc_is_day (fun vs H Q E h => ?_) (fun cdv A outer s H vs Q E hr h => ?_)
  · first | (obtain ⟨_, rfl, _⟩ := h; rfl) | (obtain ⟨_, _, rfl, _⟩ := h; rfl) | (obtain ⟨_, _, _, rfl, _⟩ := h; rfl) | (obtain ⟨_, _, _, _, rfl, _⟩ := h; rfl) | (obtain ⟨_, _, _, _, _, rfl, _⟩ := h; rfl) | (obtain ⟨_, _, _, _, _, _, rfl, _⟩ := h; rfl) | (obtain ⟨_, _, _, _, _, _, _, rfl, _⟩ := h; rfl) | (obtain ⟨_, _, _, _, _, _, _, _, rfl, _⟩ := h; rfl) | (obtain ⟨_, _, _, _, _, _, _, _, _, rfl, _⟩ := h; rfl) | (obtain ⟨_, _, _, _, _, _, _, _, _, _, rfl, _⟩ := h; rfl) | (obtain ⟨_, _, _, _, _, _, _, _, _, _, _, rfl, _⟩ := h; rfl) | (obtain ⟨_, _, _, _, _, _, _, _, _, _, _, _, rfl, _⟩ := h; rfl) | (obtain ⟨_, _, _, _, _, _, _, _, _, _, _, _, _, rfl, _⟩ := h; rfl) | (obtain ⟨_, _, _, _, _, _, _, _, _, _, _, _, _, _, rfl, _⟩ := h; rfl) | (obtain ⟨_, _, _, _, _, _, _, _, _, _, _, _, _, _, _, rfl, _⟩ := h; rfl)
  · have T := D.T
    have nd := sc_is_day.nd
    have hu := hr.units
    have hu1 := hu_of hr
    have hu0 := hr.units0
    obtain ⟨v, rfl, hv, q⟩ := h
    refine ⟨_, pss_one (ps_ret (pe_call (ok_is_from D) (hr.mono (by decide)) (by rfl) D.h_is_from.gl D.h_is_from.fn.kp D.h_is_from.bd .nil pass0 (pa_cons (pv 0) (pa_cons pe_int pa_nil)))), ?_⟩
    exact ⟨_, rfl, v, 0, rfl, hv, q⟩
theorem sc_is_name : FnScope ["thing", "letter"] ["thing"] (defScope s_is_name) := ⟨rfl, rfl, rfl, by decide +kernel, rfl, by decide +kernel, by decide +kernel⟩
theorem ok_is_name (D : All K P mg) : FnOk P w K mg base CX0 1 D.f_is_name D.d_is_name ["thing"] spNameB := by
  refine D.h_is_name.fn.ok sc_is_name (fun vs H Q E h => ?_) (fun cdv A outer s H vs Q E hr h => ?_)
  · first | (obtain ⟨_, rfl, _⟩ := h; rfl) | (obtain ⟨_, _, rfl, _⟩ := h; rfl) | (obtain ⟨_, _, _, rfl, _⟩ := h; rfl) | (obtain ⟨_, _, _, _, rfl, _⟩ := h; rfl) | (obtain ⟨_, _, _, _, _, rfl, _⟩ := h; rfl) | (obtain ⟨_, _, _, _, _, _, rfl, _⟩ := h; rfl) | (obtain ⟨_, _, _, _, _, _, _, rfl, _⟩ := h; rfl) | (obtain ⟨_, _, _, _, _, _, _, _, rfl, _⟩ := h; rfl) | (obtain ⟨_, _, _, _, _, _, _, _, _, rfl, _⟩ := h; rfl) | (obtain ⟨_, _, _, _, _, _, _, _, _, _, rfl, _⟩ := h; rfl) | (obtain ⟨_, _, _, _, _, _, _, _, _, _, _, rfl, _⟩ := h; rfl) | (obtain ⟨_, _, _, _, _, _, _, _, _, _, _, _, rfl, _⟩ := h; rfl) | (obtain ⟨_, _, _, _, _, _, _, _, _, _, _, _, _, rfl, _⟩ := h; rfl) | (obtain ⟨_, _, _, _, _, _, _, _, _, _, _, _, _, _, rfl, _⟩ := h; rfl) | (obtain ⟨_, _, _, _, _, _, _, _, _, _, _, _, _, _, _, rfl, _⟩ := h; rfl)
  · have T := D.T
    have nd := sc_is_name.nd
    have hu := hr.units
    have hu1 := hu_of hr
    have hu0 := hr.units0
    obtain ⟨v, rfl, hv, hz, q⟩ := h
    refine ⟨_, pss_cons (ps_if (pt_not (pt_val (pe_callB call_isi (by rfl) T.isi (by decide +kernel) (pa_cons (pv 0) (pa_cons (pe_bltn (v := .ty "str") (by rfl) T.str (by decide +kernel) rfl) pa_nil))))) (pss_one (ps_ret pe_bl)) pss_nil)
      (pss_cons (ps_if (pt_not (pt_chain op_le op_le pe_int (pe_callB call_len_str (by rfl) T.len PySem.boot_len (pa_cons (pv 0) pa_nil)) (pe_glob (v := .int (8)) (by rfl) D.g_LONGEST_NAME ⟨_, rfl⟩))) (pss_one (ps_ret pe_bl)) pss_nil)
      (pss_one (ps_ret (pe_callB (cr_all rfl) (by rfl) T.all (by decide +kernel) (pa_cons (pe_lc (own := [("letter", 1)]) (g := gName 1) (tt := tYes) rfl nd (pi_str (pv 0)) (blkOk_by (N := ["thing", "letter"]) (sc := defScope s_is_name) (by decide +kernel)) (fun _ _ _ _ _ => (pg_name (i := 1) nd rfl (Or.inl rfl))) (fun _ _ _ _ _ => pts_nil) (fun _ _ _ _ _ => (pe_cmpR op_in_sign (pv 1) (pe_glob (v := .str (Str.ofString "abcdefghijklmnopqrstuvwxyz")) (by rfl) D.g_SMALL_LETTERS ⟨_, rfl⟩) (by rfl)))) pa_nil))))), ?_⟩
    obtain ⟨t, ty, k1⟩ := hv.tyS (K := K)
    refine ⟨_, rfl, v, .ty "str", t, _, isStr v, rfl, .ty _, ty, k1, _, rfl, ?_⟩
    cases hv with
    | str z =>
      refine iteF ?_
      refine ⟨_, rfl, z, rfl, hz z rfl, _, _, rfl, rfl, _, rfl, ?_⟩
      by_cases h1 : 1 ≤ z.length
      · rw [if_pos (decide_eq_true (show (1 : Int) ≤ (z.length : Nat) by omega))]
        refine ⟨_, _, rfl, rfl, _, rfl, ?_⟩
        by_cases h8 : z.length ≤ 8
        · rw [decide_eq_true (show ((z.length : Nat) : Int) ≤ 8 by omega)]
          refine iteF ?_
          refine ⟨_, rfl, z, rfl, fun D nD => ?_⟩
          refine lc_it walk_str (fun i H' => Same H H' ∧ H' D = some (.lst (((z.cps.toList.take i).map small).map V.bl))) ⟨same_upd nD, upd_same⟩ (fun _ _ _ _ => trivial) ?_ ?_
          · rintro i x H1 H2 hi ⟨sm, eD⟩ ⟨rfl, c, hc, rfl⟩
            have hc' : z.cps.toList[i]? = some c := by rw [Array.getElem?_toList]; exact hc
            refine ⟨rfl, _, rfl, c, _, rfl, rfl, ?_⟩
            rw [small_mem]
            refine ⟨_, eD, ?_, same_app nD sm, ?_⟩
            · rw [List.length_map, List.length_map, List.length_take]
              have : z.cps.size = z.length := rfl
              have := Nat.min_le_left i z.cps.toList.length
              exact small2k (by omega)
            · rw [upd_same, ← take_more small hc', List.map_append]
              rfl
          · rintro H2 ⟨sm, eD⟩
            refine ⟨D, (z.cps.toList.take z.cps.size).map small, rfl, SqL.of eD, ?_⟩
            have e : nameB (.str z) = ((z.cps.toList.take z.cps.size).map small).all id := by
              show (decide (1 ≤ z.length) && decide (z.length ≤ 8) && z.cps.toList.all small) = _
              rw [decide_eq_true h1, decide_eq_true h8, ← Array.length_toList, List.take_length, List.all_map]
              rfl
            rw [← e]
            exact q H2 sm
        · rw [decide_eq_false (show ¬ ((z.length : Nat) : Int) ≤ 8 by omega)]
          show Q (.bl false) H
          have e : nameB (.str z) = false := by
            show (decide (1 ≤ z.length) && decide (z.length ≤ 8) && z.cps.toList.all small) = _
            rw [decide_eq_false h8, Bool.and_false]
            rfl
          rw [e] at q
          exact q H (Same.refl _)
      · rw [if_neg (by rw [decide_eq_false (show ¬ (1 : Int) ≤ (z.length : Nat) by omega)]; nofun)]
        refine ⟨_, rfl, ?_⟩
        show Q (.bl false) H
        have e : nameB (.str z) = false := by
          show (decide (1 ≤ z.length) && decide (z.length ≤ 8) && z.cps.toList.all small) = _
          rw [decide_eq_false h1]
          rfl
        rw [e] at q
        exact q H (Same.refl _)
    | _ => exact q H (Same.refl _)
theorem sc_is_place : FnScope ["thing"] ["thing"] (defScope s_is_place) := ⟨rfl, rfl, rfl, by decide +kernel, rfl, by decide +kernel, by decide +kernel⟩
theorem ok_is_place (D : All K P mg) : FnOk P w K mg base CX0 2 D.f_is_place D.d_is_place ["thing"] spPlaceB := by
  refine D.h_is_place.fn.ok sc_is_place (fun vs H Q E h => ?_) (fun cdv A outer s H vs Q E hr h => ?_)
  · first | (obtain ⟨_, rfl, _⟩ := h; rfl) | (obtain ⟨_, _, rfl, _⟩ := h; rfl) | (obtain ⟨_, _, _, rfl, _⟩ := h; rfl) | (obtain ⟨_, _, _, _, rfl, _⟩ := h; rfl) | (obtain ⟨_, _, _, _, _, rfl, _⟩ := h; rfl) | (obtain ⟨_, _, _, _, _, _, rfl, _⟩ := h; rfl) | (obtain ⟨_, _, _, _, _, _, _, rfl, _⟩ := h; rfl) | (obtain ⟨_, _, _, _, _, _, _, _, rfl, _⟩ := h; rfl) | (obtain ⟨_, _, _, _, _, _, _, _, _, rfl, _⟩ := h; rfl) | (obtain ⟨_, _, _, _, _, _, _, _, _, _, rfl, _⟩ := h; rfl) | (obtain ⟨_, _, _, _, _, _, _, _, _, _, _, rfl, _⟩ := h; rfl) | (obtain ⟨_, _, _, _, _, _, _, _, _, _, _, _, rfl, _⟩ := h; rfl) | (obtain ⟨_, _, _, _, _, _, _, _, _, _, _, _, _, rfl, _⟩ := h; rfl) | (obtain ⟨_, _, _, _, _, _, _, _, _, _, _, _, _, _, rfl, _⟩ := h; rfl) | (obtain ⟨_, _, _, _, _, _, _, _, _, _, _, _, _, _, _, rfl, _⟩ := h; rfl)
  · have T := D.T
    have nd := sc_is_place.nd
    have hu := hr.units
    have hu1 := hu_of hr
    have hu0 := hr.units0
    obtain ⟨v, rfl, hv, hz, q⟩ := h
    refine ⟨_, pss_one (ps_ret (pe_or (pe_call (ok_is_name D) (hr.mono (by decide)) (by rfl) D.h_is_name.gl D.h_is_name.fn.kp D.h_is_name.bd .nil pass0 (pa_cons (pv 0) pa_nil)) (pe_one (pe_and (pe_callB call_isi (by rfl) T.isi (by decide +kernel) (pa_cons (pv 0) (pa_cons (pe_bltn (v := .ty "str") (by rfl) T.str (by decide +kernel) rfl) pa_nil))) (pe_one (pe_cmpR op_eq (pv 0) (pe_glob (v := .str (Str.ofString "")) (by rfl) D.g_ASHORE ⟨_, rfl⟩) (nomark _))))))), ?_⟩
    refine ⟨_, rfl, v, rfl, hv, hz, fun H1 s1 => ⟨_, rfl, ?_⟩⟩
    obtain ⟨t, ty, k1⟩ := (hv.mono s1).tyS (K := K)
    cases hv with
    | str z =>
      have q' : ∀ H', Same H H' → Q (.bl (nameB (.str z) || decide (z = Str.ofString ""))) H' := q
      cases hn : nameB (.str z) with
      | true =>
        rw [hn] at q'
        exact q' H1 s1
      | false =>
        rw [hn] at q'
        refine ⟨_, rfl, .str z, .ty "str", t, _, true, rfl, .ty _, ty, k1, _, rfl, ⟨_, rfl, rfl, ?_⟩⟩
        have e : decide (V.str z = V.str (Str.ofString "")) = decide (z = Str.ofString "") := by
          by_cases h : z = Str.ofString ""
          · rw [decide_eq_true h, decide_eq_true (by rw [h])]
          · rw [decide_eq_false h, decide_eq_false (fun e => h (V.str.inj e))]
        rw [e]
        exact q' H1 s1
    | _ => exact ⟨_, rfl, _, .ty "str", t, _, false, rfl, .ty _, ty, k1, _, rfl, q H1 s1⟩
theorem sc_check_day : FnScope ["thing"] ["thing"] (defScope s_check_day) := ⟨rfl, rfl, rfl, by decide +kernel, rfl, by decide +kernel, by decide +kernel⟩
theorem ok_check_day (D : All K P mg) : FnOk P w K mg base CX0 4 D.f_check_day D.d_check_day ["thing"] spCkDay := by
  refine D.h_check_day.fn.ok sc_check_day (fun vs H Q E h => ?_) (fun cdv A outer s H vs Q E hr h => ?_)
  · first | (obtain ⟨_, rfl, _⟩ := h; rfl) | (obtain ⟨_, _, rfl, _⟩ := h; rfl) | (obtain ⟨_, _, _, rfl, _⟩ := h; rfl) | (obtain ⟨_, _, _, _, rfl, _⟩ := h; rfl) | (obtain ⟨_, _, _, _, _, rfl, _⟩ := h; rfl) | (obtain ⟨_, _, _, _, _, _, rfl, _⟩ := h; rfl) | (obtain ⟨_, _, _, _, _, _, _, rfl, _⟩ := h; rfl) | (obtain ⟨_, _, _, _, _, _, _, _, rfl, _⟩ := h; rfl) | (obtain ⟨_, _, _, _, _, _, _, _, _, rfl, _⟩ := h; rfl) | (obtain ⟨_, _, _, _, _, _, _, _, _, _, rfl, _⟩ := h; rfl) | (obtain ⟨_, _, _, _, _, _, _, _, _, _, _, rfl, _⟩ := h; rfl) | (obtain ⟨_, _, _, _, _, _, _, _, _, _, _, _, rfl, _⟩ := h; rfl) | (obtain ⟨_, _, _, _, _, _, _, _, _, _, _, _, _, rfl, _⟩ := h; rfl) | (obtain ⟨_, _, _, _, _, _, _, _, _, _, _, _, _, _, rfl, _⟩ := h; rfl) | (obtain ⟨_, _, _, _, _, _, _, _, _, _, _, _, _, _, _, rfl, _⟩ := h; rfl)
  · have T := D.T
    have nd := sc_check_day.nd
    have hu := hr.units
    have hu1 := hu_of hr
    have hu0 := hr.units0
    obtain ⟨i, rfl, h0, q⟩ := h
    refine ⟨_, pss_one (ps_if (pt_not (pt_val (pe_call (ok_is_day D) (hr.mono (by decide)) (by rfl) D.h_is_day.gl D.h_is_day.fn.kp D.h_is_day.bd .nil pass0 (pa_cons (pv 0) pa_nil)))) (pss_one ps_never) pss_nil), ?_⟩
    refine ⟨_, rfl, .int i, rfl, .int i, _, rfl, ?_⟩
    have e : fromB (.int i) 0 = true := decide_eq_true h0
    rw [e]
    exact iteF q
theorem sc_check_light : FnScope ["thing"] ["thing"] (defScope s_check_light) := ⟨rfl, rfl, rfl, by decide +kernel, rfl, by decide +kernel, by decide +kernel⟩
theorem ok_check_light (D : All K P mg) : FnOk P w K mg base CX0 2 D.f_check_light D.d_check_light ["thing"] spCkLight := by
  refine D.h_check_light.fn.ok sc_check_light (fun vs H Q E h => ?_) (fun cdv A outer s H vs Q E hr h => ?_)
  · first | (obtain ⟨_, rfl, _⟩ := h; rfl) | (obtain ⟨_, _, rfl, _⟩ := h; rfl) | (obtain ⟨_, _, _, rfl, _⟩ := h; rfl) | (obtain ⟨_, _, _, _, rfl, _⟩ := h; rfl) | (obtain ⟨_, _, _, _, _, rfl, _⟩ := h; rfl) | (obtain ⟨_, _, _, _, _, _, rfl, _⟩ := h; rfl) | (obtain ⟨_, _, _, _, _, _, _, rfl, _⟩ := h; rfl) | (obtain ⟨_, _, _, _, _, _, _, _, rfl, _⟩ := h; rfl) | (obtain ⟨_, _, _, _, _, _, _, _, _, rfl, _⟩ := h; rfl) | (obtain ⟨_, _, _, _, _, _, _, _, _, _, rfl, _⟩ := h; rfl) | (obtain ⟨_, _, _, _, _, _, _, _, _, _, _, rfl, _⟩ := h; rfl) | (obtain ⟨_, _, _, _, _, _, _, _, _, _, _, _, rfl, _⟩ := h; rfl) | (obtain ⟨_, _, _, _, _, _, _, _, _, _, _, _, _, rfl, _⟩ := h; rfl) | (obtain ⟨_, _, _, _, _, _, _, _, _, _, _, _, _, _, rfl, _⟩ := h; rfl) | (obtain ⟨_, _, _, _, _, _, _, _, _, _, _, _, _, _, _, rfl, _⟩ := h; rfl)
  · have T := D.T
    have nd := sc_check_light.nd
    have hu := hr.units
    have hu1 := hu_of hr
    have hu0 := hr.units0
    obtain ⟨z, rfl, hz, q⟩ := h
    refine ⟨_, pss_one (ps_if (pt_not (pt_val (pe_call (ok_is_name D) (hr.mono (by decide)) (by rfl) D.h_is_name.gl D.h_is_name.fn.kp D.h_is_name.bd .nil pass0 (pa_cons (pv 0) pa_nil)))) (pss_one ps_never) pss_nil), ?_⟩
    have l8 := hz.l8
    refine ⟨_, rfl, .str z, rfl, .str z, fun y e => by cases e; rw [sizeLine_eq]; omega, fun H1 s1 => ⟨_, rfl, ?_⟩⟩
    rw [hz.b]
    exact iteF (q H1 s1)
theorem sc_check_place : FnScope ["thing"] ["thing"] (defScope s_check_place) := ⟨rfl, rfl, rfl, by decide +kernel, rfl, by decide +kernel, by decide +kernel⟩
theorem ok_check_place (D : All K P mg) : FnOk P w K mg base CX0 3 D.f_check_place D.d_check_place ["thing"] spCkPlace := by
  refine D.h_check_place.fn.ok sc_check_place (fun vs H Q E h => ?_) (fun cdv A outer s H vs Q E hr h => ?_)
  · first | (obtain ⟨_, rfl, _⟩ := h; rfl) | (obtain ⟨_, _, rfl, _⟩ := h; rfl) | (obtain ⟨_, _, _, rfl, _⟩ := h; rfl) | (obtain ⟨_, _, _, _, rfl, _⟩ := h; rfl) | (obtain ⟨_, _, _, _, _, rfl, _⟩ := h; rfl) | (obtain ⟨_, _, _, _, _, _, rfl, _⟩ := h; rfl) | (obtain ⟨_, _, _, _, _, _, _, rfl, _⟩ := h; rfl) | (obtain ⟨_, _, _, _, _, _, _, _, rfl, _⟩ := h; rfl) | (obtain ⟨_, _, _, _, _, _, _, _, _, rfl, _⟩ := h; rfl) | (obtain ⟨_, _, _, _, _, _, _, _, _, _, rfl, _⟩ := h; rfl) | (obtain ⟨_, _, _, _, _, _, _, _, _, _, _, rfl, _⟩ := h; rfl) | (obtain ⟨_, _, _, _, _, _, _, _, _, _, _, _, rfl, _⟩ := h; rfl) | (obtain ⟨_, _, _, _, _, _, _, _, _, _, _, _, _, rfl, _⟩ := h; rfl) | (obtain ⟨_, _, _, _, _, _, _, _, _, _, _, _, _, _, rfl, _⟩ := h; rfl) | (obtain ⟨_, _, _, _, _, _, _, _, _, _, _, _, _, _, _, rfl, _⟩ := h; rfl)
  · have T := D.T
    have nd := sc_check_place.nd
    have hu := hr.units
    have hu1 := hu_of hr
    have hu0 := hr.units0
    obtain ⟨z, rfl, hz, q⟩ := h
    refine ⟨_, pss_one (ps_if (pt_not (pt_val (pe_call (ok_is_place D) (hr.mono (by decide)) (by rfl) D.h_is_place.gl D.h_is_place.fn.kp D.h_is_place.bd .nil pass0 (pa_cons (pv 0) pa_nil)))) (pss_one ps_never) pss_nil), ?_⟩
    have l8 := pl_len hz
    refine ⟨_, rfl, .str z, rfl, .str z, fun y e => by cases e; rw [sizeLine_eq]; omega, fun H1 s1 => ⟨_, rfl, ?_⟩⟩
    rw [pl_b hz]
    exact iteF (q H1 s1)
theorem sc_check_number : FnScope ["thing", "least"] ["thing", "least"] (defScope s_check_number) := ⟨rfl, rfl, rfl, by decide +kernel, rfl, by decide +kernel, by decide +kernel⟩
theorem ok_check_number (D : All K P mg) : FnOk P w K mg base CX0 3 D.f_check_number D.d_check_number ["thing", "least"] spCkNumber := by
  refine D.h_check_number.fn.ok sc_check_number (fun vs H Q E h => ?_) (fun cdv A outer s H vs Q E hr h => ?_)
  · first | (obtain ⟨_, rfl, _⟩ := h; rfl) | (obtain ⟨_, _, rfl, _⟩ := h; rfl) | (obtain ⟨_, _, _, rfl, _⟩ := h; rfl) | (obtain ⟨_, _, _, _, rfl, _⟩ := h; rfl) | (obtain ⟨_, _, _, _, _, rfl, _⟩ := h; rfl) | (obtain ⟨_, _, _, _, _, _, rfl, _⟩ := h; rfl) | (obtain ⟨_, _, _, _, _, _, _, rfl, _⟩ := h; rfl) | (obtain ⟨_, _, _, _, _, _, _, _, rfl, _⟩ := h; rfl) | (obtain ⟨_, _, _, _, _, _, _, _, _, rfl, _⟩ := h; rfl) | (obtain ⟨_, _, _, _, _, _, _, _, _, _, rfl, _⟩ := h; rfl) | (obtain ⟨_, _, _, _, _, _, _, _, _, _, _, rfl, _⟩ := h; rfl) | (obtain ⟨_, _, _, _, _, _, _, _, _, _, _, _, rfl, _⟩ := h; rfl) | (obtain ⟨_, _, _, _, _, _, _, _, _, _, _, _, _, rfl, _⟩ := h; rfl) | (obtain ⟨_, _, _, _, _, _, _, _, _, _, _, _, _, _, rfl, _⟩ := h; rfl) | (obtain ⟨_, _, _, _, _, _, _, _, _, _, _, _, _, _, _, rfl, _⟩ := h; rfl)
  · have T := D.T
    have nd := sc_check_number.nd
    have hu := hr.units
    have hu1 := hu_of hr
    have hu0 := hr.units0
    obtain ⟨i, l, rfl, h0, q⟩ := h
    refine ⟨_, pss_one (ps_if (pt_not (pt_val (pe_call (ok_is_from D) (hr.mono (by decide)) (by rfl) D.h_is_from.gl D.h_is_from.fn.kp D.h_is_from.bd .nil pass0 (pa_cons (pv 0) (pa_cons (pv 1) pa_nil))))) (pss_one ps_never) pss_nil), ?_⟩
    refine ⟨_, rfl, _, rfl, .int i, l, rfl, .int i, _, rfl, ?_⟩
    have e : fromB (.int i) l = true := decide_eq_true h0
    rw [e]
    exact iteF q
theorem sc_History___init__ : FnScope ["self"] ["self"] (defScope s_History___init__) := ⟨rfl, rfl, rfl, by decide +kernel, rfl, by decide +kernel, by decide +kernel⟩
theorem ok_History___init__ (D : All K P mg) : FnOk P w K mg base CX0 1 D.f_History___init__ D.d_History___init__ ["self"] (spHInit D.C_History) := by
  refine D.h_History___init__.fn.ok sc_History___init__ (fun vs H Q E h => ?_) (fun cdv A outer s H vs Q E hr h => ?_)
  · first | (obtain ⟨_, rfl, _⟩ := h; rfl) | (obtain ⟨_, _, rfl, _⟩ := h; rfl) | (obtain ⟨_, _, _, rfl, _⟩ := h; rfl) | (obtain ⟨_, _, _, _, rfl, _⟩ := h; rfl) | (obtain ⟨_, _, _, _, _, rfl, _⟩ := h; rfl) | (obtain ⟨_, _, _, _, _, _, rfl, _⟩ := h; rfl) | (obtain ⟨_, _, _, _, _, _, _, rfl, _⟩ := h; rfl) | (obtain ⟨_, _, _, _, _, _, _, _, rfl, _⟩ := h; rfl) | (obtain ⟨_, _, _, _, _, _, _, _, _, rfl, _⟩ := h; rfl) | (obtain ⟨_, _, _, _, _, _, _, _, _, _, rfl, _⟩ := h; rfl) | (obtain ⟨_, _, _, _, _, _, _, _, _, _, _, rfl, _⟩ := h; rfl) | (obtain ⟨_, _, _, _, _, _, _, _, _, _, _, _, rfl, _⟩ := h; rfl) | (obtain ⟨_, _, _, _, _, _, _, _, _, _, _, _, _, rfl, _⟩ := h; rfl) | (obtain ⟨_, _, _, _, _, _, _, _, _, _, _, _, _, _, rfl, _⟩ := h; rfl) | (obtain ⟨_, _, _, _, _, _, _, _, _, _, _, _, _, _, _, rfl, _⟩ := h; rfl)
  · have T := D.T
    have nd := sc_History___init__.nd
    have hu := hr.units
    have hu1 := hu_of hr
    have hu0 := hr.units0
    obtain ⟨x, dx, rfl, hx, q⟩ := h
    refine ⟨_, pss_one (ps_fld (pv 0) pe_dnewK rfl), ?_⟩
    refine fun N nN => ?_
    have nx : x ≠ N := ne_of_none hx nN
    have s1 := same_upd (o := .dK []) nN
    have eN := upd_same (H := H) (a := N) (o := .dK [])
    generalize upd H N (.dK []) = H1 at *
    refine ⟨_, rfl, x, _, dx, _, rfl, s1 _ _ hx, D.Z_History.cl, D.n_History_by_day, by decide, ?_⟩
    refine q ⟨x, dx, N, [], []⟩ _ rfl rfl rfl nN ⟨upd_same, ?_, .nil, List.nodup_cons.mpr ⟨fun h => nx (List.mem_singleton.mp h), List.nodup_cons.mpr ⟨nofun, List.nodup_nil⟩⟩, List.nodup_nil⟩ (SameB.upd (SameB.of s1))
    show upd H1 x _ N = _
    rw [upd_ne nx.symm]
    exact eN
theorem sc_History_note : FnScope ["self", "known", "day", "worth", "told"] ["self", "known", "day", "worth"] (defScope s_History_note) := ⟨rfl, rfl, rfl, by decide +kernel, rfl, by decide +kernel, by decide +kernel⟩
theorem ok_History_note (D : All K P mg) : FnOk P w K mg base CX0 1 D.f_History_note D.d_History_note ["self", "known", "day", "worth"] (spNote D.C_History) := by
  refine D.h_History_note.fn.ok sc_History_note (fun vs H Q E h => ?_) (fun cdv A outer s H vs Q E hr h => ?_)
  · first | (obtain ⟨_, rfl, _⟩ := h; rfl) | (obtain ⟨_, _, rfl, _⟩ := h; rfl) | (obtain ⟨_, _, _, rfl, _⟩ := h; rfl) | (obtain ⟨_, _, _, _, rfl, _⟩ := h; rfl) | (obtain ⟨_, _, _, _, _, rfl, _⟩ := h; rfl) | (obtain ⟨_, _, _, _, _, _, rfl, _⟩ := h; rfl) | (obtain ⟨_, _, _, _, _, _, _, rfl, _⟩ := h; rfl) | (obtain ⟨_, _, _, _, _, _, _, _, rfl, _⟩ := h; rfl) | (obtain ⟨_, _, _, _, _, _, _, _, _, rfl, _⟩ := h; rfl) | (obtain ⟨_, _, _, _, _, _, _, _, _, _, rfl, _⟩ := h; rfl) | (obtain ⟨_, _, _, _, _, _, _, _, _, _, _, rfl, _⟩ := h; rfl) | (obtain ⟨_, _, _, _, _, _, _, _, _, _, _, _, rfl, _⟩ := h; rfl) | (obtain ⟨_, _, _, _, _, _, _, _, _, _, _, _, _, rfl, _⟩ := h; rfl) | (obtain ⟨_, _, _, _, _, _, _, _, _, _, _, _, _, _, rfl, _⟩ := h; rfl) | (obtain ⟨_, _, _, _, _, _, _, _, _, _, _, _, _, _, _, rfl, _⟩ := h; rfl)
  · have T := D.T
    have nd := sc_History_note.nd
    have hu := hr.units
    have hu1 := hu_of hr
    have hu0 := hr.units0
    obtain ⟨a, kn, d, w, rfl, W, ok, q⟩ := h
    refine ⟨_, pss_cons (ps_set (i := 4) nd rfl (.inl rfl) (pe_dsetd (pe_fld (pv 0) rfl) (pv 2) pe_dnewK ⟨rfl, rfl, rfl, rfl⟩))
      (pss_one (ps_dput hu1 (pv 4) (pv 1) (pv 3) rfl)), ?_⟩
    have gl := W.glen
    have gl2 := ok.1
    refine ⟨_, rfl, a.x, _, a.dx, _, _, rfl, W.ix, D.Z_History.cl, D.n_History_by_day, rfl, a.D, rfl, .inl ⟨_, .inl W.bd⟩, _, rfl, fun T nT => ?_⟩
    have s1 := same_upd (o := .dK []) nT
    have eT := upd_same (H := H) (a := T) (o := .dK [])
    generalize upd H T (.dK []) = H1 at *
    have W1 := W.mono s1
    refine ⟨dayK a.g, .inl d, W1.bd, rfl, by rw [day_len]; exact small2k (by omega), fun v hv => ?_, fun hn => ?_⟩
    · rw [day_val] at hv
      rcases paired_at (d := d) W1.ta with ⟨e, _⟩ | ⟨T0, t, e1, e2, e3⟩
      · rw [e] at hv
        cases hv
      · rw [e1] at hv
        cases hv
        have tl := ok.2 (d, t) (getA_mem e2)
        have tl : t.length ≤ 60 := tl
        refine ⟨_, rfl, _, rfl, _, rfl, _, _, rfl, DPut.k (k := Sum.inl kn) e3 (by rw [told_len]; exact small2k (by omega)), ?_⟩
        rw [told_put]
        have mT : T0 ∈ a.fp := List.mem_cons_of_mem _ (List.mem_cons_of_mem _ (List.mem_map.mpr ⟨_, getA_mem e1, rfl⟩))
        exact q { a with h := noteH a.h kn d w } _ rfl rfl (W1.note1 e1 e2 upd_same fun c n o e => by rw [upd_ne n]; exact e) (fun c hc => .inl hc) (SameL.upd mT (SameL.of s1))
    · rw [day_val] at hn
      rcases paired_at (d := d) W1.ta with ⟨e1, e2⟩ | ⟨T0, t, e1, e2, e3⟩
      · have nD : T ≠ a.D := fun z => by
          rw [z, W.bd] at nT
          cases nT
        have eT2 : upd H1 a.D (.dK (putK (dayK a.g) (Sum.inl d) (V.ref T))) T = some (.dK (toldK [])) := by rw [upd_ne nD]; exact eT
        refine ⟨_, rfl, _, rfl, _, rfl, _, _, rfl, DPut.k (k := Sum.inl kn) eT2 (by decide), ?_⟩
        rw [told_put, day_put, putA_new e1]
        have mD : a.D ∈ a.fp := List.mem_cons_of_mem _ List.mem_cons_self
        refine q { a with g := a.g ++ [(d, T)], h := noteH a.h kn d w } _ rfl rfl (W.note2 e1 e2 nT upd_same ?_ ?_) ?_ ?_
        · rw [upd_ne nD.symm]
          exact upd_same
        · intro c n1 n2 o e
          rw [upd_ne n1, upd_ne n2]
          exact s1 _ _ e
        · intro c hc
          rcases List.mem_cons.mp hc with rfl | hc
          · exact .inl List.mem_cons_self
          rcases List.mem_cons.mp hc with rfl | hc
          · exact .inl mD
          rw [List.map_append, List.mem_append] at hc
          rcases hc with hc | hc
          · exact .inl (List.mem_cons_of_mem _ (List.mem_cons_of_mem _ hc))
          · rw [List.mem_singleton.mp hc]
            exact .inr nT
        · intro c o n e
          rw [upd_ne (ne_of_none e nT), upd_ne (fun z : c = a.D => n (by rw [z]; exact mD))]
          exact s1 _ _ e
      · rw [e1] at hn
        cases hn
theorem sc_are_ranks : FnScope ["thing", "name", "rank"] ["thing"] (defScope s_are_ranks) := ⟨rfl, rfl, rfl, by decide +kernel, rfl, by decide +kernel, by decide +kernel⟩
theorem ok_are_ranks (D : All K P mg) : FnOk P w K mg base CX0 3 D.f_are_ranks D.d_are_ranks ["thing"] spRanks := by
  refine D.h_are_ranks.fn.ok sc_are_ranks (fun vs H Q E h => ?_) (fun cdv A outer s H vs Q E hr h => ?_)
  · first | (obtain ⟨_, rfl, _⟩ := h; rfl) | (obtain ⟨_, _, rfl, _⟩ := h; rfl) | (obtain ⟨_, _, _, rfl, _⟩ := h; rfl) | (obtain ⟨_, _, _, _, rfl, _⟩ := h; rfl) | (obtain ⟨_, _, _, _, _, rfl, _⟩ := h; rfl) | (obtain ⟨_, _, _, _, _, _, rfl, _⟩ := h; rfl) | (obtain ⟨_, _, _, _, _, _, _, rfl, _⟩ := h; rfl) | (obtain ⟨_, _, _, _, _, _, _, _, rfl, _⟩ := h; rfl) | (obtain ⟨_, _, _, _, _, _, _, _, _, rfl, _⟩ := h; rfl) | (obtain ⟨_, _, _, _, _, _, _, _, _, _, rfl, _⟩ := h; rfl) | (obtain ⟨_, _, _, _, _, _, _, _, _, _, _, rfl, _⟩ := h; rfl) | (obtain ⟨_, _, _, _, _, _, _, _, _, _, _, _, rfl, _⟩ := h; rfl) | (obtain ⟨_, _, _, _, _, _, _, _, _, _, _, _, _, rfl, _⟩ := h; rfl) | (obtain ⟨_, _, _, _, _, _, _, _, _, _, _, _, _, _, rfl, _⟩ := h; rfl) | (obtain ⟨_, _, _, _, _, _, _, _, _, _, _, _, _, _, _, rfl, _⟩ := h; rfl)
  · have T := D.T
    have nd := sc_are_ranks.nd
    have hu := hr.units
    have hu1 := hu_of hr
    have hu0 := hr.units0
    obtain ⟨r, rk, rfl, hr', k, q⟩ := h
    refine ⟨_, pss_cons (ps_if (PW.pt (pw_or (pt_not (pt_val (pe_callB call_isi (by rfl) T.isi (by decide +kernel) (pa_cons (pv 0) (pa_cons (pe_bltn (v := .ty "dict") (by rfl) T.dict (by decide +kernel) rfl) pa_nil))))) (pw_or1 (pt_cmpR op_gt (pe_callB call_lenD (by rfl) T.len PySem.boot_len (pa_cons (pv 0) pa_nil)) (pe_glob (v := .int (30)) (by rfl) D.g_MOST_KEEPERS ⟨_, rfl⟩) (nomark _))))) (pss_one (ps_ret pe_bl)) pss_nil)
      (pss_one (ps_ret (pe_callB (cr_all rfl) (by rfl) T.all (by decide +kernel) (pa_cons (pe_lock (pe_lc (own := [("name", 1), ("rank", 2)]) (g := gTup K 2 (gCons (gName 1) (gCons (gName 2) gNil))) (tt := tYes) rfl nd (pi_items (pv 0)) (blkOk_by (N := ["thing", "name", "rank"]) (sc := defScope s_are_ranks) (by decide +kernel)) (fun _ _ _ _ _ => (pg_tup rfl (pgs_cons (pg_name (i := 1) nd rfl (Or.inl rfl)) (pgs_cons (pg_name (i := 2) nd rfl (Or.inl rfl)) pgs_nil)))) (fun _ _ _ _ _ => pts_nil) (fun _ _ _ _ _ => (pe_and (pe_call (ok_is_name D) (hr.mono (by decide)) (by rfl) D.h_is_name.gl D.h_is_name.fn.kp D.h_is_name.bd .nil pass0 (pa_cons (pv 1) pa_nil)) (pe_one (pe_call (ok_is_within D) (hr.mono (by decide)) (by rfl) D.h_is_within.gl D.h_is_within.fn.kp D.h_is_within.bd .nil pass0 (pa_cons (pv 2) (pa_cons (pe_glob (v := .int (1)) (by rfl) D.g_HIGHEST_RANK ⟨_, rfl⟩) (pa_cons (pe_glob (v := .int (9)) (by rfl) D.g_LOWEST_RANK ⟨_, rfl⟩) pa_nil))))))))) pa_nil)))), ?_⟩
    have kl := k.ln
    refine ⟨_, rfl, .ref r, .ty "dict", _, _, true, rfl, .ty _, .base (.dK hr'), kit_ty (show kitB "dict" "dict" = some true by decide +kernel), _, rfl, ?_⟩
    refine iteF ⟨_, rfl, r, _, rfl, hr', _, _, rfl, rfl, _, rfl, ?_⟩
    rw [decide_eq_false (by rw [sd_len]; omega)]
    refine iteF ⟨r, _, hr', trivial, fun od => ?_⟩
    have ed := upd_same (H := H) (a := r) (o := .frz od (.dK (sd rk)))
    refine ⟨_, rfl, r, od, _, rfl, ed, fun F nF => ?_⟩
    have nFr : F ≠ r := fun e => by rw [e, ed] at nF; cases nF
    refine lc_it walk_rows (fun i H' => Same (upd H r (.frz od (.dK (sd rk)))) H' ∧ H' F = some (.lst ((List.replicate i true).map V.bl))) ⟨same_upd nF, upd_same⟩ (fun i H' _ ⟨s, _⟩ => s _ _ ed) ?_ ?_
    · rintro i x H1 H2 hi ⟨s1, eF⟩ ⟨T', p, hp, rfl, nT, rfl⟩
      have hm := List.mem_of_getElem? hp
      have hb := k.b1 p hm
      have hn := k.nm p hm
      have l8 := hn.l8
      refine ⟨T', _, rfl, SqT.of upd_same, rfl, _, _, rfl, _, _, rfl, rfl, rfl, ?_⟩
      have sT := same_upd (o := .tup [.str p.1, .int p.2]) nT
      refine ⟨_, rfl, .str p.1, rfl, .str _, fun z hz => by cases hz; rw [sizeLine_eq]; omega, fun H3 s3 => ⟨_, rfl, ?_⟩⟩
      rw [hn.b]
      refine ⟨_, rfl, .int p.2, 1, 9, rfl, .int _, ?_⟩
      have e : withinB (.int p.2) 1 9 = true := by
        show (decide (1 ≤ p.2) && decide (p.2 ≤ 9)) = true
        rw [decide_eq_true hb.1, decide_eq_true hb.2]
        rfl
      rw [e]
      refine ⟨_, s3 _ _ (sT _ _ eF), small2k (by rw [List.length_map, List.length_replicate]; omega), same_app nF (s1.trans (sT.trans s3)), ?_⟩
      rw [upd_same, ← rep_succ, List.map_append]
      rfl
    · rintro H1 ⟨s1, eF⟩
      refine ⟨s1 _ _ ed, F, List.replicate rk.length true, rfl, SqL.of ?_, ?_⟩
      · rw [upd_ne nFr]
        exact eF
      · rw [rep_all]
        exact q _ (lock_back hr' s1)
end
end K91
set_option Elab.async false
set_option linter.all false
set_option maxRecDepth 100000
set_option maxHeartbeats 1600000
set_option pp.maxSteps 300
namespace K91
open PySem PySem.Spec PyProof.Rows L2 LT NdefX LamX
section
variable {P : Program} {w : World} {K : PySem.W.Frag} {mg : Str → Option Value} {base : Heap}
theorem sc_Book___init__ : FnScope ["self", "ranks", "keeper"] ["self", "ranks"] (defScope s_Book___init__) := ⟨rfl, rfl, rfl, by decide +kernel, rfl, by decide +kernel, by decide +kernel⟩
theorem ok_Book___init__ (D : All K P mg) : FnOk P w K mg base CX0 4 D.f_Book___init__ D.d_Book___init__ ["self", "ranks"] (spBInit D.C_Book D.C_History) := by
  refine D.h_Book___init__.fn.ok sc_Book___init__ (fun vs H Q E h => ?_) (fun cdv A outer s H vs Q E hr h => ?_)
  · first | (obtain ⟨_, rfl, _⟩ := h; rfl) | (obtain ⟨_, _, rfl, _⟩ := h; rfl) | (obtain ⟨_, _, _, rfl, _⟩ := h; rfl) | (obtain ⟨_, _, _, _, rfl, _⟩ := h; rfl) | (obtain ⟨_, _, _, _, _, rfl, _⟩ := h; rfl) | (obtain ⟨_, _, _, _, _, _, rfl, _⟩ := h; rfl) | (obtain ⟨_, _, _, _, _, _, _, rfl, _⟩ := h; rfl) | (obtain ⟨_, _, _, _, _, _, _, _, rfl, _⟩ := h; rfl) | (obtain ⟨_, _, _, _, _, _, _, _, _, rfl, _⟩ := h; rfl) | (obtain ⟨_, _, _, _, _, _, _, _, _, _, rfl, _⟩ := h; rfl) | (obtain ⟨_, _, _, _, _, _, _, _, _, _, _, rfl, _⟩ := h; rfl) | (obtain ⟨_, _, _, _, _, _, _, _, _, _, _, _, rfl, _⟩ := h; rfl) | (obtain ⟨_, _, _, _, _, _, _, _, _, _, _, _, _, rfl, _⟩ := h; rfl) | (obtain ⟨_, _, _, _, _, _, _, _, _, _, _, _, _, _, rfl, _⟩ := h; rfl) | (obtain ⟨_, _, _, _, _, _, _, _, _, _, _, _, _, _, _, rfl, _⟩ := h; rfl)
  · have T := D.T
    have nd := sc_Book___init__.nd
    have hu := hr.units
    have hu1 := hu_of hr
    have hu0 := hr.units0
    obtain ⟨b, dx, r, rk, rfl, hb, hr', k, q⟩ := h
    refine ⟨_, pss_cons (ps_if (pt_not (pt_val (pe_call (ok_are_ranks D) (hr.mono (by decide)) (by rfl) D.h_are_ranks.gl D.h_are_ranks.fn.kp D.h_are_ranks.bd .nil pass0 (pa_cons (pv 1) pa_nil)))) (pss_one ps_never) pss_nil)
      (pss_cons (ps_fld (pv 0) (pe_callTy call_dictD (by rfl) T.dict (by decide +kernel) (pa_cons (pv 1) pa_nil)) rfl)
      (pss_cons (ps_fld (pv 0) (pe_lock (pe_dc (own := [("keeper", 2)]) (g := gName 2) (tt := tYes) rfl nd (pi_keys (pv 1)) (blkOk_by (N := ["self", "ranks", "keeper"]) (sc := defScope s_Book___init__) (by decide +kernel)) (fun _ _ _ _ _ => (pg_name (i := 2) nd rfl (Or.inl rfl))) (fun _ _ _ _ _ => pts_nil) (fun _ _ _ _ _ => (pv 2)) (fun _ _ _ _ _ => (pe_make0 D.M_History (ok_History___init__ D) (hr.mono (by decide)) (by rfl) D.Z_History.gl D.h_History___init__.bd .nil pass0)))) rfl)
      (pss_cons (ps_fld (pv 0) pe_dnewK rfl)
      (pss_one (ps_fld (pv 0) pe_non rfl))))), ?_⟩
    have kl := k.ln
    refine ⟨_, rfl, r, rk, rfl, hr', k, fun H1 s1 => ⟨_, rfl, iteF ?_⟩⟩
    refine ⟨_, rfl, r, _, rfl, .inl (s1 _ _ hr'), fun R nR => ?_⟩
    have s2 := same_upd (o := .dK (sd rk)) nR
    have eR := upd_same (H := H1) (a := R) (o := .dK (sd rk))
    generalize upd H1 R (.dK (sd rk)) = H2 at *
    have hb2 := s2 _ _ (s1 _ _ hb)
    have hr2 := s2 _ _ (s1 _ _ hr')
    have nbR : R ≠ b := fun e => by
      rw [e, s1 _ _ hb] at nR
      cases nR
    have nbr : r ≠ b := fun e => by
      rw [e, hb2] at hr2
      cases hr2
    refine ⟨_, rfl, b, _, dx, _, rfl, hb2, D.Z_Book.cl, D.n_Book_rank_of, by decide, ?_⟩
    have hb3 : upd H2 b (.ins D.C_Book dx [("rank_of", .ref R)]) b = some (.ins D.C_Book dx [("rank_of", .ref R)]) := upd_same
    have sb3 : SameB b H2 (upd H2 b (.ins D.C_Book dx [("rank_of", .ref R)])) := SameB.upd (SameB.of (Same.refl _))
    generalize hG3 : upd H2 b (.ins D.C_Book dx [("rank_of", .ref R)]) = H3 at *
    have hG3' : upd H2 b (.ins D.C_Book dx (putF "rank_of" (V.ref R) [])) = H3 := hG3
    rw [hG3']
    have hr3 := sb3 _ _ nbr hr2
    have eR3 := sb3 _ _ nbR eR
    refine ⟨r, _, hr3, trivial, fun od => ?_⟩
    have ef := upd_same (H := H3) (a := r) (o := .frz od (.dK (sd rk)))
    refine ⟨_, rfl, r, od, rfl, .inl ⟨_, ef, fun M nM => ?_⟩⟩
    have nMr : M ≠ r := fun e => by rw [e, ef] at nM; cases nM
    have nM3 : H3 M = none := by rw [upd_ne nMr] at nM; exact nM
    refine dc_it walk_rowk (fun i H' => Same (upd H3 r (.frz od (.dK (sd rk)))) H' ∧ ∃ mv : List (Str × HA), mv.map (·.1) = (rk.take i).map (·.1) ∧ H' M = some (.dK (hsK mv)) ∧
        (∀ e ∈ mv, HistAt D.C_History H' e.2 ∧ e.2.h = []) ∧ (hsfp mv).Nodup ∧ ∀ c ∈ hsfp mv, upd H3 r (.frz od (.dK (sd rk))) c = none ∧ c ≠ M)
      ⟨same_upd nM, [], rfl, upd_same, nofun, List.nodup_nil, nofun⟩ (fun i H' _ ⟨s, _⟩ => s _ _ ef) ?_ ?_
    · rintro i x H4 H5 hi ⟨s4, mv, ek, eM, hm, hnd, hfr⟩ ⟨rfl, p, hp, rfl⟩
      refine ⟨rfl, _, rfl, fun x dx nx ndx nex => ?_⟩
      have sm := same_made (C := D.C_History) (o := .ins D.C_History dx []) nx ndx
      refine ⟨x, dx, rfl, upd_same, fun a H6 ex eh eg nD Ha sb => ⟨rfl, ?_⟩⟩
      subst ex
      have s56 := sameB_new nx sm sb
      have nMx : M ≠ a.x := ne_of_none eM nx
      have nMD : M ≠ a.D := fun e => by
        rw [← e, sm _ _ eM] at nD
        cases nD
      have nD5 : H5 a.D = none := sm.free nD
      have efp : a.fp = [a.x, a.D] := by
        unfold HA.fp
        rw [eg]
        rfl
      have mvl : mv.length ≤ 30 := by
        have := congrArg List.length ek
        rw [List.length_map, List.length_map, List.length_take] at this
        omega
      have hnew : getA mv p.1 = none := by
        rw [getA_none_iff, ek]
        have nd := k.nd
        have hil := (List.getElem?_eq_some_iff.mp hp).1
        intro hm
        rw [← List.take_append_drop i rk, List.map_append, List.nodup_append] at nd
        refine nd.2.2 _ hm p.1 ?_ rfl
        rw [List.drop_eq_getElem_cons hil]
        rw [(List.getElem?_eq_some_iff.mp hp).2]
        exact List.mem_cons_self
      refine ⟨hsK mv, Sum.inr p.1, rfl, s56 _ _ eM, by rw [hsK_len]; exact small2k (by omega), same_app nM (s4.trans s56), mv ++ [(p.1, a)], ?_, ?_, ?_, ?_, ?_⟩
      · rw [List.map_append, ek, take_snoc hp, List.map_append]
        rfl
      · rw [upd_same, hsK_put, putA_new hnew]
      · intro e he
        rcases List.mem_append.mp he with he | he
        · refine ⟨((hm e he).1.mono s56).by fun c hc o eo => ?_, (hm e he).2⟩
          rw [upd_ne (hfr c (hsfp_mem.mpr ⟨e, he, hc⟩)).2]
          exact eo
        · rw [List.mem_singleton.mp he]
          refine ⟨Ha.by fun c hc o eo => ?_, eh⟩
          rw [efp] at hc
          rw [upd_ne (fun z => ?_)]
          · exact eo
          · rcases List.mem_cons.mp hc with e | hc
            · exact nMx (z.symm.trans e)
            · exact nMD (z.symm.trans (List.mem_singleton.mp hc))
      · rw [hsfp_app, show hsfp [(p.1, a)] = a.fp from List.append_nil _, List.nodup_append]
        refine ⟨hnd, Ha.nd, fun c hc c' hc' e => ?_⟩
        subst e
        obtain ⟨e, he, hc⟩ := hsfp_mem.mp hc
        obtain ⟨o, ho⟩ := (hm e he).1.ex c hc
        rw [efp] at hc'
        rcases List.mem_cons.mp hc' with e | hc'
        · rw [e, nx] at ho
          cases ho
        · rw [List.mem_singleton.mp hc', nD5] at ho
          cases ho
      · intro c hc
        rw [hsfp_app, show hsfp [(p.1, a)] = a.fp from List.append_nil _] at hc
        rcases List.mem_append.mp hc with hc | hc
        · exact hfr c hc
        · rw [efp] at hc
          rcases List.mem_cons.mp hc with e | hc
          · rw [e]
            exact ⟨s4.free nx, nMx.symm⟩
          · rw [List.mem_singleton.mp hc]
            exact ⟨s4.free nD5, nMD.symm⟩
    · rintro H4 ⟨s4, mv, ek, eM, hm, hnd, hfr⟩
      rw [List.take_length] at ek
      refine ⟨s4 _ _ ef, ?_⟩
      have fr : ∀ c ∈ hsfp mv, H3 c = none ∧ c ≠ M := fun c hc => by
        obtain ⟨f1, f2⟩ := hfr c hc
        refine ⟨?_, f2⟩
        rw [upd_ne (fun z => by rw [z, ef] at f1; cases f1)] at f1
        exact f1
      have s34 : Same H3 (upd H4 r (.dK (sd rk))) := lock_back hr3 s4
      have eM5 : upd H4 r (.dK (sd rk)) M = some (.dK (hsK mv)) := by rw [upd_ne nMr]; exact eM
      have hm5 : ∀ e ∈ mv, HistAt D.C_History (upd H4 r (.dK (sd rk))) e.2 ∧ e.2.h = [] := fun e he => ⟨(hm e he).1.by fun c hc o eo => by
        rw [upd_ne (fun z => by have := (fr c (hsfp_mem.mpr ⟨e, he, hc⟩)).1; rw [z, hr3] at this; cases this)]
        exact eo, (hm e he).2⟩
      generalize upd H4 r (.dK (sd rk)) = H5 at *
      have nbM : M ≠ b := fun e => by rw [e, hb3] at nM3; cases nM3
      refine ⟨_, rfl, b, _, dx, _, rfl, s34 _ _ hb3, D.Z_Book.cl, D.n_Book_moves, by show 1 < 1000; decide, ?_⟩
      have hb6 : upd H5 b (.ins D.C_Book dx [("rank_of", .ref R), ("moves", .ref M)]) b = some (.ins D.C_Book dx [("rank_of", .ref R), ("moves", .ref M)]) := upd_same
      have sb6 : SameB b H5 (upd H5 b (.ins D.C_Book dx [("rank_of", .ref R), ("moves", .ref M)])) := SameB.upd (SameB.of (Same.refl _))
      generalize hG6 : upd H5 b (.ins D.C_Book dx [("rank_of", .ref R), ("moves", .ref M)]) = H6 at *
      have hG6' : upd H5 b (.ins D.C_Book dx (putF "moves" (V.ref M) [("rank_of", V.ref R)])) = H6 := hG6
      rw [hG6']
      refine fun L nL => ?_
      have s7 := same_upd (o := .dK []) nL
      have eL := upd_same (H := H6) (a := L) (o := .dK [])
      generalize upd H6 L (.dK []) = H7 at *
      refine ⟨_, rfl, b, _, dx, _, rfl, s7 _ _ hb6, D.Z_Book.cl, D.n_Book_landings, by show 2 < 1000; decide, ?_⟩
      have nbL : L ≠ b := fun e => by rw [e, hb6] at nL; cases nL
      have hb8 : upd H7 b (.ins D.C_Book dx [("rank_of", .ref R), ("moves", .ref M), ("landings", .ref L)]) b = some (.ins D.C_Book dx [("rank_of", .ref R), ("moves", .ref M), ("landings", .ref L)]) := upd_same
      have sb8 : SameB b H7 (upd H7 b (.ins D.C_Book dx [("rank_of", .ref R), ("moves", .ref M), ("landings", .ref L)])) := SameB.upd (SameB.of (Same.refl _))
      generalize hG8 : upd H7 b (.ins D.C_Book dx [("rank_of", .ref R), ("moves", .ref M), ("landings", .ref L)]) = H8 at *
      have hG8' : upd H7 b (.ins D.C_Book dx (putF "landings" (V.ref L) [("rank_of", V.ref R), ("moves", V.ref M)])) = H8 := hG8
      rw [hG8']
      refine ⟨_, rfl, b, _, dx, _, rfl, hb8, D.Z_Book.cl, D.n_Book_latest_known, by show 3 < 1000; decide, ?_⟩
      have hb9 : upd H8 b (.ins D.C_Book dx [("rank_of", .ref R), ("moves", .ref M), ("landings", .ref L), ("latest_known", .non)]) b = some (.ins D.C_Book dx [("rank_of", .ref R), ("moves", .ref M), ("landings", .ref L), ("latest_known", .non)]) := upd_same
      have sb9 : SameB b H8 (upd H8 b (.ins D.C_Book dx [("rank_of", .ref R), ("moves", .ref M), ("landings", .ref L), ("latest_known", .non)])) := SameB.upd (SameB.of (Same.refl _))
      generalize hG9 : upd H8 b (.ins D.C_Book dx [("rank_of", .ref R), ("moves", .ref M), ("landings", .ref L), ("latest_known", .non)]) = H9 at *
      have hG9' : upd H8 b (.ins D.C_Book dx (putF "latest_known" V.non [("rank_of", V.ref R), ("moves", V.ref M), ("landings", V.ref L)])) = H9 := hG9
      rw [hG9']
      have t79 : SameB b H7 H9 := sb8.trans sb9
      have t59 : SameB b H5 H9 := sb6.trans ((SameB.of s7).trans t79)
      have t39 : SameB b H3 H9 := (SameB.of s34).trans t59
      have t09 : SameB b H H9 := (SameB.of (s1.trans s2)).trans (sb3.trans t39)
      have bh : BkH D.C_Book D.C_History H9 ⟨b, dx, R, M, L, mv, [], rk, []⟩ .non := by
        refine ⟨hb9, t39 _ _ nbR eR3, t59 _ _ nbM eM5, t79 _ _ nbL eL, ?_, nofun, ?_⟩
        · intro e he
          refine (hm5 e he).1.by fun c hc o eo => t59 _ _ (fun z => ?_) eo
          have := (fr c (hsfp_mem.mpr ⟨e, he, hc⟩)).1
          rw [z, hb3] at this
          cases this
        · have fL : ∀ {c : Addr}, (∃ o, H5 c = some o) → c ≠ b → c ≠ L := fun ⟨o, ho⟩ n z => by
            have := sb6 _ _ n ho
            rw [z, nL] at this
            cases this
          have fM : ∀ {c : Addr}, (∃ o, H3 c = some o) → c ≠ M := fun ⟨o, ho⟩ z => by
            rw [z, nM3] at ho
            cases ho
          have fh : ∀ {c : Addr}, (∃ o, H3 c = some o) → c ∉ hsfp mv := fun ⟨o, ho⟩ z => by
            rw [(fr _ z).1] at ho
            cases ho
          show (b :: R :: M :: L :: (hsfp mv ++ [])).Nodup
          rw [List.append_nil]
          refine List.nodup_cons.mpr ⟨fun h => ?_, List.nodup_cons.mpr ⟨fun h => ?_, List.nodup_cons.mpr ⟨fun h => ?_, List.nodup_cons.mpr ⟨fun h => ?_, hnd⟩⟩⟩⟩
          · rcases List.mem_cons.mp h with h | h
            · exact nbR h.symm
            rcases List.mem_cons.mp h with h | h
            · exact nbM h.symm
            rcases List.mem_cons.mp h with h | h
            · exact nbL h.symm
            · exact fh ⟨_, hb3⟩ h
          · rcases List.mem_cons.mp h with h | h
            · exact fM ⟨_, eR3⟩ h
            rcases List.mem_cons.mp h with h | h
            · exact fL ⟨_, s34 _ _ eR3⟩ nbR h
            · exact fh ⟨_, eR3⟩ h
          · rcases List.mem_cons.mp h with h | h
            · exact fL ⟨_, eM5⟩ nbM h
            · exact (fr _ h).2 rfl
          · obtain ⟨e, he, hc⟩ := hsfp_mem.mp h
            obtain ⟨o, ho⟩ := (hm5 e he).1.ex L hc
            exact fL ⟨o, ho⟩ nbL rfl
      have bp : BkP ⟨b, dx, R, M, L, mv, [], rk, []⟩ := ⟨k, ek, List.nodup_nil, fun e he => (hm5 e he).2, nofun, nofun, List.Pairwise.nil, nofun⟩
      refine q _ H9 ⟨_, rfl, rfl, rfl, rfl, bh, bp, Nat.le_refl _⟩ (fun c hc => ?_) t09
      have f3 : ∀ {c : Addr}, H3 c = none → c = b ∨ H c = none := fun {c} h => by
        by_cases z : c = b
        · exact .inl z
        · refine .inr (s1.free (s2.free ?_))
          cases e : H2 c with
          | none => rfl
          | some o =>
            rw [sb3 _ _ z e] at h
            cases h
      rcases List.mem_cons.mp hc with h | hc
      · exact .inl h
      rcases List.mem_cons.mp hc with h | hc
      · rw [h]
        exact .inr (s1.free nR)
      rcases List.mem_cons.mp hc with h | hc
      · rw [h]
        exact f3 nM3
      rcases List.mem_cons.mp hc with h | hc
      · rw [h]
        refine f3 (s34.free ?_)
        cases e : H5 L with
        | none => rfl
        | some o =>
          rw [sb6 _ _ nbL e] at nL
          cases nL
      · have hc : c ∈ hsfp mv := by
          rcases List.mem_append.mp hc with h | h
          · exact h
          · exact nomatch h
        exact f3 (fr c hc).1
theorem sc_Book_ranks : FnScope ["self"] ["self"] (defScope s_Book_ranks) := ⟨rfl, rfl, rfl, by decide +kernel, rfl, by decide +kernel, by decide +kernel⟩
theorem ok_Book_ranks (D : All K P mg) : FnOk P w K mg base CX0 1 D.f_Book_ranks D.d_Book_ranks ["self"] (spBRanks D.C_Book D.C_History) := by
  refine D.h_Book_ranks.fn.ok sc_Book_ranks (fun vs H Q E h => ?_) (fun cdv A outer s H vs Q E hr h => ?_)
  · first | (obtain ⟨_, rfl, _⟩ := h; rfl) | (obtain ⟨_, _, rfl, _⟩ := h; rfl) | (obtain ⟨_, _, _, rfl, _⟩ := h; rfl) | (obtain ⟨_, _, _, _, rfl, _⟩ := h; rfl) | (obtain ⟨_, _, _, _, _, rfl, _⟩ := h; rfl) | (obtain ⟨_, _, _, _, _, _, rfl, _⟩ := h; rfl) | (obtain ⟨_, _, _, _, _, _, _, rfl, _⟩ := h; rfl) | (obtain ⟨_, _, _, _, _, _, _, _, rfl, _⟩ := h; rfl) | (obtain ⟨_, _, _, _, _, _, _, _, _, rfl, _⟩ := h; rfl) | (obtain ⟨_, _, _, _, _, _, _, _, _, _, rfl, _⟩ := h; rfl) | (obtain ⟨_, _, _, _, _, _, _, _, _, _, _, rfl, _⟩ := h; rfl) | (obtain ⟨_, _, _, _, _, _, _, _, _, _, _, _, rfl, _⟩ := h; rfl) | (obtain ⟨_, _, _, _, _, _, _, _, _, _, _, _, _, rfl, _⟩ := h; rfl) | (obtain ⟨_, _, _, _, _, _, _, _, _, _, _, _, _, _, rfl, _⟩ := h; rfl) | (obtain ⟨_, _, _, _, _, _, _, _, _, _, _, _, _, _, _, rfl, _⟩ := h; rfl)
  · have T := D.T
    have nd := sc_Book_ranks.nd
    have hu := hr.units
    have hu1 := hu_of hr
    have hu0 := hr.units0
    obtain ⟨_, rk, es, fp, rfl, ⟨B, rfl, rfl, rfl, rfl, bh, bp, bl⟩, q⟩ := h
    refine ⟨_, pss_one (ps_ret (pe_callTy call_dictD (by rfl) T.dict (by decide +kernel) (pa_cons (pe_fld (pv 0) rfl) pa_nil))), ?_⟩
    refine ⟨_, rfl, B.b, _, B.dx, _, _, rfl, bh.ix, D.Z_Book.cl, D.n_Book_rank_of, rfl, B.R, _, rfl, .inl bh.rd, fun r nr => ?_⟩
    exact q r _ nr upd_same (same_upd nr)
theorem sc_check_keeper : FnScope ["book", "thing"] ["book", "thing"] (defScope s_check_keeper) := ⟨rfl, rfl, rfl, by decide +kernel, rfl, by decide +kernel, by decide +kernel⟩
theorem ok_check_keeper (D : All K P mg) : FnOk P w K mg base CX0 2 D.f_check_keeper D.d_check_keeper ["book", "thing"] (spCkKeeper D.C_Book D.C_History) := by
  refine D.h_check_keeper.fn.ok sc_check_keeper (fun vs H Q E h => ?_) (fun cdv A outer s H vs Q E hr h => ?_)
  · first | (obtain ⟨_, rfl, _⟩ := h; rfl) | (obtain ⟨_, _, rfl, _⟩ := h; rfl) | (obtain ⟨_, _, _, rfl, _⟩ := h; rfl) | (obtain ⟨_, _, _, _, rfl, _⟩ := h; rfl) | (obtain ⟨_, _, _, _, _, rfl, _⟩ := h; rfl) | (obtain ⟨_, _, _, _, _, _, rfl, _⟩ := h; rfl) | (obtain ⟨_, _, _, _, _, _, _, rfl, _⟩ := h; rfl) | (obtain ⟨_, _, _, _, _, _, _, _, rfl, _⟩ := h; rfl) | (obtain ⟨_, _, _, _, _, _, _, _, _, rfl, _⟩ := h; rfl) | (obtain ⟨_, _, _, _, _, _, _, _, _, _, rfl, _⟩ := h; rfl) | (obtain ⟨_, _, _, _, _, _, _, _, _, _, _, rfl, _⟩ := h; rfl) | (obtain ⟨_, _, _, _, _, _, _, _, _, _, _, _, rfl, _⟩ := h; rfl) | (obtain ⟨_, _, _, _, _, _, _, _, _, _, _, _, _, rfl, _⟩ := h; rfl) | (obtain ⟨_, _, _, _, _, _, _, _, _, _, _, _, _, _, rfl, _⟩ := h; rfl) | (obtain ⟨_, _, _, _, _, _, _, _, _, _, _, _, _, _, _, rfl, _⟩ := h; rfl)
  · have T := D.T
    have nd := sc_check_keeper.nd
    have hu := hr.units
    have hu1 := hu_of hr
    have hu0 := hr.units0
    obtain ⟨_, rk, es, fp, z, rfl, ⟨B, rfl, rfl, rfl, rfl, bh, bp, bl⟩, hz, q⟩ := h
    refine ⟨_, pss_one (ps_if (PW.pt (pw_or (pt_not (pt_val (pe_call (ok_is_name D) (hr.mono (by decide)) (by rfl) D.h_is_name.gl D.h_is_name.fn.kp D.h_is_name.bd .nil pass0 (pa_cons (pv 1) pa_nil)))) (pw_or1 (pt_cmp (pc_dnotin hu1 (pv 1) (pe_fld (pv 0) rfl)))))) (pss_one ps_never) pss_nil), ?_⟩
    obtain ⟨i, hi⟩ := get_key hz
    have hn : Nm z := bp.rk.nm _ (getA_mem hi)
    have l8 := hn.l8
    refine ⟨_, rfl, .str z, rfl, .str z, fun y e => by cases e; rw [sizeLine_eq]; omega, fun H1 s1 => ⟨_, rfl, ?_⟩⟩
    rw [hn.b]
    refine iteF ⟨_, rfl, _, rfl, B.b, _, B.dx, _, _, rfl, s1 _ _ bh.ix, D.Z_Book.cl, D.n_Book_rank_of, rfl, B.R, _, rfl, dget_sd (s1 _ _ bh.rd) hi, _, rfl, iteF (q H1 s1)⟩
theorem sc_check_not_early : FnScope ["book", "known"] ["book", "known"] (defScope s_check_not_early) := ⟨rfl, rfl, rfl, by decide +kernel, rfl, by decide +kernel, by decide +kernel⟩
theorem ok_check_not_early (D : All K P mg) : FnOk P w K mg base CX0 1 D.f_check_not_early D.d_check_not_early ["book", "known"] (spNotEarly D.C_Book D.C_History) := by
  refine D.h_check_not_early.fn.ok sc_check_not_early (fun vs H Q E h => ?_) (fun cdv A outer s H vs Q E hr h => ?_)
  · first | (obtain ⟨_, rfl, _⟩ := h; rfl) | (obtain ⟨_, _, rfl, _⟩ := h; rfl) | (obtain ⟨_, _, _, rfl, _⟩ := h; rfl) | (obtain ⟨_, _, _, _, rfl, _⟩ := h; rfl) | (obtain ⟨_, _, _, _, _, rfl, _⟩ := h; rfl) | (obtain ⟨_, _, _, _, _, _, rfl, _⟩ := h; rfl) | (obtain ⟨_, _, _, _, _, _, _, rfl, _⟩ := h; rfl) | (obtain ⟨_, _, _, _, _, _, _, _, rfl, _⟩ := h; rfl) | (obtain ⟨_, _, _, _, _, _, _, _, _, rfl, _⟩ := h; rfl) | (obtain ⟨_, _, _, _, _, _, _, _, _, _, rfl, _⟩ := h; rfl) | (obtain ⟨_, _, _, _, _, _, _, _, _, _, _, rfl, _⟩ := h; rfl) | (obtain ⟨_, _, _, _, _, _, _, _, _, _, _, _, rfl, _⟩ := h; rfl) | (obtain ⟨_, _, _, _, _, _, _, _, _, _, _, _, _, rfl, _⟩ := h; rfl) | (obtain ⟨_, _, _, _, _, _, _, _, _, _, _, _, _, _, rfl, _⟩ := h; rfl) | (obtain ⟨_, _, _, _, _, _, _, _, _, _, _, _, _, _, _, rfl, _⟩ := h; rfl)
  · have T := D.T
    have nd := sc_check_not_early.nd
    have hu := hr.units
    have hu1 := hu_of hr
    have hu0 := hr.units0
    obtain ⟨_, rk, es, fp, kn, rfl, ⟨B, rfl, rfl, rfl, rfl, bh, bp, bl⟩, hk, q⟩ := h
    refine ⟨_, pss_one (ps_if (PW.pt (pw_and (pt_cmpR op_notN (pe_fld (pv 0) rfl) pe_non (nomark _)) (pw_and1 (pt_cmpR op_lt (pv 1) (pe_fld (pv 0) rfl) (nomark _))))) (pss_one ps_never) pss_nil), ?_⟩
    refine ⟨_, rfl, B.b, _, B.dx, _, _, rfl, bh.ix, D.Z_Book.cl, D.n_Book_latest_known, rfl, rfl, _, rfl, ?_⟩
    rcases late_le hk with e | ⟨l, e, hl⟩
    · rw [e]
      exact iteF q
    · rw [e]
      refine iteT ⟨_, rfl, _, rfl, B.b, _, B.dx, _, _, rfl, bh.ix, D.Z_Book.cl, D.n_Book_latest_known, rfl, kn, l, rfl, e, _, rfl, ?_⟩
      rw [decide_eq_false (by omega)]
      exact iteF q
theorem sc_Book_tell : FnScope ["self", "known", "keeper", "day", "place"] ["self", "known", "keeper", "day", "place"] (defScope s_Book_tell) := ⟨rfl, rfl, rfl, by decide +kernel, rfl, by decide +kernel, by decide +kernel⟩
theorem ok_Book_tell (D : All K P mg) : FnOk P w K mg base CX0 5 D.f_Book_tell D.d_Book_tell ["self", "known", "keeper", "day", "place"] (spTell D.C_Book D.C_History) := by
  refine D.h_Book_tell.fn.ok sc_Book_tell (fun vs H Q E h => ?_) (fun cdv A outer s H vs Q E hr h => ?_)
  · first | (obtain ⟨_, rfl, _⟩ := h; rfl) | (obtain ⟨_, _, rfl, _⟩ := h; rfl) | (obtain ⟨_, _, _, rfl, _⟩ := h; rfl) | (obtain ⟨_, _, _, _, rfl, _⟩ := h; rfl) | (obtain ⟨_, _, _, _, _, rfl, _⟩ := h; rfl) | (obtain ⟨_, _, _, _, _, _, rfl, _⟩ := h; rfl) | (obtain ⟨_, _, _, _, _, _, _, rfl, _⟩ := h; rfl) | (obtain ⟨_, _, _, _, _, _, _, _, rfl, _⟩ := h; rfl) | (obtain ⟨_, _, _, _, _, _, _, _, _, rfl, _⟩ := h; rfl) | (obtain ⟨_, _, _, _, _, _, _, _, _, _, rfl, _⟩ := h; rfl) | (obtain ⟨_, _, _, _, _, _, _, _, _, _, _, rfl, _⟩ := h; rfl) | (obtain ⟨_, _, _, _, _, _, _, _, _, _, _, _, rfl, _⟩ := h; rfl) | (obtain ⟨_, _, _, _, _, _, _, _, _, _, _, _, _, rfl, _⟩ := h; rfl) | (obtain ⟨_, _, _, _, _, _, _, _, _, _, _, _, _, _, rfl, _⟩ := h; rfl) | (obtain ⟨_, _, _, _, _, _, _, _, _, _, _, _, _, _, _, rfl, _⟩ := h; rfl)
  · have T := D.T
    have nd := sc_Book_tell.nd
    have hu := hr.units
    have hu1 := hu_of hr
    have hu0 := hr.units0
    obtain ⟨b, rk, es, fp, kn, d, z, w, rfl, W, ok, hk, hl, q⟩ := h
    refine ⟨_, pss_cons (ps_expr (pe_call (ok_check_day D) (hr.mono (by decide)) (by rfl) D.h_check_day.gl D.h_check_day.fn.kp D.h_check_day.bd .nil pass0 (pa_cons (pv 1) pa_nil)))
      (pss_cons (ps_expr (pe_call (ok_check_day D) (hr.mono (by decide)) (by rfl) D.h_check_day.gl D.h_check_day.fn.kp D.h_check_day.bd .nil pass0 (pa_cons (pv 3) pa_nil)))
      (pss_cons (ps_expr (pe_call (ok_check_keeper D) (hr.mono (by decide)) (by rfl) D.h_check_keeper.gl D.h_check_keeper.fn.kp D.h_check_keeper.bd .nil pass0 (pa_cons (pv 0) (pa_cons (pv 2) pa_nil))))
      (pss_cons (ps_if (pt_cmpR op_notN (pv 4) pe_non (nomark _)) (pss_one (ps_expr (pe_call (ok_check_place D) (hr.mono (by decide)) (by rfl) D.h_check_place.gl D.h_check_place.fn.kp D.h_check_place.bd .nil pass0 (pa_cons (pv 4) pa_nil)))) pss_nil)
      (pss_cons (ps_expr (pe_call (ok_check_not_early D) (hr.mono (by decide)) (by rfl) D.h_check_not_early.gl D.h_check_not_early.fn.kp D.h_check_not_early.bd .nil pass0 (pa_cons (pv 0) (pa_cons (pv 1) pa_nil))))
      (pss_cons (ps_expr (pe_meth (pe_dget hu1 (pe_fld (pv 0) rfl) (pv 2) (fun _ _ => rfl)) D.Z_History.cl D.h_History_note.me (ok_History_note D) (hr.mono (by decide)) D.h_History_note.bd .nil pass0 (pa_cons (pv 1) (pa_cons (pv 3) (pa_cons (pv 4) pa_nil)))))
      (pss_one (ps_fld (pv 0) (pv 1) rfl))))))), ?_⟩
    obtain ⟨hzk, hw⟩ := ok.mw rfl
    refine ⟨_, rfl, kn, rfl, ok.k0, _, rfl, d, rfl, ok.d0, ?_⟩
    refine ⟨_, rfl, _, rfl, b, rk, es, fp, z, rfl, W, hzk, fun H1 s1 => ?_⟩
    apply joinA (α := Unit) (J := fun _ Hx => Same H Hx) (sl := fun _ => [some (.ref b), some (.int kn), some (.str z), some (.int d), some w])
    · intro h
      refine ⟨_, rfl, rfl, _, rfl, ?_⟩
      have hw : w = .non ∨ ∃ z, w = .str z ∧ Pl z := hw
      rcases hw with e | ⟨y, e, hy⟩
      · rw [decide_eq_true e]
        exact iteF (h () H1 s1)
      · rw [decide_eq_false (by rw [e]; nofun)]
        exact iteT ⟨_, rfl, y, congrArg (fun v => [v]) e, hy, fun H2 s2 => h () H2 (s1.trans s2)⟩
    rintro _ H2 s2
    refine ⟨_, rfl, _, rfl, b, rk, es, fp, kn, rfl, W.mono s2, hk, ?_⟩
    obtain ⟨B, rfl, rfl, rfl, rfl, bh, bp, bl⟩ := W
    have bh2 := bh.by (H' := H2) fun c _ o e => s2 c o e
    obtain ⟨a, ha⟩ := get_key (kvs := B.mv) (z := z) (by rw [bp.km]; exact hzk)
    obtain ⟨l1, l2, el, _⟩ := get_split ha
    have hmem : (z, a) ∈ B.mv := by rw [el]; exact List.mem_append_right _ List.mem_cons_self
    have Ha := bh2.hm _ hmem
    refine ⟨_, rfl, B.b, _, B.dx, _, _, rfl, bh2.ix, D.Z_Book.cl, D.n_Book_moves, rfl, _, rfl, B.M, _, rfl, dget_hs bh2.md ha, a.x, a.dx, _, rfl, Ha.ix, rfl, _, rfl, _, rfl, _, rfl, a, kn, d, w, rfl, Ha, OKH.of (bp.hm _ hmem) (by omega), fun a' H3 ex eh Ha' fr s3 => ?_⟩
    obtain ⟨bh3, fr3, s3'⟩ := bh2.setM el Ha' ex fr s3
    have bp3 := bp.tell el eh hk ok
    refine ⟨_, rfl, _, rfl, B.b, _, B.dx, _, rfl, bh3.ix, D.Z_Book.cl, D.n_Book_latest_known, by show 4 < 1000; decide, ?_⟩
    have mb : B.b ∈ B.fp := List.mem_cons_self
    refine q _ _ ⟨{ B with mv := l1 ++ (z, a') :: l2, es := B.es ++ [⟨true, kn, z, d, w⟩] }, rfl, rfl, rfl, rfl, ?_, bp3, by show B.ld.length ≤ (B.es ++ _).length; rw [List.length_append]; omega⟩ (fun c hc => (fr3 c hc).imp id fun h => s2.free h) (SameL.upd mb ((SameL.of s2).trans s3'))
    rw [lateV_snoc]
    have := bh3.late (.int kn)
    exact ⟨this.ix, this.rd, this.md, this.ldd, this.hm, this.hl, this.nd⟩
theorem sc_Book_land : FnScope ["self", "known", "light", "day", "weight"] ["self", "known", "light", "day", "weight"] (defScope s_Book_land) := ⟨rfl, rfl, rfl, by decide +kernel, rfl, by decide +kernel, by decide +kernel⟩
theorem ok_Book_land (D : All K P mg) : FnOk P w K mg base CX0 5 D.f_Book_land D.d_Book_land ["self", "known", "light", "day", "weight"] (spLand D.C_Book D.C_History) := by
  refine D.h_Book_land.fn.ok sc_Book_land (fun vs H Q E h => ?_) (fun cdv A outer s H vs Q E hr h => ?_)
  · first | (obtain ⟨_, rfl, _⟩ := h; rfl) | (obtain ⟨_, _, rfl, _⟩ := h; rfl) | (obtain ⟨_, _, _, rfl, _⟩ := h; rfl) | (obtain ⟨_, _, _, _, rfl, _⟩ := h; rfl) | (obtain ⟨_, _, _, _, _, rfl, _⟩ := h; rfl) | (obtain ⟨_, _, _, _, _, _, rfl, _⟩ := h; rfl) | (obtain ⟨_, _, _, _, _, _, _, rfl, _⟩ := h; rfl) | (obtain ⟨_, _, _, _, _, _, _, _, rfl, _⟩ := h; rfl) | (obtain ⟨_, _, _, _, _, _, _, _, _, rfl, _⟩ := h; rfl) | (obtain ⟨_, _, _, _, _, _, _, _, _, _, rfl, _⟩ := h; rfl) | (obtain ⟨_, _, _, _, _, _, _, _, _, _, _, rfl, _⟩ := h; rfl) | (obtain ⟨_, _, _, _, _, _, _, _, _, _, _, _, rfl, _⟩ := h; rfl) | (obtain ⟨_, _, _, _, _, _, _, _, _, _, _, _, _, rfl, _⟩ := h; rfl) | (obtain ⟨_, _, _, _, _, _, _, _, _, _, _, _, _, _, rfl, _⟩ := h; rfl) | (obtain ⟨_, _, _, _, _, _, _, _, _, _, _, _, _, _, _, rfl, _⟩ := h; rfl)
  · have T := D.T
    have nd := sc_Book_land.nd
    have hu := hr.units
    have hu1 := hu_of hr
    have hu0 := hr.units0
    obtain ⟨b, rk, es, fp, kn, d, z, w, rfl, W, ok, hk, hl, q⟩ := h
    refine ⟨_, pss_cons (ps_expr (pe_call (ok_check_day D) (hr.mono (by decide)) (by rfl) D.h_check_day.gl D.h_check_day.fn.kp D.h_check_day.bd .nil pass0 (pa_cons (pv 1) pa_nil)))
      (pss_cons (ps_expr (pe_call (ok_check_day D) (hr.mono (by decide)) (by rfl) D.h_check_day.gl D.h_check_day.fn.kp D.h_check_day.bd .nil pass0 (pa_cons (pv 3) pa_nil)))
      (pss_cons (ps_expr (pe_call (ok_check_light D) (hr.mono (by decide)) (by rfl) D.h_check_light.gl D.h_check_light.fn.kp D.h_check_light.bd .nil pass0 (pa_cons (pv 2) pa_nil)))
      (pss_cons (ps_expr (pe_call (ok_check_number D) (hr.mono (by decide)) (by rfl) D.h_check_number.gl D.h_check_number.fn.kp D.h_check_number.bd .nil pass0 (pa_cons (pv 4) (pa_cons pe_int pa_nil))))
      (pss_cons (ps_expr (pe_call (ok_check_not_early D) (hr.mono (by decide)) (by rfl) D.h_check_not_early.gl D.h_check_not_early.fn.kp D.h_check_not_early.bd .nil pass0 (pa_cons (pv 0) (pa_cons (pv 1) pa_nil))))
      (pss_cons (ps_if (pt_cmp (pc_dnotin hu1 (pv 2) (pe_fld (pv 0) rfl))) (pss_one (ps_dput hu1 (pe_fld (pv 0) rfl) (pv 2) (pe_make0 D.M_History (ok_History___init__ D) (hr.mono (by decide)) (by rfl) D.Z_History.gl D.h_History___init__.bd .nil pass0) rfl)) pss_nil)
      (pss_cons (ps_expr (pe_meth (pe_dget hu1 (pe_fld (pv 0) rfl) (pv 2) (fun _ _ => rfl)) D.Z_History.cl D.h_History_note.me (ok_History_note D) (hr.mono (by decide)) D.h_History_note.bd .nil pass0 (pa_cons (pv 1) (pa_cons (pv 3) (pa_cons (pv 4) pa_nil)))))
      (pss_one (ps_fld (pv 0) (pv 1) rfl)))))))), ?_⟩
    obtain ⟨hz, n, rfl, n0, _⟩ := ok.lw rfl
    refine ⟨_, rfl, kn, rfl, ok.k0, _, rfl, d, rfl, ok.d0, ?_⟩
    refine ⟨_, rfl, z, rfl, hz, fun H2 s2 => ?_⟩
    refine ⟨_, rfl, n, 0, rfl, n0, _, rfl, _, rfl, b, rk, es, fp, kn, rfl, W.mono s2, hk, ?_⟩
    obtain ⟨B, rfl, rfl, rfl, rfl, bh, bp, bl⟩ := W
    have bh2 := bh.by (H' := H2) fun c _ o e => s2 c o e
    apply joinA (α := BA) (J := fun B' Hx => B'.b = B.b ∧ B'.rk = B.rk ∧ B'.es = B.es ∧ BkH D.C_Book D.C_History Hx B' (lateV B.es) ∧ BkP B' ∧ (∃ a, getA B'.ld z = some a) ∧ (∀ c ∈ B'.fp, c ∈ B.fp ∨ H2 c = none) ∧ SameL B.fp H2 Hx ∧ B'.ld.length ≤ B.es.length + 1)
      (sl := fun _ => [some (.ref B.b), some (.int kn), some (.str z), some (.int d), some (.int n)])
    · intro h
      refine ⟨_, rfl, _, rfl, B.b, _, B.dx, _, _, rfl, bh2.ix, D.Z_Book.cl, D.n_Book_landings, rfl, ?_⟩
      cases hg : getA B.ld z with
      | some a => exact ⟨B.L, _, rfl, dget_hs bh2.ldd hg, _, rfl, iteF (h B H2 ⟨rfl, rfl, rfl, bh2, bp, ⟨a, hg⟩, fun c hc => .inl hc, .of (Same.refl _), Nat.le_succ_of_le bl⟩)⟩
      | none =>
        refine ⟨B.L, _, rfl, dget_no bh2.ldd hg, _, rfl, iteT fun x dx nx ndx nex => ?_⟩
        have sm := same_made (C := D.C_History) (o := .ins D.C_History dx []) nx ndx
        refine ⟨x, dx, rfl, upd_same, fun a H3 ex eh eg nD Ha sb => ⟨rfl, ?_⟩⟩
        subst ex
        have s3 := sameB_new nx sm sb
        have bh3 := bh2.by (H' := H3) fun c _ o e => s3 c o e
        have efp : a.fp = [a.x, a.D] := by
          unfold HA.fp
          rw [eg]
          rfl
        refine ⟨_, rfl, B.b, _, B.dx, _, _, rfl, bh3.ix, D.Z_Book.cl, D.n_Book_landings, rfl, _, rfl, _, _, rfl, DPut.k (k := Sum.inr z) bh3.ldd (by rw [hsK_len]; exact small2k (by omega)), ?_⟩
        rw [hsK_put, putA_new hg]
        have frA : ∀ c ∈ a.fp, H2 c = none := fun c hc => by
          rw [efp] at hc
          rcases List.mem_cons.mp hc with e | hc
          · rw [e]
            exact nx
          · rw [List.mem_singleton.mp hc]
            exact sm.free nD
        obtain ⟨n1, n2, n3⟩ := bh2.newL (H' := upd H3 B.L (.dK (hsK (B.ld ++ [(z, a)])))) (z := z) s3 Ha frA upd_same (SameB.upd (SameB.of (Same.refl _)))
        refine h { B with ld := B.ld ++ [(z, a)] } _ ⟨rfl, rfl, rfl, n1, bp.newL (getA_none_iff.mp hg) eh, ⟨a, ?_⟩, n2, n3, by show (B.ld ++ _).length ≤ _; rw [List.length_append]; exact Nat.succ_le_succ bl⟩
        show getA (B.ld ++ [(z, a)]) z = some a
        rw [getA_app (getA_none_iff.mp hg)]
        exact getA_pos rfl
    rintro B' Hx ⟨eb, erk, ees, bhx, bpx, ⟨a, ha⟩, frx, sx, blx⟩
    obtain ⟨l1, l2, el, _⟩ := get_split ha
    have hmem : (z, a) ∈ B'.ld := by rw [el]; exact List.mem_append_right _ List.mem_cons_self
    have Ha := bhx.hl _ hmem
    have ix : Hx B.b = some (.ins D.C_Book B'.dx [("rank_of", .ref B'.R), ("moves", .ref B'.M), ("landings", .ref B'.L), ("latest_known", lateV B.es)]) := by rw [← eb]; exact bhx.ix
    refine ⟨_, rfl, B.b, _, B'.dx, _, _, rfl, ix, D.Z_Book.cl, D.n_Book_landings, rfl, _, rfl, B'.L, _, rfl, dget_hs bhx.ldd ha, a.x, a.dx, _, rfl, Ha.ix, rfl, _, rfl, _, rfl, _, rfl, a, kn, d, .int n, rfl, Ha, OKH.of (bpx.hl _ hmem) (by rw [ees]; omega), fun a' H3 ex eh Ha' fr s3 => ?_⟩
    obtain ⟨bh3, fr3, s3'⟩ := bhx.setL el Ha' ex fr s3
    have bp3 := bpx.land el eh (by rw [ees]; exact hk) (by rw [erk]; exact ok)
    refine ⟨_, rfl, _, rfl, B.b, _, B'.dx, _, rfl, (congrArg H3 eb).symm.trans bh3.ix, D.Z_Book.cl, D.n_Book_latest_known, by show 4 < 1000; decide, ?_⟩
    have mb : B.b ∈ B.fp := List.mem_cons_self
    rw [← eb]
    refine q _ _ ⟨{ B' with ld := l1 ++ (z, a') :: l2, es := B'.es ++ [⟨false, kn, z, d, .int n⟩] }, eb, erk, by show B'.es ++ _ = _; rw [ees], rfl, ?_, bp3, ?_⟩ ?_ ?_
    · rw [lateV_snoc]
      have := bh3.late (.int kn)
      exact ⟨this.ix, this.rd, this.md, this.ldd, this.hm, this.hl, this.nd⟩
    · show (l1 ++ (z, a') :: l2).length ≤ (B'.es ++ _).length
      have e2 := congrArg List.length el
      rw [List.length_append, List.length_cons] at e2
      rw [List.length_append, List.length_append, List.length_cons, List.length_singleton, ees]
      omega
    · intro c hc
      rcases fr3 c hc with h | h
      · exact (frx c h).imp id fun h => s2.free h
      · by_cases hf : c ∈ B.fp
        · exact .inl hf
        · exact .inr (s2.free (sx.free h hf))
    · refine SameL.upd (by rw [eb]; exact mb) ((SameL.of s2).trans (sx.fresh s3' frx))
end
end K91
set_option Elab.async false
set_option linter.all false
set_option maxRecDepth 100000
set_option maxHeartbeats 1600000
set_option pp.maxSteps 300
namespace K91
open PySem PySem.Spec PyProof.Rows L2 LT NdefX LamX
section
variable {P : Program} {w : World} {K : PySem.W.Frag} {mg : Str → Option Value} {base : Heap}
theorem sc_History_all_told : FnScope ["self", "day", "told", "known", "worth"] ["self"] (defScope s_History_all_told) := ⟨rfl, rfl, rfl, by decide +kernel, rfl, by decide +kernel, by decide +kernel⟩
theorem ok_History_all_told (D : All K P mg) : FnOk P w K mg base CX0 1 D.f_History_all_told D.d_History_all_told ["self"] (spAllTold D.C_History) := by
  refine D.h_History_all_told.fn.ok sc_History_all_told (fun vs H Q E h => ?_) (fun cdv A outer s H vs Q E hr h => ?_)
  · first | (obtain ⟨_, rfl, _⟩ := h; rfl) | (obtain ⟨_, _, rfl, _⟩ := h; rfl) | (obtain ⟨_, _, _, rfl, _⟩ := h; rfl) | (obtain ⟨_, _, _, _, rfl, _⟩ := h; rfl) | (obtain ⟨_, _, _, _, _, rfl, _⟩ := h; rfl) | (obtain ⟨_, _, _, _, _, _, rfl, _⟩ := h; rfl) | (obtain ⟨_, _, _, _, _, _, _, rfl, _⟩ := h; rfl) | (obtain ⟨_, _, _, _, _, _, _, _, rfl, _⟩ := h; rfl) | (obtain ⟨_, _, _, _, _, _, _, _, _, rfl, _⟩ := h; rfl) | (obtain ⟨_, _, _, _, _, _, _, _, _, _, rfl, _⟩ := h; rfl) | (obtain ⟨_, _, _, _, _, _, _, _, _, _, _, rfl, _⟩ := h; rfl) | (obtain ⟨_, _, _, _, _, _, _, _, _, _, _, _, rfl, _⟩ := h; rfl) | (obtain ⟨_, _, _, _, _, _, _, _, _, _, _, _, _, rfl, _⟩ := h; rfl) | (obtain ⟨_, _, _, _, _, _, _, _, _, _, _, _, _, _, rfl, _⟩ := h; rfl) | (obtain ⟨_, _, _, _, _, _, _, _, _, _, _, _, _, _, _, rfl, _⟩ := h; rfl)
  · have T := D.T
    have nd := sc_History_all_told.nd
    have hu := hr.units
    have hu1 := hu_of hr
    have hu0 := hr.units0
    obtain ⟨a, rfl, W, hn, q⟩ := h
    refine ⟨_, pss_one (ps_ret (pe_lockM (pe_lc2 (own := [("day", 1), ("told", 2), ("known", 3), ("worth", 4)]) (vs1 := [3, 4]) (g := gTup K 2 (gCons (gName 1) (gCons (gName 2) gNil))) (g1 := gTup K 2 (gCons (gName 3) (gCons (gName 4) gNil))) (tt := tYes) (tt1 := tYes) rfl nd (pi_items (pe_fld (pv 0) rfl))
      (blkOk_by (N := ["self", "day", "told", "known", "worth"]) (sc := defScope s_History_all_told) (by decide +kernel)) (by decide) (fun _ _ _ _ _ => (pg_tup rfl (pgs_cons (pg_name (i := 1) nd rfl (Or.inl rfl)) (pgs_cons (pg_name (i := 2) nd rfl (Or.inl rfl)) pgs_nil)))) (fun _ _ _ _ _ => pts_nil)
      (fun _ _ _ _ _ => pi_items (pv 2)) (fun _ _ _ _ _ => (pg_tup rfl (pgs_cons (pg_name (i := 3) nd rfl (Or.inl rfl)) (pgs_cons (pg_name (i := 4) nd rfl (Or.inl rfl)) pgs_nil)))) (fun _ _ _ _ _ => pts_nil) (fun _ _ _ _ _ => pe_tup (pa_cons (pv 3) (pa_cons (pv 1) (pa_cons (pv 4) pa_nil))))))), ?_⟩
    have ndf := W.nd
    have hdx : a.x ∉ a.D :: a.g.map (·.2) := (List.nodup_cons.mp ndf).1
    have ndD := (List.nodup_cons.mp ndf).2
    refine ⟨_, locksE (a.D :: a.g.map (·.2)) H _ ndD (fun d hd => ?_) fun Hl hl Q' hq => ?_⟩
    · rcases List.mem_cons.mp hd with rfl | hd
      · exact ⟨_, W.bd, trivial⟩
      · obtain ⟨p, hp, rfl⟩ := List.mem_map.mp hd
        obtain ⟨i, hi⟩ := List.getElem?_of_mem hp
        obtain ⟨e, _, h1, h2⟩ := paired_get W.ta hi
        exact ⟨_, h2, trivial⟩
    have eX : Hl a.x = some (.ins D.C_History a.dx [("by_day", .ref a.D)]) := by
      rw [hl.2 _ hdx]
      exact W.ix
    obtain ⟨od, u, hu, eD⟩ := hl.1 a.D List.mem_cons_self
    rw [W.bd] at hu
    cases hu
    have gl : a.g.length = a.h.length := Paired.length W.ta
    have dday : ∀ (i : Nat) (p : Int × Addr) (e : Int × Told), a.g[i]? = some p → a.h[i]? = some e → p.1 = e.1 ∧ ∃ od, Hl p.2 = some (.frz od (.dK (toldK e.2))) := fun i p e hp he => by
      obtain ⟨e', h1, h2, h3⟩ := paired_get W.ta hp
      rw [he] at h1
      cases h1
      obtain ⟨od, u, hu, e4⟩ := hl.1 p.2 (List.mem_cons_of_mem _ (List.mem_map.mpr ⟨p, List.mem_of_getElem? hp, rfl⟩))
      rw [h3] at hu
      cases hu
      exact ⟨h2, od, e4⟩
    refine ⟨_, rfl, a.x, _, a.dx, _, _, rfl, eX, D.Z_History.cl, D.n_History_by_day, rfl, a.D, od, _, rfl, eD, fun F nF => ?_⟩
    refine walkW (walk_eni (gk := Sum.inl) (f := V.ref) (r := a.g)) (fun i H' => Same Hl H' ∧ ∃ ts : List Addr, H' F = some (.lst (ts.map V.ref)) ∧ Paired (TellT H') ts (flatH (a.h.take i))) ⟨same_upd nF, [], upd_same, .nil⟩ (fun i H' _ ⟨s, _⟩ => s _ _ eD) ?_ ?_
    · rintro i x H1 H2 hi ⟨s1, ts, eF, hts⟩ ⟨T1, p, hp, rfl, nT1, rfl⟩
      obtain ⟨e, he⟩ : ∃ e, a.h[i]? = some e := ⟨_, List.getElem?_eq_getElem (by omega)⟩
      obtain ⟨ep, od2, ed2⟩ := dday i p e hp he
      have s2 := same_upd (o := .tup [kV (Sum.inl p.1), V.ref p.2]) nT1
      have eT1 := upd_same (H := H1) (a := T1) (o := .tup [kV (Sum.inl p.1), V.ref p.2])
      generalize L2.upd H1 T1 (.tup [kV (Sum.inl p.1), V.ref p.2]) = H2 at *
      refine ⟨T1, _, rfl, SqT.of eT1, rfl, _, _, rfl, _, _, rfl, rfl, rfl, ?_⟩
      have s02 := s1.trans s2
      refine ⟨_, rfl, p.2, od2, _, rfl, s02 _ _ ed2, ?_⟩
      refine walkW (walk_eni (gk := Sum.inl) (f := id) (r := e.2)) (fun j H' => Same Hl H' ∧ ∃ ts : List Addr, H' F = some (.lst (ts.map V.ref)) ∧ Paired (TellT H') ts (flatH (a.h.take i) ++ (e.2.take j).map fun q => (q.1, e.1, q.2))) ⟨s02, ts, s2 _ _ eF, by rw [List.take_zero, List.map_nil, List.append_nil]; exact paired_imp (fun _ _ h => s2 _ _ h) hts⟩ (fun i H' _ ⟨s, _⟩ => s _ _ ed2) ?_ ?_
      · rintro j x H3 H4 hj ⟨s3, ts, eF, hts⟩ ⟨T2, r, hr, rfl, nT2, rfl⟩
        have s4 := same_upd (o := .tup [kV (Sum.inl r.1), id r.2]) nT2
        have eT2 := upd_same (H := H3) (a := T2) (o := .tup [kV (Sum.inl r.1), id r.2])
        generalize L2.upd H3 T2 (.tup [kV (Sum.inl r.1), id r.2]) = H4 at *
        refine ⟨T2, _, rfl, SqT.of eT2, rfl, _, _, rfl, _, _, rfl, rfl, rfl, ?_⟩
        refine ⟨_, rfl, _, rfl, _, rfl, by show 3 ≤ sizeLine; decide, fun T3 nT3 => ?_⟩
        have s5 := same_upd (o := .tup [V.int r.1, .int p.1, r.2]) nT3
        have eT3 := upd_same (H := H4) (a := T3) (o := .tup [V.int r.1, .int p.1, r.2])
        have eF5 := s5 _ _ (s4 _ _ eF)
        have s35 := s4.trans s5
        have tl := Paired.length hts
        have tl2 : ts.length < 2001 := by
          have h1 := flatH_take a.h (i + 1)
          rw [flatH_snoc he, List.length_append, List.length_map] at h1
          rw [tl, List.length_append, List.length_map, List.length_take]
          have : (flatH a.h).length ≤ 2000 := hn
          omega
        refine ⟨_, eF5, by rw [List.length_map, sizeLine_eq]; omega, same_put nF (s3.trans s35), ts ++ [T3], ?_, ?_⟩
        · rw [upd_same, List.map_append]
          rfl
        · have hT3 : TellT (L2.upd H4 T3 (.tup [V.int r.1, .int p.1, r.2])) T3 (r.1, e.1, r.2) := by
            show L2.upd H4 T3 (.tup [V.int r.1, .int p.1, r.2]) T3 = some (HO.tup [V.int r.1, .int e.1, r.2])
            rw [eT3, ep]
          have key : ∀ {Hx : Hp} {t : Addr} {y : Int × Int × V} {xs : List V} {o : HO}, Hx F = some (.lst xs) → TellT Hx t y → TellT (L2.upd Hx F o) t y := fun {Hx t y xs o} ef h => by
            show L2.upd Hx F o t = _
            rw [upd_ne (ne_of h ef (by intro z; cases z))]
            exact h
          rw [take_snoc hr, List.map_append, ← List.append_assoc]
          exact paired_snoc' (paired_imp (fun _ _ h => key eF5 (s35 _ _ h)) hts) (key eF5 hT3)
      · rintro H3 ⟨s3, ts, eF, hts⟩
        rw [List.take_length, ← flatH_snoc he] at hts
        exact ⟨s3, ts, eF, hts⟩
    · rintro H1 ⟨s1, ts, eF, hts⟩
      rw [gl, List.take_length] at hts
      refine hq _ H1 (fun d hd => ?_) (q F ts _ (unlock_none hl nF) (unlock_new hl nF eF) (paired_imp (fun _ _ h => h.unlock hl s1) hts) (unlock_same hl s1))
      obtain ⟨od, u, _, e⟩ := hl.1 d hd
      rw [e, s1 _ _ e]
theorem sc_Book_entries : FnScope ["self", "told", "light", "history", "keeper", "known", "day", "weight", "place"] ["self"] (defScope s_Book_entries) := ⟨rfl, rfl, rfl, by decide +kernel, rfl, by decide +kernel, by decide +kernel⟩
theorem ok_Book_entries (D : All K P mg) (TB : TBs D base) : FnOk P w K mg base CX0 9 D.f_Book_entries D.d_Book_entries ["self"] (spEntries D.C_Book D.C_History (TLs D)) := by
  refine D.L_Book_entries.ok sc_Book_entries (fun vs H Q E h => ?_) (fun A outer s H vs Q E hr h => ?_)
  · first | (obtain ⟨_, rfl, _⟩ := h; rfl) | (obtain ⟨_, _, rfl, _⟩ := h; rfl) | (obtain ⟨_, _, _, rfl, _⟩ := h; rfl) | (obtain ⟨_, _, _, _, rfl, _⟩ := h; rfl) | (obtain ⟨_, _, _, _, _, rfl, _⟩ := h; rfl) | (obtain ⟨_, _, _, _, _, _, rfl, _⟩ := h; rfl) | (obtain ⟨_, _, _, _, _, _, _, rfl, _⟩ := h; rfl) | (obtain ⟨_, _, _, _, _, _, _, _, rfl, _⟩ := h; rfl) | (obtain ⟨_, _, _, _, _, _, _, _, _, rfl, _⟩ := h; rfl) | (obtain ⟨_, _, _, _, _, _, _, _, _, _, rfl, _⟩ := h; rfl) | (obtain ⟨_, _, _, _, _, _, _, _, _, _, _, rfl, _⟩ := h; rfl) | (obtain ⟨_, _, _, _, _, _, _, _, _, _, _, _, rfl, _⟩ := h; rfl) | (obtain ⟨_, _, _, _, _, _, _, _, _, _, _, _, _, rfl, _⟩ := h; rfl) | (obtain ⟨_, _, _, _, _, _, _, _, _, _, _, _, _, _, rfl, _⟩ := h; rfl) | (obtain ⟨_, _, _, _, _, _, _, _, _, _, _, _, _, _, _, rfl, _⟩ := h; rfl)
  · have T := D.T
    have nd := sc_Book_entries.nd
    have hu := hr.units
    have hu1 := hu_of hr
    have hu0 := hr.units0
    obtain ⟨_, rk, es, fp, rfl, ⟨B, rfl, rfl, rfl, rfl, bh, bp, bl⟩, hl, hT, q⟩ := h
    refine ⟨_, pss_cons (ps_set (i := 1) nd rfl (.inl rfl) (pe_lst pa_nil))
      (pss_cons (ps_lock (ps_for PassesOwn.never rfl (pi_items (pe_fld (pv 0) rfl)) (pg_tup rfl (pgs_cons (pg_name (i := 2) nd rfl (Or.inr rfl)) (pgs_cons (pg_name (i := 3) nd rfl (Or.inl rfl)) pgs_nil))) (pss_one (ps_aug (i := 1) nd rfl (.inl rfl) (pe_lc (own := [("known", 5), ("day", 6), ("weight", 7)]) (g := gTup K 3 (gCons (gName 5) (gCons (gName 6) (gCons (gName 7) gNil)))) (tt := tYes) rfl nd (pi_list (pe_meth0 (pv 3) D.Z_History.cl D.h_History_all_told.me (ok_History_all_told D) (hr.mono (by decide)) D.h_History_all_told.bd .nil pass0)) (blkOk_by (N := ["self", "told", "light", "history", "keeper", "known", "day", "weight", "place"]) (sc := defScope s_Book_entries) (by decide +kernel)) (fun _ _ _ _ _ => (pg_tup rfl (pgs_cons (pg_name (i := 5) nd rfl (Or.inl rfl)) (pgs_cons (pg_name (i := 6) nd rfl (Or.inl rfl)) (pgs_cons (pg_name (i := 7) nd rfl (Or.inl rfl)) pgs_nil))))) (fun _ _ _ _ _ => pts_nil) (fun _ _ _ _ _ => (pe_tup (pa_cons pe_str (pa_cons (pv 5) (pa_cons (pv 2) (pa_cons (pv 6) (pa_cons (pv 7) pa_nil)))))))) ip_cat))))
      (pss_cons (ps_lock (ps_for PassesOwn.never rfl (pi_items (pe_fld (pv 0) rfl)) (pg_tup rfl (pgs_cons (pg_name (i := 4) nd rfl (Or.inr rfl)) (pgs_cons (pg_name (i := 3) nd rfl (Or.inl rfl)) pgs_nil))) (pss_one (ps_aug (i := 1) nd rfl (.inl rfl) (pe_lc (own := [("known", 5), ("day", 6), ("place", 8)]) (g := gTup K 3 (gCons (gName 5) (gCons (gName 6) (gCons (gName 8) gNil)))) (tt := tYes) rfl nd (pi_list (pe_meth0 (pv 3) D.Z_History.cl D.h_History_all_told.me (ok_History_all_told D) (hr.mono (by decide)) D.h_History_all_told.bd .nil pass0)) (blkOk_by (N := ["self", "told", "light", "history", "keeper", "known", "day", "weight", "place"]) (sc := defScope s_Book_entries) (by decide +kernel)) (fun _ _ _ _ _ => (pg_tup rfl (pgs_cons (pg_name (i := 5) nd rfl (Or.inl rfl)) (pgs_cons (pg_name (i := 6) nd rfl (Or.inl rfl)) (pgs_cons (pg_name (i := 8) nd rfl (Or.inl rfl)) pgs_nil))))) (fun _ _ _ _ _ => pts_nil) (fun _ _ _ _ _ => (pe_tup (pa_cons pe_str (pa_cons (pv 5) (pa_cons (pv 4) (pa_cons (pv 6) (pa_cons (pv 8) pa_nil)))))))) ip_cat))))
      (pss_one (ps_ret (pe_sortedLamT (T := TLs D) (x := "entry") (k := 0) (by rfl) T.sorted (pa_cons (pv 1) pa_nil) rfl rfl TB.t_Book_entries rfl D.mem_Book_entries (fun p hp e => D.uq_Book_entries p hp e) (show LamP (defScope s_Book_entries) _ _ from lamP_by (by decide +kernel)) (show ("entry" : Str) ∉ (["self", "told", "light", "history", "keeper", "known", "day", "weight", "place"] : List Str) by decide) rfl (fun _ _ _ _ _ _ => rfl) hr (fun A outer s H f c' hr3 => pe_slice (r := rSlT K) sl_tup (pv 0) po_none (po_some pe_int)) (by decide +kernel)))))), ?_⟩
    have ndd := bh.nd
    have n1 := (List.nodup_cons.mp ndd).1
    have n2 := (List.nodup_cons.mp (List.nodup_cons.mp ndd).2).1
    have n3 := (List.nodup_cons.mp (List.nodup_cons.mp (List.nodup_cons.mp ndd).2).2).1
    have n4 := (List.nodup_cons.mp (List.nodup_cons.mp (List.nodup_cons.mp (List.nodup_cons.mp ndd).2).2).2).1
    have nbL : B.b ≠ B.L := fun z => n1 (by rw [z]; exact List.mem_cons_of_mem _ (List.mem_cons_of_mem _ List.mem_cons_self))
    have nbM : B.b ≠ B.M := fun z => n1 (by rw [z]; exact List.mem_cons_of_mem _ List.mem_cons_self)
    have nL : ∀ c ∈ hsfp B.mv ++ hsfp B.ld, c ≠ B.L := fun c hc z => n4 (by rw [← z]; exact hc)
    have nM : ∀ c ∈ hsfp B.mv ++ hsfp B.ld, c ≠ B.M := fun c hc z => n3 (by rw [← z]; exact List.mem_cons_of_mem _ hc)
    have elen : (flatE false B.ld).length + (flatE true B.mv).length ≤ 60 := by
      have := entL_le bp
      unfold entL at this
      rw [List.length_append] at this
      omega
    refine ⟨by show 0 ≤ sizeLine; decide, fun F nF => ?_⟩
    have s1 := same_upd (o := .lst []) nF
    have eF := upd_same (H := H) (a := F) (o := .lst [])
    generalize L2.upd H F (.lst []) = H1 at *
    have nFc : ∀ c o, H c = some o → F ≠ c := fun c o e => ne_of_none' nF e
    -- land
    refine ⟨B.L, _, s1 _ _ bh.ldd, trivial, fun od => ?_⟩
    obtain ⟨HL, eHL⟩ : ∃ HL, HL = L2.upd H1 B.L (.frz od (.dK (hsK B.ld))) := ⟨_, rfl⟩
    rw [← eHL]
    have nFL : F ≠ B.L := nFc _ _ bh.ldd
    have eL : HL B.L = some (.frz od (.dK (hsK B.ld))) := by rw [eHL, upd_same]
    have oth : ∀ a o, a ≠ B.L → H1 a = some o → HL a = some o := fun a o n e => by rw [eHL, upd_ne n]; exact e
    have back : ∀ a, a ≠ B.L → HL a = H1 a := fun a n => by rw [eHL, upd_ne n]
    have xb := oth _ _ (nbL) (s1 _ _ bh.ix)
    refine ⟨_, rfl, B.b, _, B.dx, _, _, rfl, xb, D.Z_Book.cl, D.n_Book_landings, rfl, B.L, od, _, rfl, eL, ?_⟩
    refine for_it (walk_eni (gk := Sum.inr) (f := fun a : HA => V.ref a.x) (r := B.ld)) (fun i σ H' => (∃ x2 x3 x4, σ = [some (.ref B.b), some (.ref F), x2, x3, x4, none, none, none, none]) ∧ SameB F HL H' ∧ ∃ ts : List Addr, H' F = some (.lst (ts.map V.ref)) ∧ Paired (EvT H') ts (flatE false (B.ld.take i)))
      ⟨⟨_, _, _, rfl⟩, SameB.of (Same.refl _), [], oth _ _ nFL eF, .nil⟩ (fun i σ H' _ ⟨_, s, _⟩ => s _ _ (Ne.symm nFL) eL) ?_ ?_
    · rintro i x σ H2 H3 hi ⟨⟨x2, x3, x4, rfl⟩, sb, ts, eF2, hts⟩ ⟨T1, p, hp, rfl, nT1, rfl⟩
      have s3 := same_upd (o := .tup [kV (Sum.inr p.1), V.ref p.2.x]) nT1
      have eT1 := upd_same (H := H2) (a := T1) (o := .tup [kV (Sum.inr p.1), V.ref p.2.x])
      generalize L2.upd H2 T1 (.tup [kV (Sum.inr p.1), V.ref p.2.x]) = H3 at *
      have sb3 : SameB F HL H3 := sb.trans (SameB.of s3)
      have hmem := List.mem_of_getElem? hp
      have Hh : HistAt D.C_History H3 p.2 := (bh.hl p hmem).by fun c hc o e => sb3 c o (fun z => nFc _ _ e z.symm) (oth c o (nL c (List.mem_append_right _ (hsfp_mem.mpr ⟨p, hmem, hc⟩))) (s1 _ _ e))
      have eh := bp.hl p hmem
      refine ⟨T1, _, rfl, SqT.of eT1, rfl, _, _, rfl, _, _, rfl, rfl, ?_⟩
      refine ⟨_, rfl, _, rfl, p.2.x, p.2.dx, _, rfl, Hh.ix, rfl, p.2, rfl, Hh, (by rw [eh]; exact Nat.le_trans (flat_le _ _ _) (by omega)), fun l us H4 nl el hus s4 => ?_⟩
      have flen : (flatH p.2.h).length ≤ 60 := by rw [eh]; exact Nat.le_trans (flat_le _ _ _) hl
      refine ⟨l, rfl, ⟨_, SqL.of el⟩, fun G nG => ?_⟩
      refine lc_list (K := K) (a := l) (xs := us.map V.ref) (fun j H' => Same H4 H' ∧ ∃ vs : List Addr, H' G = some (.lst (vs.map V.ref)) ∧ Paired (EvT H') vs (((flatH p.2.h).take j).map fun q => ⟨false, q.1, p.1, q.2.1, q.2.2⟩)) ⟨same_upd nG, [], upd_same, .nil⟩ (fun j H' _ h => h.1.seq (SqL.of el)) ?_ ?_
      · rintro j v H5 hv ⟨s5, vs, eG, hvs⟩
        obtain ⟨t, q0, rfl, hq, ht⟩ := pick_at hus hv
        have ht5 := s5 _ _ ht
        refine ⟨t, _, rfl, SqT.of ht5, rfl, _, _, rfl, _, _, rfl, _, _, rfl, rfl, rfl, ?_⟩
        refine ⟨_, rfl, _, rfl, _, rfl, _, rfl, by show 5 ≤ sizeLine; decide, fun T5 nT5 => ?_⟩
        have s6 := same_upd (o := .tup [V.str (Str.ofString "land"), V.int q0.1, kV (Sum.inr p.1), V.int q0.2.1, q0.2.2]) nT5
        have eT5 := upd_same (H := H5) (a := T5) (o := .tup [V.str (Str.ofString "land"), V.int q0.1, kV (Sum.inr p.1), V.int q0.2.1, q0.2.2])
        generalize L2.upd H5 T5 (.tup [V.str (Str.ofString "land"), V.int q0.1, kV (Sum.inr p.1), V.int q0.2.1, q0.2.2]) = H6 at *
        have vl : vs.length ≤ 60 := by
          rw [Paired.length hvs, List.length_map, List.length_take]
          omega
        have eG6 := s6 _ _ eG
        refine ⟨_, eG6, by rw [List.length_map]; exact small2k (by omega), same_put nG (s5.trans s6), vs ++ [T5], ?_, ?_⟩
        · rw [upd_same, List.map_append]
          rfl
        · rw [take_snoc hq, List.map_append]
          exact paired_snoc' (paired_imp (fun _ _ h => evT_upd (s6 _ _ h) eG6) hvs) (evT_upd (show EvT H6 T5 ⟨false, q0.1, p.1, q0.2.1, q0.2.2⟩ from eT5) eG6)
      · rintro H5 ⟨s5, vs, eG, hvs⟩
        have ul : (us.map V.ref).length = (flatH p.2.h).length := by rw [List.length_map]; exact Paired.length hus
        rw [ul, List.take_length] at hvs
        have s25 : Same H2 H5 := s3.trans (s4.trans s5)
        have eF5 := s25 _ _ eF2
        have htl : ts.length ≤ 60 := by
          rw [Paired.length hts]
          have h1 := flatE_take false B.ld i
          have h2 := elen
          omega
        have hvl : vs.length ≤ 60 := by
          rw [Paired.length hvs, List.length_map]
          exact flen
        refine ⟨F, G, _, _, rfl, rfl, eF5, eG, by rw [List.length_map, List.length_map, sizeLine_eq]; omega, ⟨_, _, _, rfl⟩, (sb.trans (SameB.of s25)).upd, ts ++ vs, ?_, ?_⟩
        · rw [upd_same, List.map_append]
        · rw [flatE_snoc hp]
          exact paired_cat (paired_imp (fun _ _ h => evT_upd (s25 _ _ h) eF5) hts) (paired_imp (fun _ _ h => evT_upd h eF5) hvs)
    rintro σ H7 ⟨⟨y2, y3, y4, rfl⟩, sb, ts1, eF2, hts⟩
    refine ⟨sb _ _ (Ne.symm nFL) eL, ?_⟩
    rw [List.take_length] at hts
    have s13 : Same H (L2.upd H7 B.L (.dK (hsK B.ld))) := fun a o e => by
      by_cases ha : a = B.L
      · rw [ha] at e ⊢
        rw [upd_same, ← bh.ldd, e]
      · rw [upd_ne ha]
        exact sb a o (fun z => nFc _ _ e z.symm) (oth a o ha (s1 _ _ e))
    have eF13 : L2.upd H7 B.L (.dK (hsK B.ld)) F = some (.lst (ts1.map V.ref)) := by
      rw [upd_ne nFL]
      exact eF2
    have hts1 : Paired (EvT (L2.upd H7 B.L (.dK (hsK B.ld)))) ts1 (flatE false B.ld) := paired_imp (fun _ _ h => evT_frz h (sb _ _ (Ne.symm nFL) eL)) hts
    generalize L2.upd H7 B.L (.dK (hsK B.ld)) = H13 at *
    clear eHL eL oth back xb nFL sb eF2 hts
    -- move
    refine ⟨B.M, _, s13 _ _ bh.md, trivial, fun od => ?_⟩
    obtain ⟨HL, eHL⟩ : ∃ HL, HL = L2.upd H13 B.M (.frz od (.dK (hsK B.mv))) := ⟨_, rfl⟩
    rw [← eHL]
    have nFL : F ≠ B.M := nFc _ _ bh.md
    have eL : HL B.M = some (.frz od (.dK (hsK B.mv))) := by rw [eHL, upd_same]
    have oth : ∀ a o, a ≠ B.M → H13 a = some o → HL a = some o := fun a o n e => by rw [eHL, upd_ne n]; exact e
    have back : ∀ a, a ≠ B.M → HL a = H13 a := fun a n => by rw [eHL, upd_ne n]
    have xb := oth _ _ (nbM) (s13 _ _ bh.ix)
    refine ⟨_, rfl, B.b, _, B.dx, _, _, rfl, xb, D.Z_Book.cl, D.n_Book_moves, rfl, B.M, od, _, rfl, eL, ?_⟩
    refine for_it (walk_eni (gk := Sum.inr) (f := fun a : HA => V.ref a.x) (r := B.mv)) (fun i σ H' => (∃ x2 x3 x4, σ = [some (.ref B.b), some (.ref F), x2, x3, x4, none, none, none, none]) ∧ SameB F HL H' ∧ ∃ ts : List Addr, H' F = some (.lst (ts.map V.ref)) ∧ Paired (EvT H') ts (flatE false B.ld ++ flatE true (B.mv.take i)))
      ⟨⟨_, _, _, rfl⟩, SameB.of (Same.refl _), ts1, oth _ _ nFL eF13, by rw [List.take_zero]; show Paired _ _ (flatE false B.ld ++ []); rw [List.append_nil]; exact paired_imp (fun _ _ h => by rw [eHL]; exact evT_dK h (s13 _ _ bh.md)) hts1⟩ (fun i σ H' _ ⟨_, s, _⟩ => s _ _ (Ne.symm nFL) eL) ?_ ?_
    · rintro i x σ H2 H3 hi ⟨⟨x2, x3, x4, rfl⟩, sb, ts, eF2, hts⟩ ⟨T1, p, hp, rfl, nT1, rfl⟩
      have s3 := same_upd (o := .tup [kV (Sum.inr p.1), V.ref p.2.x]) nT1
      have eT1 := upd_same (H := H2) (a := T1) (o := .tup [kV (Sum.inr p.1), V.ref p.2.x])
      generalize L2.upd H2 T1 (.tup [kV (Sum.inr p.1), V.ref p.2.x]) = H3 at *
      have sb3 : SameB F HL H3 := sb.trans (SameB.of s3)
      have hmem := List.mem_of_getElem? hp
      have Hh : HistAt D.C_History H3 p.2 := (bh.hm p hmem).by fun c hc o e => sb3 c o (fun z => nFc _ _ e z.symm) (oth c o (nM c (List.mem_append_left _ (hsfp_mem.mpr ⟨p, hmem, hc⟩))) (s13 _ _ e))
      have eh := bp.hm p hmem
      refine ⟨T1, _, rfl, SqT.of eT1, rfl, _, _, rfl, _, _, rfl, rfl, ?_⟩
      refine ⟨_, rfl, _, rfl, p.2.x, p.2.dx, _, rfl, Hh.ix, rfl, p.2, rfl, Hh, (by rw [eh]; exact Nat.le_trans (flat_le _ _ _) (by omega)), fun l us H4 nl el hus s4 => ?_⟩
      have flen : (flatH p.2.h).length ≤ 60 := by rw [eh]; exact Nat.le_trans (flat_le _ _ _) hl
      refine ⟨l, rfl, ⟨_, SqL.of el⟩, fun G nG => ?_⟩
      refine lc_list (K := K) (a := l) (xs := us.map V.ref) (fun j H' => Same H4 H' ∧ ∃ vs : List Addr, H' G = some (.lst (vs.map V.ref)) ∧ Paired (EvT H') vs (((flatH p.2.h).take j).map fun q => ⟨true, q.1, p.1, q.2.1, q.2.2⟩)) ⟨same_upd nG, [], upd_same, .nil⟩ (fun j H' _ h => h.1.seq (SqL.of el)) ?_ ?_
      · rintro j v H5 hv ⟨s5, vs, eG, hvs⟩
        obtain ⟨t, q0, rfl, hq, ht⟩ := pick_at hus hv
        have ht5 := s5 _ _ ht
        refine ⟨t, _, rfl, SqT.of ht5, rfl, _, _, rfl, _, _, rfl, _, _, rfl, rfl, rfl, ?_⟩
        refine ⟨_, rfl, _, rfl, _, rfl, _, rfl, by show 5 ≤ sizeLine; decide, fun T5 nT5 => ?_⟩
        have s6 := same_upd (o := .tup [V.str (Str.ofString "move"), V.int q0.1, kV (Sum.inr p.1), V.int q0.2.1, q0.2.2]) nT5
        have eT5 := upd_same (H := H5) (a := T5) (o := .tup [V.str (Str.ofString "move"), V.int q0.1, kV (Sum.inr p.1), V.int q0.2.1, q0.2.2])
        generalize L2.upd H5 T5 (.tup [V.str (Str.ofString "move"), V.int q0.1, kV (Sum.inr p.1), V.int q0.2.1, q0.2.2]) = H6 at *
        have vl : vs.length ≤ 60 := by
          rw [Paired.length hvs, List.length_map, List.length_take]
          omega
        have eG6 := s6 _ _ eG
        refine ⟨_, eG6, by rw [List.length_map]; exact small2k (by omega), same_put nG (s5.trans s6), vs ++ [T5], ?_, ?_⟩
        · rw [upd_same, List.map_append]
          rfl
        · rw [take_snoc hq, List.map_append]
          exact paired_snoc' (paired_imp (fun _ _ h => evT_upd (s6 _ _ h) eG6) hvs) (evT_upd (show EvT H6 T5 ⟨true, q0.1, p.1, q0.2.1, q0.2.2⟩ from eT5) eG6)
      · rintro H5 ⟨s5, vs, eG, hvs⟩
        have ul : (us.map V.ref).length = (flatH p.2.h).length := by rw [List.length_map]; exact Paired.length hus
        rw [ul, List.take_length] at hvs
        have s25 : Same H2 H5 := s3.trans (s4.trans s5)
        have eF5 := s25 _ _ eF2
        have htl : ts.length ≤ 60 := by
          rw [Paired.length hts]
          have h1 := flatE_take true B.mv i
          have h2 := elen
          rw [List.length_append]
          omega
        have hvl : vs.length ≤ 60 := by
          rw [Paired.length hvs, List.length_map]
          exact flen
        refine ⟨F, G, _, _, rfl, rfl, eF5, eG, by rw [List.length_map, List.length_map, sizeLine_eq]; omega, ⟨_, _, _, rfl⟩, (sb.trans (SameB.of s25)).upd, ts ++ vs, ?_, ?_⟩
        · rw [upd_same, List.map_append]
        · rw [flatE_snoc hp, ← List.append_assoc]
          exact paired_cat (paired_imp (fun _ _ h => evT_upd (s25 _ _ h) eF5) hts) (paired_imp (fun _ _ h => evT_upd h eF5) hvs)
    rintro σ H17 ⟨⟨z2, z3, z4, rfl⟩, sb, ts2, eF2, hts⟩
    refine ⟨sb _ _ (Ne.symm nFL) eL, ?_⟩
    rw [List.take_length] at hts
    have s23 : Same H (L2.upd H17 B.M (.dK (hsK B.mv))) := fun a o e => by
      by_cases ha : a = B.M
      · rw [ha] at e ⊢
        rw [upd_same, ← bh.md, e]
      · rw [upd_ne ha]
        exact sb a o (fun z => nFc _ _ e z.symm) (oth a o ha (s13 _ _ e))
    have eF23 : L2.upd H17 B.M (.dK (hsK B.mv)) F = some (.lst (ts2.map V.ref)) := by
      rw [upd_ne nFL]
      exact eF2
    have hts2 : Paired (EvT (L2.upd H17 B.M (.dK (hsK B.mv)))) ts2 (flatE false B.ld ++ flatE true B.mv) := paired_imp (fun _ _ h => evT_frz h (sb _ _ (Ne.symm nFL) eL)) hts
    generalize L2.upd H17 B.M (.dK (hsK B.mv)) = H23 at *
    clear eHL eL oth back xb nFL sb eF2 hts
    refine ⟨_, rfl, hT.ext s23, F, ts2.map V.ref, fun v => evKey (evOfV H23 v), rfl, .inl (SqL.of eF23), ?_, ?_, ?_, fun H6 e6 T6 => ⟨fun v hv H7 s7 Q' hQ' => ?_, fun l H7 s7 nl => ?_⟩⟩
    · intro v hv y hy
      rcases List.mem_cons.mp hy with rfl | hy
      · trivial
      rcases List.mem_cons.mp hy with rfl | hy
      · trivial
      rcases List.mem_cons.mp hy with rfl | hy
      · trivial
      rw [List.mem_singleton.mp hy]
      trivial
    · intro d hd d' hd'
      obtain ⟨v, _, rfl⟩ := List.mem_map.mp hd
      obtain ⟨v', _, rfl⟩ := List.mem_map.mp hd'
      exact alike_ev _ _
    · refine .inl fun d hd => ?_
      obtain ⟨v, _, rfl⟩ := List.mem_map.mp hd
      exact ⟨_, _, rfl⟩
    · obtain ⟨i, hi⟩ := List.getElem?_of_mem hv
      obtain ⟨t, e, rfl, _, ht⟩ := pick_at hts2 hi
      have ht7 := s7 _ _ (e6 _ _ (show H23 t = some (.tup [.str (kindS e.mv), .int e.kn, .str e.who, .int e.day, e.w]) from ht) nofun)
      have hQ' : ∀ u, H7 u = none → Q' (.ref u) (L2.upd H7 u (.tup (evKey (evOfV H23 (.ref t))))) := hQ'
      rw [evOf_is ht] at hQ'
      exact ⟨_, rfl, _, rfl, t, _, rfl, SqT.of ht7, (show ¬ (HT.sIx 5 0 none = 0 ∧ HT.sIx 5 5 (some 4) = 5) by decide), fun u nu => hQ' u nu⟩
    · obtain ⟨ts', e1, e2⟩ := ents_sorted hts2
      rw [e1]
      have eN : ExtN H H7 := (extN_same s23).trans (e6.trans (extN_same s7))
      refine q l ts' _ _ (newN_of eN nl) ?_ ?_ upd_same ?_ (entL_is bp)
      · exact eN.trans (extN_same (same_upd nl))
      · exact T6.ext (s7.trans (same_upd nl))
      · refine paired_imp (fun t e h => ?_) e2
        have h7 := s7 _ _ (e6 _ _ (show H23 t = some (.tup [.str (kindS e.mv), .int e.kn, .str e.who, .int e.day, e.w]) from h) nofun)
        exact same_upd nl _ _ h7
end
end K91
set_option Elab.async false
set_option linter.all false
set_option maxRecDepth 100000
set_option maxHeartbeats 1600000
set_option pp.maxSteps 300
namespace K91
open PySem PySem.Spec PyProof.Rows L2 LT NdefX LamX
section
variable {P : Program} {w : World} {K : PySem.W.Frag} {mg : Str → Option Value} {base : Heap}
theorem sc_book_of : FnScope ["ranks", "entries", "book", "word", "known", "who", "day", "what"] ["ranks", "entries"] (defScope s_book_of) := ⟨rfl, rfl, rfl, by decide +kernel, rfl, by decide +kernel, by decide +kernel⟩
theorem ok_book_of (D : All K P mg) (TB : TBs D base) : FnOk P w K mg base CX0 9 D.f_book_of D.d_book_of ["ranks", "entries"] (spBookOf D.C_Book D.C_History (TLs D)) := by
  refine D.L_book_of.ok sc_book_of (fun vs H Q E h => ?_) (fun A outer s H vs Q E hr h => ?_)
  · first | (obtain ⟨_, rfl, _⟩ := h; rfl) | (obtain ⟨_, _, rfl, _⟩ := h; rfl) | (obtain ⟨_, _, _, rfl, _⟩ := h; rfl) | (obtain ⟨_, _, _, _, rfl, _⟩ := h; rfl) | (obtain ⟨_, _, _, _, _, rfl, _⟩ := h; rfl) | (obtain ⟨_, _, _, _, _, _, rfl, _⟩ := h; rfl) | (obtain ⟨_, _, _, _, _, _, _, rfl, _⟩ := h; rfl) | (obtain ⟨_, _, _, _, _, _, _, _, rfl, _⟩ := h; rfl) | (obtain ⟨_, _, _, _, _, _, _, _, _, rfl, _⟩ := h; rfl) | (obtain ⟨_, _, _, _, _, _, _, _, _, _, rfl, _⟩ := h; rfl) | (obtain ⟨_, _, _, _, _, _, _, _, _, _, _, rfl, _⟩ := h; rfl) | (obtain ⟨_, _, _, _, _, _, _, _, _, _, _, _, rfl, _⟩ := h; rfl) | (obtain ⟨_, _, _, _, _, _, _, _, _, _, _, _, _, rfl, _⟩ := h; rfl) | (obtain ⟨_, _, _, _, _, _, _, _, _, _, _, _, _, _, rfl, _⟩ := h; rfl) | (obtain ⟨_, _, _, _, _, _, _, _, _, _, _, _, _, _, _, rfl, _⟩ := h; rfl)
  · have T := D.T
    have nd := sc_book_of.nd
    have hu := hr.units
    have hu1 := hu_of hr
    have hu0 := hr.units0
    obtain ⟨r, l, rk, ts, L, rfl, hr', k, el, hts, ok, hl, hT, q⟩ := h
    refine ⟨_, pss_cons (ps_set (i := 2) nd rfl (.inl rfl) (pe_make D.M_Book (ok_Book___init__ D) (hr.mono (by decide)) (by rfl) D.Z_Book.gl D.h_Book___init__.bd .nil pass0 (pa_cons (pv 0) pa_nil)))
      (pss_cons (ps_for PassesOwn.never rfl (pi_list (pe_sortedLam (T := TLs D) (x := "entry") (k := 0) (by rfl) T.sorted (pa_cons (pv 1) pa_nil) rfl rfl TB.t_book_of rfl D.mem_book_of (fun p hp e => D.uq_book_of p hp e) (show LamP (defScope s_book_of) _ _ from lamP_by (by decide +kernel)) (show ("entry" : Str) ∉ (["ranks", "entries", "book", "word", "known", "who", "day", "what"] : List Str) by decide) rfl (fun _ _ _ _ _ _ => rfl) (hr.mono (by decide)) (fun A outer s H f c' hr3 => pe_ix (r := rIxT K) ix_tup (pv 0) pe_int (fun _ _ => rfl)) (by decide +kernel))) (pg_tup rfl (pgs_cons (pg_name (i := 3) nd rfl (Or.inl rfl)) (pgs_cons (pg_name (i := 4) nd rfl (Or.inl rfl)) (pgs_cons (pg_name (i := 5) nd rfl (Or.inl rfl)) (pgs_cons (pg_name (i := 6) nd rfl (Or.inl rfl)) (pgs_cons (pg_name (i := 7) nd rfl (Or.inl rfl)) pgs_nil)))))) (pss_one (ps_if (pt_cmpR op_eq (pv 3) pe_str (nomark _)) (pss_one (ps_expr (pe_meth (pv 2) D.Z_Book.cl D.h_Book_land.me (ok_Book_land D) (hr.mono (by decide)) D.h_Book_land.bd .nil pass0 (pa_cons (pv 4) (pa_cons (pv 5) (pa_cons (pv 6) (pa_cons (pv 7) pa_nil))))))) (pss_one (ps_expr (pe_meth (pv 2) D.Z_Book.cl D.h_Book_tell.me (ok_Book_tell D) (hr.mono (by decide)) D.h_Book_tell.bd .nil pass0 (pa_cons (pv 4) (pa_cons (pv 5) (pa_cons (pv 6) (pa_cons (pv 7) pa_nil))))))))))
      (pss_one (ps_ret (pv 2)))), ?_⟩
    refine ⟨_, rfl, fun b dx nb ndb nex => ?_⟩
    have sm := same_made (C := D.C_Book) (o := .ins D.C_Book dx []) nb ndb
    refine ⟨b, dx, r, rk, rfl, upd_same, sm _ _ hr', k, fun fp H1 bk fr sb => ⟨rfl, ?_⟩⟩
    have s1 : Same H H1 := sameB_new nb sm sb
    have frN : ∀ a ∈ fp, H a = none := fun a ha => by
      rcases fr a ha with h | h
      · rw [h]
        exact nb
      · exact sm.free h
    refine ⟨_, rfl, hT.ext s1, l, ts.map V.ref, fun v => (evOfV H v).kn, rfl, .inl (SqL.of (s1 _ _ el)), fun H2 e2 T2 => ⟨fun v hv Q' hQ' => ?_, fun l2 nl => ⟨l2, rfl, ⟨_, SqL.of upd_same⟩, ?_⟩⟩⟩
    · obtain ⟨i, hi⟩ := List.getElem?_of_mem hv
      obtain ⟨t, e, rfl, _, ht⟩ := pick_at hts hi
      have ht2 := e2 _ _ (s1 _ _ (show H t = some (.tup [.str (kindS e.mv), .int e.kn, .str e.who, .int e.day, e.w]) from ht)) nofun
      have hQ' : Q' (.int (evOfV H (.ref t)).kn) H2 := hQ'
      rw [evOf_is ht] at hQ'
      exact ⟨_, rfl, t, _, 1, _, rfl, rfl, SqT.of ht2, atI_nat (j := 1) rfl, hQ'⟩
    obtain ⟨ts', e1, hts'⟩ := kn_sorted hts
    have up := kn_rising L
    have pm := List.mergeSort_perm L knLe
    have ok' : ∀ e ∈ L.mergeSort knLe, EvOK rk e := fun e he => ok e (pm.mem_iff.mp he)
    have hl' : (L.mergeSort knLe).length ≤ 60 := by rw [pm.length_eq]; exact hl
    generalize L.mergeSort knLe = L' at *
    show ∃ W : Nat → Nat → L2.St → Hp → Prop, _
    rw [show ((ts.map V.ref).mergeSort fun a b => decide ((fun v => (evOfV H v).kn) a ≤ (fun v => (evOfV H v).kn) b)) = ts'.map V.ref from e1]
    have s2 := same_upd (o := .lst (ts'.map V.ref)) nl
    have el2 := upd_same (H := H2) (a := l2) (o := .lst (ts'.map V.ref))
    have nl2 : l2 ∉ fp := fun h => by
      obtain ⟨o, ho⟩ := (bk.extN e2).ex _ h
      rw [nl] at ho
      cases ho
    generalize L2.upd H2 l2 (.lst (ts'.map V.ref)) = H3 at *
    have e13 : ExtN H1 H3 := e2.trans (extN_same s2)
    have e03 : ExtN H H3 := (extN_same s1).trans e13
    have T3 := T2.ext s2
    refine for_list (xs := ts'.map V.ref) (fun i σ H' => ∃ (x3 x4 x5 x6 x7 : Option V) (fp' : List Addr), σ = [some (.ref r), some (.ref l), some (.ref b), x3, x4, x5, x6, x7] ∧ Bk D.C_Book D.C_History H' b rk (L'.take i) fp' ∧ (∀ c ∈ fp', NewN H c) ∧ l2 ∉ fp' ∧ H' l2 = some (.lst (ts'.map V.ref)) ∧ ExtN H H' ∧ Tabs (TLs D) H')
      ⟨none, none, none, none, none, fp, rfl, bk.extN e13, fun c hc => newN_none (frN c hc), nl2, el2, e03, T3⟩ (fun i σ H' _ ⟨_, _, _, _, _, _, _, _, _, _, h, _⟩ => SqL.of h) ?_ ?_
    · rintro i v σ H4 hv ⟨x3, x4, x5, x6, x7, fp4, rfl, bk4, n4, nl4, el4, e4, T4⟩
      obtain ⟨t, e, rfl, he, ht⟩ := pick_at hts' hv
      have ht4 := e4 _ _ (show H t = some (.tup [.str (kindS e.mv), .int e.kn, .str e.who, .int e.day, e.w]) from ht) nofun
      have hi : i < L'.length := (List.getElem?_eq_some_iff.mp he).1
      have oke := ok' e (List.mem_of_getElem? he)
      have kle : ∀ x ∈ L'.take i, x.kn ≤ e.kn := fun x hx => by
        obtain ⟨j, hj⟩ := List.getElem?_of_mem hx
        rw [List.getElem?_take] at hj
        split at hj
        · have h1 := List.getElem?_eq_some_iff.mp hj
          have h2 := List.getElem?_eq_some_iff.mp he
          have := List.pairwise_iff_getElem.mp up j i h1.1 h2.1 (by omega)
          rw [h1.2, h2.2] at this
          exact this
        · cases hj
      have tl : (L'.take i).length < 60 := by
        rw [List.length_take]
        omega
      have after : ∀ (fp' : List Addr) (H' : Hp), Bk D.C_Book D.C_History H' b rk (L'.take i ++ [e]) fp' → (∀ c ∈ fp', c ∈ fp4 ∨ H4 c = none) → SameL fp4 H4 H' →
          Bk D.C_Book D.C_History H' b rk (L'.take (i + 1)) fp' ∧ (∀ c ∈ fp', NewN H c) ∧ l2 ∉ fp' ∧ H' l2 = some (.lst (ts'.map V.ref)) ∧ ExtN H H' ∧ Tabs (TLs D) H' := fun fp' H' W' fr s => by
        refine ⟨by rw [take_snoc he]; exact W', fun c hc => ?_, fun h => ?_, s _ _ nl4 el4, extN_L e4 n4 s, tabs_L T4 bk4.pl s⟩
        · rcases fr c hc with h | h
          · exact n4 c h
          · exact newN_of e4 h
        · rcases fr _ h with h | h
          · exact nl4 h
          · rw [el4] at h
            cases h
      obtain ⟨dxb, Rb, Mb, Lb, vb, ix⟩ := bk4.ix
      refine ⟨t, _, rfl, SqT.of ht4, rfl, _, _, rfl, _, _, rfl, _, _, rfl, _, _, rfl, _, _, rfl, rfl, ?_⟩
      refine ⟨_, rfl, rfl, _, rfl, ?_⟩
      rw [kind_land]
      obtain ⟨mv, kn, z, d, w⟩ := e
      cases mv with
      | true =>
        refine iteF ⟨_, rfl, b, dxb, _, rfl, ix, rfl, _, rfl, _, rfl, _, rfl, _, rfl, b, rk, _, fp4, kn, d, z, w, rfl, bk4, oke, kle, tl, fun fp' H' W' fr s => ?_⟩
        exact ⟨_, _, _, _, _, fp', rfl, after fp' H' W' fr s⟩
      | false =>
        refine iteT ⟨_, rfl, b, dxb, _, rfl, ix, rfl, _, rfl, _, rfl, _, rfl, _, rfl, b, rk, _, fp4, kn, d, z, w, rfl, bk4, oke, kle, tl, fun fp' H' W' fr s => ?_⟩
        exact ⟨_, _, _, _, _, fp', rfl, after fp' H' W' fr s⟩
    · rintro σ H4 ⟨x3, x4, x5, x6, x7, fp4, rfl, bk4, n4, nl4, el4, e4, T4⟩
      have tl : (ts'.map V.ref).length = L'.length := by rw [List.length_map]; exact Paired.length hts'
      rw [tl, List.take_length] at bk4
      exact ⟨_, rfl, q b fp4 H4 bk4 n4 e4 T4⟩
theorem sc_Book_twin : FnScope ["self"] ["self"] (defScope s_Book_twin) := ⟨rfl, rfl, rfl, by decide +kernel, rfl, by decide +kernel, by decide +kernel⟩
theorem ok_Book_twin (D : All K P mg) (TB : TBs D base) : FnOk P w K mg base CX0 10 D.f_Book_twin D.d_Book_twin ["self"] (spTwin D.C_Book D.C_History (TLs D)) := by
  refine D.h_Book_twin.fn.ok sc_Book_twin (fun vs H Q E h => ?_) (fun cdv A outer s H vs Q E hr h => ?_)
  · first | (obtain ⟨_, rfl, _⟩ := h; rfl) | (obtain ⟨_, _, rfl, _⟩ := h; rfl) | (obtain ⟨_, _, _, rfl, _⟩ := h; rfl) | (obtain ⟨_, _, _, _, rfl, _⟩ := h; rfl) | (obtain ⟨_, _, _, _, _, rfl, _⟩ := h; rfl) | (obtain ⟨_, _, _, _, _, _, rfl, _⟩ := h; rfl) | (obtain ⟨_, _, _, _, _, _, _, rfl, _⟩ := h; rfl) | (obtain ⟨_, _, _, _, _, _, _, _, rfl, _⟩ := h; rfl) | (obtain ⟨_, _, _, _, _, _, _, _, _, rfl, _⟩ := h; rfl) | (obtain ⟨_, _, _, _, _, _, _, _, _, _, rfl, _⟩ := h; rfl) | (obtain ⟨_, _, _, _, _, _, _, _, _, _, _, rfl, _⟩ := h; rfl) | (obtain ⟨_, _, _, _, _, _, _, _, _, _, _, _, rfl, _⟩ := h; rfl) | (obtain ⟨_, _, _, _, _, _, _, _, _, _, _, _, _, rfl, _⟩ := h; rfl) | (obtain ⟨_, _, _, _, _, _, _, _, _, _, _, _, _, _, rfl, _⟩ := h; rfl) | (obtain ⟨_, _, _, _, _, _, _, _, _, _, _, _, _, _, _, rfl, _⟩ := h; rfl)
  · have T := D.T
    have nd := sc_Book_twin.nd
    have hu := hr.units
    have hu1 := hu_of hr
    have hu0 := hr.units0
    obtain ⟨_, rk, es, fp, rfl, W, hl, hT, q⟩ := h
    refine ⟨_, pss_one (ps_ret (pe_call (ok_book_of D TB) (hr.mono (by decide)) (by rfl) D.gl_book_of D.L_book_of.kp D.lb_book_of .nil pass0 (pa_cons (pe_fld (pv 0) rfl) (pa_cons (pe_meth0 (pv 0) D.Z_Book.cl D.me_Book_entries (ok_Book_entries D TB) (hr.mono (by decide)) D.lb_Book_entries .nil pass0) pa_nil)))), ?_⟩
    have W0 := W
    obtain ⟨B, rfl, rfl, rfl, rfl, bh, bp, bl⟩ := W0
    refine ⟨_, rfl, B.b, _, B.dx, _, _, rfl, bh.ix, D.Z_Book.cl, D.n_Book_rank_of, rfl, ?_⟩
    refine ⟨_, rfl, B.b, B.dx, _, rfl, bh.ix, rfl, B.b, B.rk, B.es, B.fp, rfl, W, hl, hT, fun l ts L H1 nl e T1 el hts hL => ?_⟩
    refine ⟨B.R, l, B.rk, ts, L, rfl, e _ _ bh.rd nofun, bp.rk, el, hts, fun x hx => bp.ev x (hL.sub x hx), Nat.le_trans hL.len hl, T1, fun b2 fp2 H2 bk2 n2 e2 T2 => ?_⟩
    exact q L b2 fp2 H2 hL bk2 (fun c hc => (n2 c hc).back e) (e.trans e2) T2
end
end K91
set_option Elab.async false
set_option linter.all false
set_option maxRecDepth 100000
set_option maxHeartbeats 1600000
/-! Own layer: sorted of a list of tuples of whole numbers, texts, None. -/
namespace LT
open PySem PySem.Spec PyProof.Rows L2
/-! ### a walk over the items of a dict that has just been made -/
end LT
set_option Elab.async false
set_option linter.all false
set_option maxRecDepth 100000
set_option maxHeartbeats 1600000
/-! Own layer: sorted of a dict whose keys are tuples. -/
namespace LT
open PySem PySem.Spec PyProof.Rows L2
theorem flt_reads {h : Heap} {v : V} {u : Value} (f : Flt v) (r : RelV v u) : Reads h u (fltD v) [] := by
  cases v with
  | int i =>
    obtain ⟨t, rfl⟩ := r
    exact Reads.int i t
  | str z =>
    obtain ⟨t, rfl⟩ := r
    exact Reads.str z t
  | non =>
    cases r
    exact Reads.none
  | _ => exact f.elim
theorem flt_readsAll {h : Heap} {ys : List V} {us : List Value} (r : Vals ys us) : (∀ y ∈ ys, Flt y) → ReadsAll h us (ys.map fltD) [] := by
  induction r with
  | nil => exact fun _ => ReadsAll.nil
  | cons a _ ih => exact fun hf => ReadsAll.cons (as := []) (bs := []) (flt_reads (hf _ List.mem_cons_self) a) (ih fun y hy => hf y (List.mem_cons_of_mem _ hy))
theorem kV_flt (k : Key) : Flt (kV k) := by
  cases k <;> exact trivial
section
variable {X : Cx}
def rSortedTD : List V → Hp → VK → Prop := fun vs H Q => ∃ (d : Addr) (kvs : List (List Key × V)) (key : V → List V), vs = [V.ref d] ∧ Rd H d (.dT kvs) ∧ (∀ (b : Addr) (k : List Key), H b = some (.tup (k.map kV)) → (∃ p ∈ kvs, p.1 = k) → key (.ref b) = k.map kV) ∧
  PySem.W.AllAlike (kvs.map fun p => keyD (p.1.map kV)) ∧ PySem.W.Sortable (kvs.map fun p => keyD (p.1.map kV)) ∧
  ∀ p bs, H p = none → IsKeys H kvs bs → Q (.ref p) (upd H p (.lst ((bs.map V.ref).mergeSort (PySem.W.dataLe false fun v => keyD (key v)))))
theorem cr_sortedTD (hcalm : X.calm = true) (hu : X.A.units + 64 < cLine) : CallR X (.builtin "sorted") rSortedTD := by
  intro pins s σ H xs us Q I r h
  obtain ⟨d, kvs, key, rfl, hd, hkey, hal, hso, q⟩ := h
  obtain ⟨u, rfl, rx⟩ := vals1 r
  cases rx
  obtain ⟨z, hs, ks, pr, o, es, ep, ho, hx, hdt, he, hn⟩ := (show ObjOk X.prog X.w H s.heap d (.dT kvs) from hd.ok I.hok)
  have l1 : es.size = ks.length := size_of_entries he
  have l2 : kvs.length = ks.length := Paired.length pr
  refine Calls.call_function_entry PyProof.Rows.kind_sorted PyProof.Rows.plain_sorted PyProof.Rows.entry_sorted (PyProof.Rows.args_sorted1 _) ?_
  unfold Builtin.«sorted»
  refine wpAny_bind (m := checkCount "sorted" 1 1 _) (wpAny_pure ?_)
  refine wpAny_bind (PySem.W.kdu_collect (A := X.A.in1) (kdl_raw hs hx hdt) (I.ok.hd hcalm) ho (by omega) fun h' tk acc hk it => ?_)
  have ea : acc.toList = ks.map fun x => Value.ref x.2.1 := by
    have hl : acc.toList.length = ks.length := by rw [Array.length_toList, it.1]; exact l1
    apply List.ext_getElem?
    intro j
    rw [List.getElem?_map]
    cases hj : acc.toList[j]? with
    | none =>
      have h1 := List.getElem?_eq_none_iff.mp hj
      rw [List.getElem?_eq_none (by omega)]
      all_goals rfl
    | some v =>
      obtain ⟨en, hen, hv⟩ := it.2 j v (by rw [← Array.getElem?_toList]; exact hj)
      have qe := entry_at he j
      rw [hen] at qe
      cases hb : ks[j]? with
      | none =>
        rw [hb] at qe
        exact nomatch (show some en = none from qe)
      | some b =>
        rw [hb] at qe
        have e2 : en = entryOfKey (tupleKind (mixKind X.prog X.w)) b := Option.some.inj qe
        rw [hv, e2]
        all_goals rfl
  have hkeys := isKeys_of pr
  obtain ⟨bs, ebs⟩ : ∃ bs : List Addr, bs = ks.map fun x => x.2.1 := ⟨_, rfl⟩
  rw [← ebs] at hkeys
  have eb : acc.toList = bs.map Value.ref := by rw [ea, ebs, List.map_map]; all_goals rfl
  have bl : bs.length = kvs.length := by rw [ebs, List.length_map]; omega
  have I1 : Inv X pins σ H { s with heap := h', toks := tk } := I.kept hk
  have hR : PySem.W.EachIs (fun (u : Value) (v : V) => RelV v u) acc.toList (bs.map V.ref) := by
    rw [eb]
    clear eb ebs hkeys bl
    induction bs with
    | nil => exact .nil
    | cons b bs ih => exact .cons rfl ih
  have eK : (bs.map V.ref).map (fun v => keyD (key v)) = kvs.map fun p => keyD (p.1.map kV) := by
    have h2 : ∀ (ws : List (List Key × V)) (cs : List Addr), (∀ p ∈ ws, p ∈ kvs) → IsKeys H ws cs → (cs.map V.ref).map (fun v => keyD (key v)) = ws.map fun p => keyD (p.1.map kV) := by
      intro ws cs hm h
      unfold IsKeys at h
      induction h with
      | nil => rfl
      | @cons a b _ _ hab _ ih =>
        rw [List.map_cons, List.map_cons, List.map_cons, ih fun p hp => hm p (List.mem_cons_of_mem _ hp), hkey _ _ hab ⟨a, hm a List.mem_cons_self, rfl⟩]
    exact h2 kvs bs (fun p hp => hp) hkeys
  refine wpAny_bind (wpAny_newList ?_ (by rw [Array.length_toList, it.1, l1]; omega))
  have hoL : (h'.push (seqObj "list" acc.toList.toArray 0)).get? h'.objs.size = some (seqObj "list" acc.toList.toArray 0) := Heap.get?_push_size _ rfl
  have hE : PySem.W.EachIs (fun (u : Value) (v : V) => ∃ as, Reads (h'.push (seqObj "list" acc.toList.toArray 0)) u (keyD (key v)) as ∧ h'.objs.size ∉ as) acc.toList (bs.map V.ref) := by
    rw [eb]
    have h2 : ∀ (ws : List (List Key × V)) (cs : List Addr), (∀ p ∈ ws, p ∈ kvs) → IsKeys H ws cs → PySem.W.EachIs (fun (u : Value) (v : V) => ∃ as, Reads (h'.push (seqObj "list" (bs.map Value.ref).toArray 0)) u (keyD (key v)) as ∧ h'.objs.size ∉ as) (cs.map Value.ref) (cs.map V.ref) := by
      intro ws cs hm h
      unfold IsKeys at h
      induction h with
      | nil => exact .nil
      | @cons a b _ _ hab _ ih =>
        refine .cons ⟨[], ?_, nofun⟩ (ih fun p hp => hm p (List.mem_cons_of_mem _ hp))
        rw [hkey _ _ hab ⟨a, hm a List.mem_cons_self, rfl⟩]
        obtain ⟨z2, its, rv, o2, ho2, hcl, n2, hd2⟩ := (show ObjOk X.prog X.w H h' b (.tup (a.1.map kV)) from I1.hok b _ hab)
        refine Reads.tuple (Heap.get?_push_of_some _ ho2) hcl hd2 ?_
        exact flt_readsAll rv fun y hy => by
          obtain ⟨k, _, rfl⟩ := List.mem_map.mp hy
          exact kV_flt k
    exact h2 kvs bs (fun p hp => hp) hkeys
  show wpAny _ _ _ _ _ { s with heap := h'.push (seqObj "list" acc.toList.toArray 0), toks := tk }
  refine wpAny_bind (wpAny_holding (PySem.W.list_sort_data (s := { s with heap := h'.push (seqObj "list" acc.toList.toArray 0), toks := tk }) hoL hR hE (by rw [eK]; exact hal) (by rw [eK]; exact hso) (by rw [List.length_map]; omega) (fun b hb => ?_) fun out ho eo => ?_))
  · have := keyD_depth (key b)
    show X.A.units + 1 + 1 + _ < cLine
    omega
  · obtain ⟨e', he'⟩ := PyProof.Rows.sortedHeap_at (vs := acc.toList) (out := out.toArray) hoL
    have hV : Vals ((bs.map V.ref).mergeSort (PySem.W.dataLe false fun v => keyD (key v))) out := by
      have h2 : ∀ (us : List Value) (xs : List V), PySem.W.EachIs (fun (u : Value) (v : V) => RelV v u) us xs → Vals xs us := by
        intro us xs h
        induction h with
        | nil => exact .nil
        | cons a _ ih => exact .cons a ih
      exact h2 _ _ eo
    refine wpAny_pure ⟨_, rfl, .ref h'.objs.size, upd H h'.objs.size (.lst _), I1.laid (t' := tk) (fun b u e => ?_) (Nat.le_refl _)
      (show ObjOk X.prog X.w _ _ _ (.lst _) from ⟨by rw [List.length_mergeSort, List.length_map]; omega, out, e', hV, he'⟩), rfl, q _ bs (I1.hok.fresh (Nat.le_refl _)) hkeys⟩
    have hb : b < h'.objs.size := Heap.lt_size e
    rw [PyProof.Rows.sortedHeap_old (Nat.ne_of_lt hb) (by rw [size_push']; exact Nat.lt_succ_of_lt hb)]
    exact Heap.get?_push_of_some _ e
end
end LT
set_option Elab.async false
set_option linter.all false
set_option maxRecDepth 100000
set_option maxHeartbeats 1600000
/-! Own layer: entries as a law makes them: a dict by kind, known, name, day; sorted. -/
namespace LT
open PySem PySem.Spec PyProof.Rows L2 NdefX
abbrev EvK := Bool × Int × Str × Int
def evK (e : Evt) : EvK := (e.mv, e.kn, e.who, e.day)
def kT (k : EvK) : List Key := [Sum.inr (kindS k.1), Sum.inl k.2.1, Sum.inr k.2.2.1, Sum.inl k.2.2.2]
theorem kT_inj {a b : EvK} (h : kT a = kT b) : a = b := by
  obtain ⟨a1, a2, a3, a4⟩ := a
  obtain ⟨b1, b2, b3, b4⟩ := b
  unfold kT at h
  injection h with h1 h
  injection h with h2 h
  injection h with h3 h
  injection h with h4 h
  have h1 := kindS_inj (Sum.inr.inj h1)
  have h2 := Sum.inl.inj h2
  have h3 := Sum.inr.inj h3
  have h4 := Sum.inl.inj h4
  simp only at h1 h2 h3 h4
  rw [h1, h2, h3, h4]
def enT (t : List (EvK × V)) : List (List Key × V) := t.map fun p => (kT p.1, p.2)
theorem val_enT (k : EvK) : ∀ t : List (EvK × V), valV (enT t) (kT k) = getA t k
  | [] => rfl
  | p :: r => by
    show valV ((kT p.1, p.2) :: enT r) (kT k) = _
    by_cases e : p.1 = k
    · rw [valV_pos (by rw [e]), getA_pos e]
    · rw [valV_neg (fun z => e (kT_inj z)), getA_neg e, val_enT k r]
theorem put_enT (t : List (EvK × V)) (k : EvK) (v : V) : putK (enT t) (kT k) v = enT (putA t k v) := by
  have e : ((enT t).any fun kv => decide (kv.1 = kT k)) = (t.any fun p => decide (p.1 = k)) := by
    rw [valV_any, val_enT, getA_any]
  unfold putK putA
  rw [e]
  split
  · unfold enT
    rw [List.map_map, List.map_map]
    refine List.map_congr_left fun p _ => ?_
    show (if kT p.1 = kT k then (kT p.1, v) else (kT p.1, p.2)) = (kT (if p.1 = k then (p.1, v) else p).1, (if p.1 = k then (p.1, v) else p).2)
    by_cases h : p.1 = k
    · rw [if_pos (by rw [h]), if_pos h]
    · rw [if_neg (fun z => h (kT_inj z)), if_neg h]
  · unfold enT
    rw [List.map_append]
    rfl
def tellD (es : List Evt) : List (EvK × V) := es.foldl (fun t e => putA t (evK e) e.w) []
theorem tellD_snoc (es : List Evt) (e : Evt) : tellD (es ++ [e]) = putA (tellD es) (evK e) e.w := by
  unfold tellD
  rw [List.foldl_append]
  rfl
theorem tellD_nd : ∀ es : List Evt, ((tellD es).map (·.1)).Nodup ∧ (tellD es).length ≤ es.length := by
  refine snoc_ind ⟨List.nodup_nil, Nat.le_refl _⟩ fun es e ih => ?_
  rw [tellD_snoc]
  refine ⟨nodup_put ih.1, ?_⟩
  have h2 : (putA (tellD es) (evK e) e.w).length ≤ (tellD es).length + 1 := by
    unfold putA
    split
    · rw [List.length_map]
      omega
    · rw [List.length_append]
      exact Nat.le_refl _
  have := ih.2
  rw [List.length_append]
  show _ ≤ es.length + 1
  omega
theorem entA_snoc (es : List Evt) (e : Evt) (mv : Bool) (who : Str) (d kn : Int) : entA (es ++ [e]) mv who d kn = if (mv, kn, who, d) = evK e then some e.w else entA es mv who d kn := by
  unfold entA
  rw [histE_snoc]
  unfold stepH
  by_cases ho : ofE mv who e = true
  · obtain ⟨h1, h2⟩ := ofE_iff.mp ho
    rw [if_pos ho, getA_note]
    by_cases hd : d = e.day
    · rw [if_pos hd]
      show getA (putA ((getA (histE es mv who) e.day).getD []) e.kn e.w) kn = _
      rw [getA_put]
      by_cases hk : kn = e.kn
      · rw [if_pos hk, if_pos (by unfold evK; rw [h1, h2, hd, hk])]
      · rw [if_neg hk, if_neg (fun z => hk (congrArg (fun p : EvK => p.2.1) z)), hd]
    · rw [if_neg hd, if_neg (fun z => hd (congrArg (fun p : EvK => p.2.2.2) z))]
  · rw [if_neg ho, if_neg (fun z => ho (ofE_iff.mpr ⟨(congrArg (fun p : EvK => p.1) z).symm, (congrArg (fun p : EvK => p.2.2.1) z).symm⟩))]
theorem tellD_val : ∀ es : List Evt, ∀ (mv : Bool) (kn : Int) (who : Str) (d : Int), getA (tellD es) (mv, kn, who, d) = entA es mv who d kn := by
  refine snoc_ind (fun _ _ _ _ => rfl) fun es e ih mv kn who d => ?_
  rw [tellD_snoc, getA_put, entA_snoc, ih]
def evOfK (p : EvK × V) : Evt := ⟨p.1.1, p.1.2.1, p.1.2.2.1, p.1.2.2.2, p.2⟩
def entW (es : List Evt) : List Evt := ((tellD es).map evOfK).mergeSort evLe
theorem entW_is (es : List Evt) : IsEnts es (entW es) := by
  have nd := (tellD_nd es).1
  refine ents_of ?_ fun e => ?_
  · rw [List.pairwise_map]
    have : (tellD es).Pairwise fun a b => a.1 ≠ b.1 := List.pairwise_map.mp nd
    refine this.imp fun {a b} h s => h ?_
    obtain ⟨h1, h2, h3, h4⟩ := s
    obtain ⟨⟨a1, a2, a3, a4⟩, a5⟩ := a
    obtain ⟨⟨b1, b2, b3, b4⟩, b5⟩ := b
    simp only [evOfK] at h1 h2 h3 h4
    simp only [h1, h2, h3, h4]
  · rw [← tellD_val]
    constructor
    · intro h
      obtain ⟨p, hp, rfl⟩ := List.mem_map.mp h
      exact getA_of_mem nd hp
    · intro h
      exact List.mem_map.mpr ⟨_, getA_mem h, rfl⟩
theorem entW_len (es : List Evt) : (entW es).length ≤ es.length := by
  unfold entW
  rw [List.length_mergeSort, List.length_map]
  exact (tellD_nd es).2
/-! ### the keys in the heap -/
def fKO (es : List Evt) : Option HO → Evt
  | some (.tup [.str k, .int kn, .str who, .int d]) => ⟨decide (k = kindS true), kn, who, d, (entA es (decide (k = kindS true)) who d kn).getD .non⟩
  | _ => ⟨true, 0, Str.empty, 0, .non⟩
def fK (es : List Evt) (H : Hp) : V → Evt
  | .ref b => fKO es (H b)
  | _ => fKO es none
def KyT (H : Hp) (b : Addr) (e : Evt) : Prop := H b = some (.tup (evKey e))
theorem fK_is {es : List Evt} {H : Hp} {b : Addr} {k : EvK} (h : H b = some (.tup ((kT k).map kV))) : fK es H (.ref b) = evOfK (k, (entA es k.1 k.2.2.1 k.2.2.2 k.2.1).getD .non) := by
  obtain ⟨mv, kn, who, d⟩ := k
  have h : H b = some (.tup [.str (kindS mv), .int kn, .str who, .int d]) := h
  show fKO es (H b) = _
  rw [h]
  have : decide (kindS mv = kindS true) = mv := by cases mv <;> decide +kernel
  show (⟨decide (kindS mv = kindS true), kn, who, d, (entA es (decide (kindS mv = kindS true)) who d kn).getD .non⟩ : Evt) = _
  rw [this]
  rfl
theorem keys_sorted {es : List Evt} {H : Hp} {bs : List Addr} (h : IsKeys H (enT (tellD es)) bs) : ∃ bs' : List Addr, (bs.map V.ref).mergeSort (PySem.W.dataLe false fun v => keyD (evKey (fK es H v))) = bs'.map V.ref ∧ Paired (KyT H) bs' (entW es) := by
  have nd := (tellD_nd es).1
  have eL : (bs.map V.ref).map (fK es H) = (tellD es).map evOfK := by
    have h2 : ∀ (t : List (EvK × V)) (cs : List Addr), (∀ p ∈ t, p ∈ tellD es) → IsKeys H (enT t) cs → (cs.map V.ref).map (fK es H) = t.map evOfK := by
      intro t
      induction t with
      | nil =>
        intro cs _ h
        unfold IsKeys enT at h
        cases h
        rfl
      | cons p t ih =>
        intro cs hm h
        unfold IsKeys enT at h
        rw [List.map_cons] at h
        cases h with
        | cons a r =>
          rw [List.map_cons, List.map_cons, List.map_cons, ih _ (fun q hq => hm q (List.mem_cons_of_mem _ hq)) r, fK_is a]
          have := getA_of_mem nd (show (p.1, p.2) ∈ tellD es from hm p List.mem_cons_self)
          rw [← tellD_val]
          show evOfK (p.1, (getA (tellD es) p.1).getD .non) :: _ = _
          rw [this]
          rfl
    exact h2 _ bs (fun p hp => hp) h
  have all : ∀ v ∈ bs.map V.ref, ∃ t, v = V.ref t ∧ KyT H t (fK es H v) := fun v hv => by
    obtain ⟨b, hb, rfl⟩ := List.mem_map.mp hv
    obtain ⟨i, hi⟩ := List.getElem?_of_mem hb
    have hl := Paired.length h
    have il := (List.getElem?_eq_some_iff.mp hi).1
    obtain ⟨p, hp⟩ : ∃ p, (tellD es)[i]? = some p := ⟨_, List.getElem?_eq_getElem (by unfold enT at hl; rw [List.length_map] at hl; omega)⟩
    have h1 : (enT (tellD es))[i]? = some (kT p.1, p.2) := by
      unfold enT
      rw [List.getElem?_map, hp]
      rfl
    obtain ⟨b', hb', r⟩ := L2.paired_get h h1
    rw [hi] at hb'
    cases hb'
    refine ⟨b, rfl, ?_⟩
    rw [fK_is r]
    exact r
  have em := List.map_mergeSort (r := PySem.W.dataLe false fun v => keyD (evKey (fK es H v))) (s := evLe) (f := fK es H) (l := bs.map V.ref) fun a _ b _ => rfl
  rw [eL] at em
  have p := List.mergeSort_perm (bs.map V.ref) (PySem.W.dataLe false fun v => keyD (evKey (fK es H v)))
  unfold entW
  rw [← em]
  generalize (bs.map V.ref).mergeSort (PySem.W.dataLe false fun v => keyD (evKey (fK es H v))) = M at *
  have all2 : ∀ v ∈ M, ∃ t, v = V.ref t ∧ KyT H t (fK es H v) := fun v hv => all v (p.mem_iff.mp hv)
  clear em p
  induction M with
  | nil => exact ⟨[], rfl, .nil⟩
  | cons v M ih =>
    obtain ⟨t, rfl, r⟩ := all2 v List.mem_cons_self
    obtain ⟨ts', e1, e2⟩ := ih fun w hw => all2 w (List.mem_cons_of_mem _ hw)
    exact ⟨t :: ts', by rw [e1]; rfl, .cons r e2⟩
theorem keys_alike (es : List Evt) : PySem.W.AllAlike ((enT (tellD es)).map fun p => keyD (p.1.map kV)) ∧ PySem.W.Sortable ((enT (tellD es)).map fun p => keyD (p.1.map kV)) := by
  have e : ((enT (tellD es)).map fun p => keyD (p.1.map kV)) = (tellD es).map fun p => keyD (evKey (evOfK p)) := by
    unfold enT
    rw [List.map_map]
    rfl
  rw [e]
  exact ⟨PySem.W.AllAlike.of fun _ _ => alike_ev _ _, PySem.W.Sortable.tuples fun _ => ⟨_, _, rfl⟩⟩
end LT
set_option Elab.async false
set_option linter.all false
set_option maxRecDepth 100000
set_option maxHeartbeats 1600000
/-! Own layer: == of two dicts, alike or not; == of entries, alike or not. -/
namespace LT
open PySem PySem.Spec PyProof.Rows L2 NdefX
noncomputable instance evDec : DecidableEq Evt := fun _ _ => Classical.propDecidable _
theorem valV_mem2 {k : Key} {v : V} : ∀ {ls : List (Key × V)}, valV ls k = some v → ∃ p ∈ ls, p.2 = v
  | [], h => by cases h
  | p :: r, h => by
    by_cases e : p.1 = k
    · rw [valV_pos e] at h
      exact ⟨p, List.mem_cons_self, Option.some.inj h⟩
    · rw [valV_neg e] at h
      obtain ⟨q, hq, e2⟩ := valV_mem2 h
      exact ⟨q, List.mem_cons_of_mem _ hq, e2⟩
def hitB (ls : List (Key × V)) (p : Key × V) : Bool := match valV ls p.1 with
  | none => false
  | some w => eqV p.2 w
def dkEq (ks ls : List (Key × V)) : Bool := ks.length == ls.length && ks.all (hitB ls)
theorem hits_gen {A : Around} {s : Shared} {ls : List (Key × V)} {vb : List (Key × Value)} (rb : KV ls vb) {ks : List (Key × V)} {va : List (Key × Value)} (ra : KV ks va) :
    (∀ p ∈ ks, flatV p.2 = true) → (∀ p ∈ ls, flatV p.2 = true) → PySem.W.KeqHits A s vb va (ks.all (hitB ls)) := by
  unfold KV at ra
  induction ra with
  | nil => intro _ _; exact .nil
  | @cons p q ps qs h t ih =>
    intro hp hl
    obtain ⟨h1, h2⟩ := h
    obtain ⟨k, v⟩ := q
    have h1' : p.1 = k := h1
    have rr : RelO (valV ls p.1) (valueAt vb p.1) := rb.val p.1
    rw [List.all_cons]
    unfold hitB
    cases e : valV ls p.1 with
    | none =>
      rw [e] at rr
      have hn : valueAt vb k = none := by
        rw [← h1']
        cases e2 : valueAt vb p.1 with
        | none => rfl
        | some y =>
          rw [e2] at rr
          cases rr
      show PySem.W.KeqHits A s vb ((k, v) :: qs) false
      exact .miss hn
    | some w =>
      rw [e] at rr
      obtain ⟨y, hy, ry⟩ := rr.some_of
      rw [h1'] at hy
      have fw : flatV w = true := by
        obtain ⟨p', hp', e2⟩ := valV_mem2 e
        rw [← e2]
        exact hl _ hp'
      exact .hit hy (eqAt_V h2 ry (hp p List.mem_cons_self) fw) (ih (fun p' hm => hp p' (List.mem_cons_of_mem _ hm)) hl)
/-! ### ranks -/
theorem sd_flat (rk : List (Str × Int)) : ∀ p ∈ sd rk, flatV p.2 = true := fun p hp => by
  obtain ⟨x, _, rfl⟩ := List.mem_map.mp hp
  rfl
def rkEq (rk rk' : List (Str × Int)) : Bool := dkEq (sd rk) (sd rk')
theorem sd_val (rk : List (Str × Int)) (nd : (rk.map (·.1)).Nodup) {p : Str × Int} (hp : p ∈ rk) : valV (sd rk) (.inr p.1) = some (.int p.2) := by
  induction rk with
  | nil => cases hp
  | cons a r ih =>
    have nd' := List.nodup_cons.mp (show (a.1 :: r.map (·.1)).Nodup from nd)
    rcases List.mem_cons.mp hp with rfl | hp
    · exact valV_pos rfl
    · have h : ¬ (Sum.inr a.1 : Key) = Sum.inr p.1 := fun e => nd'.1 (by rw [Sum.inr.inj e]; exact List.mem_map.mpr ⟨p, hp, rfl⟩)
      show valV ((Sum.inr a.1, V.int a.2) :: sd r) _ = _
      rw [valV_neg h]
      exact ih nd'.2 hp
theorem rkEq_perm {rk rk' : List (Str × Int)} (nd : (rk.map (·.1)).Nodup) (p : rk.Perm rk') : rkEq rk rk' = true := by
  have nd' : (rk'.map (·.1)).Nodup := (p.map (·.1)).nodup nd
  unfold rkEq dkEq
  rw [Bool.and_eq_true]
  refine ⟨by simp [sd_len, p.length_eq], List.all_eq_true.mpr fun q hq => ?_⟩
  obtain ⟨x, hx, rfl⟩ := List.mem_map.mp hq
  unfold hitB
  show (match valV (sd rk') (Sum.inr x.1) with | none => false | some w => eqV (V.int x.2) w) = true
  rw [sd_val rk' nd' (p.mem_iff.mp hx)]
  show (x.2 == x.2) = true
  simp
/-! ### entries -/
end LT
set_option Elab.async false
set_option linter.all false
set_option maxRecDepth 100000
set_option maxHeartbeats 1600000
/-! Own layer: books held against one another, where that makes things; what a book stands for. -/
namespace LT
open PySem PySem.Spec PyProof.Rows L2 NdefX LamX
/-! ### how entries show -/
theorem evD_show {rk : List (Str × Int)} {e : Evt} (h : EvOK rk e) (hk : e.kn < 10 ^ 55) (hn : ∀ z ∈ rk.map (·.1), Nm z) : (evD e).showable = true ∧ (evD e).hasDict = false ∧ (evD e).shown.length ≤ 1000 := by
  have k0 := h.k0
  have d0 := h.d0
  have d1 := h.d1
  have nw : Nm e.who := by
    cases hm : e.mv with
    | true => exact hn _ (h.mw hm).1
    | false => exact (h.lw hm).1
  have hw : (wD e.w).showable = true ∧ (wD e.w).hasDict = false ∧ (wD e.w).shown.length ≤ 210 := by
    cases hm : e.mv with
    | true =>
      rcases (h.mw hm).2 with h2 | ⟨z, h2, hz⟩
      · rw [h2]
        exact ⟨by simp [wD, PyData.showable], by simp [wD, PyData.hasDict], by simp only [wD, PyData.shown]; decide +kernel⟩
      · rw [h2]
        have := pl_repr hz
        exact ⟨by simp [wD, PyData.showable], by simp [wD, PyData.hasDict], by simp only [wD, PyData.shown]; omega⟩
    | false =>
      obtain ⟨_, n, h2, n0, n1⟩ := h.lw hm
      rw [h2]
      have hb : n.natAbs ≤ 10 ^ 61 := by omega
      have := tlen61 hb
      exact ⟨by simp only [wD, PyData.showable]; exact decide_eq_true (lg61 hb), by simp [wD, PyData.hasDict], by simp only [wD, PyData.shown]; omega⟩
  have bk : e.kn.natAbs ≤ 10 ^ 61 := by omega
  have bd : e.day.natAbs ≤ 10 ^ 61 := by omega
  have t1 := tlen61 bk
  have t2 := tlen61 bd
  have t3 := nm_repr nw
  have t4 : (reprText (kindS e.mv)).length ≤ 10 := by cases e.mv <;> decide +kernel
  refine ⟨?_, ?_, ?_⟩
  · simp only [evD, PyData.showable, PyData.showableAll, hw.1, decide_eq_true (lg61 bk), decide_eq_true (lg61 bd), Bool.and_self]
  · simp only [evD, PyData.hasDict, PyData.hasDictAll, hw.2.1, Bool.or_self]
  · have e1 := tupleText_len_le [reprText (kindS e.mv), Str.ofString (toString e.kn), reprText e.who, Str.ofString (toString e.day), (wD e.w).shown]
    have e2 : (evD e).shown = tupleText [reprText (kindS e.mv), Str.ofString (toString e.kn), reprText e.who, Str.ofString (toString e.day), (wD e.w).shown] := by simp only [evD, PyData.shown, PyData.shownAll]
    rw [e2]
    simp only [List.map_cons, List.map_nil, List.sum_cons, List.sum_nil, List.length_cons, List.length_nil] at e1
    omega
/-- a list of entries, and maybe a word behind them, shows -/
theorem ents_show {rk : List (Str × Int)} (hn : ∀ z ∈ rk.map (·.1), Nm z) : ∀ {L : List Evt}, (∀ e ∈ L, EvOK rk e ∧ e.kn < 10 ^ 55) → PyData.showableAll (L.map evD) = true ∧ (∀ d ∈ L.map evD, d.hasDict = false) ∧ (∀ t ∈ PyData.shownAll (L.map evD), t.length ≤ 1000) ∧ (PyData.shownAll (L.map evD)).length = L.length
  | [], _ => ⟨by simp [PyData.showableAll], nofun, by simp [PyData.shownAll], by simp [PyData.shownAll]⟩
  | e :: L, h => by
    obtain ⟨a1, a2, a3, a4⟩ := ents_show hn (L := L) fun x hx => h x (List.mem_cons_of_mem _ hx)
    obtain ⟨b1, b2, b3⟩ := evD_show (h e List.mem_cons_self).1 (h e List.mem_cons_self).2 hn
    refine ⟨by simp only [List.map_cons, PyData.showableAll, a1, b1, Bool.and_self], fun d hd => ?_, fun t ht => ?_, by simp only [List.map_cons, PyData.shownAll, List.length_cons, a4]⟩
    · rcases List.mem_cons.mp hd with rfl | hd
      · exact b2
      · exact a2 d hd
    · simp only [List.map_cons, PyData.shownAll] at ht
      rcases List.mem_cons.mp ht with rfl | ht
      · exact b3
      · exact a3 t ht
end LT
set_option Elab.async false
set_option linter.all false
set_option maxRecDepth 100000
set_option maxHeartbeats 1600000
/-! Own layer: != of two dicts; a strange key put into ranks and taken out again; lists of entries that show. -/
namespace LT
open PySem PySem.Spec PyProof.Rows L2 NdefX LamX
def rNeDG : R2 := fun x y H Q => ∃ a b ks ls, x = .ref a ∧ y = .ref b ∧ H a = some (.dK ks) ∧ H b = some (.dK ls) ∧ (∀ p ∈ ks, flatV p.2 = true) ∧ (∀ p ∈ ls, flatV p.2 = true) ∧ Q (.bl (!dkEq ks ls)) H
section
variable {X : Cx}
theorem op_neDG (hu : X.A.units < cLine) : OpR X (compareOp .NotEq) rNeDG := by
  intro pins s σ H x y v u Q I rx ry h
  obtain ⟨a, b, ks, ls, rfl, rfl, ea, eb, h1, h2, q⟩ := h
  obtain rfl : v = Value.ref a := rx
  obtain rfl : u = Value.ref b := ry
  obtain ⟨_, ya, va, ra, da⟩ := (show ObjOk X.prog X.w H s.heap a (.dK ks) from I.hok a _ ea)
  obtain ⟨_, yb, vb, rb, db⟩ := (show ObjOk X.prog X.w H s.heap b (.dK ls) from I.hok b _ eb)
  exact PySem.W.keq_ne (knd := mixKind X.prog X.w) (r := ks.all (hitB ls)) ya yb da db hu (fun _ => hits_gen rb ra h1 h2) (fin_bl I q (by unfold dkEq; rw [ra.length, rb.length]))
end
theorem rkEq_refl {rk : List (Str × Int)} (k : Rk rk) : rkEq rk rk = true := rkEq_perm k.nd (List.Perm.refl _)
theorem sd_no {rk : List (Str × Int)} {z : Str} (h : z ∉ rk.map (·.1)) : valV (sd rk) (.inr z) = none := by
  cases e : valV (sd rk) (.inr z) with
  | none => rfl
  | some v =>
    exfalso
    induction rk with
    | nil => cases e
    | cons a r ih =>
      have h' : z ≠ a.1 ∧ z ∉ r.map (·.1) := by simpa using h
      have e : valV ((Sum.inr a.1, V.int a.2) :: sd r) (.inr z) = some v := e
      rw [valV_neg (by intro c; exact h'.1 (Sum.inr.inj c).symm)] at e
      exact ih h'.2 e
end LT
namespace LT
open PySem PySem.Spec PyProof.Rows L2 NdefX LamX
theorem sd_all {K : PySem.W.Frag} {H : Hp} {vs : List V} {ds : List PyData} (h : DpAll K H vs ds) : (∀ d ∈ ds, d.hasDict = false) → Paired (Sd K H) vs ds := by
  induction ds generalizing vs with
  | nil =>
    cases h
    exact fun _ => .nil
  | cons d r ih =>
    cases h with
    | cons a b => exact fun k => .cons (.dp a (k d List.mem_cons_self)) (ih b fun d hd => k d (List.mem_cons_of_mem _ hd))
theorem sum_lenK (n : Nat) : ∀ ts : List Str, (∀ t ∈ ts, t.length ≤ n) → (ts.map (·.length)).sum ≤ n * ts.length
  | [], _ => Nat.zero_le _
  | t :: r, h => by
    have h1 := sum_lenK n r fun x hx => h x (List.mem_cons_of_mem _ hx)
    have h2 := h t List.mem_cons_self
    rw [List.map_cons, List.sum_cons, List.length_cons, Nat.mul_add, Nat.mul_one]
    omega
theorem list_shows {ds : List PyData} (h1 : PyData.showableAll ds = true) (h2 : PyData.depthAll ds ≤ 50) (h3 : ∀ t ∈ PyData.shownAll ds, t.length ≤ 1000) (h4 : (PyData.shownAll ds).length ≤ 100) :
    (PyData.list ds).showable = true ∧ (PyData.list ds).depth ≤ 60 ∧ (PyData.list ds).shown.length ≤ sizeLine := by
  refine ⟨by simpa only [PyData.showable] using h1, by simp only [PyData.depth]; omega, ?_⟩
  have a := listText_len_le (PyData.shownAll ds)
  have b := sum_lenK 1000 _ h3
  have e : (PyData.list ds).shown = listText (PyData.shownAll ds) := by simp only [PyData.shown]
  rw [e, sizeLine_eq]
  omega
theorem shAll_app : ∀ (ds es : List PyData), PyData.showableAll (ds ++ es) = (PyData.showableAll ds && PyData.showableAll es)
  | [], es => by simp [PyData.showableAll]
  | d :: r, es => by rw [List.cons_append]; simp only [PyData.showableAll, shAll_app r es, Bool.and_assoc]
theorem shown_app : ∀ (ds es : List PyData), PyData.shownAll (ds ++ es) = PyData.shownAll ds ++ PyData.shownAll es
  | [], es => by simp [PyData.shownAll]
  | d :: r, es => by rw [List.cons_append]; simp only [PyData.shownAll, shown_app r es, List.cons_append]
theorem depth_app : ∀ (ds es : List PyData) (n : Nat), PyData.depthAll ds ≤ n → PyData.depthAll es ≤ n → PyData.depthAll (ds ++ es) ≤ n
  | [], es, n, _, h => h
  | d :: r, es, n, h, k => by
    simp only [List.cons_append, PyData.depthAll] at h ⊢
    have := depth_app r es n (by omega) k
    omega
/-- entries: what repr wants, alone and with a word behind them -/
theorem ents63 {K : PySem.W.Frag} {H : Hp} {rk : List (Str × Int)} {us : List Addr} {L : List Evt} (k : Rk rk) (h : ∀ e ∈ L, EvOK rk e ∧ e.kn < 10 ^ 55) (hl : L.length ≤ 60) (p : Paired (EvT H) us L) :
    (Paired (Sd K H) (us.map V.ref) (L.map evD) ∧ (PyData.list (L.map evD)).showable = true ∧ (PyData.list (L.map evD)).depth ≤ 60 ∧ (PyData.list (L.map evD)).shown.length ≤ sizeLine) ∧
    (Paired (Sd K H) (us.map V.ref ++ [.str (Str.ofString "more")]) (L.map evD ++ [.str (Str.ofString "more")]) ∧ (PyData.list (L.map evD ++ [.str (Str.ofString "more")])).showable = true ∧ (PyData.list (L.map evD ++ [.str (Str.ofString "more")])).depth ≤ 60 ∧ (PyData.list (L.map evD ++ [.str (Str.ofString "more")])).shown.length ≤ sizeLine) := by
  have hn : ∀ z ∈ rk.map (·.1), Nm z := fun z hz => by
    obtain ⟨p, hp, rfl⟩ := List.mem_map.mp hz
    exact k.nm p hp
  obtain ⟨a1, a2, a3, a4⟩ := ents_show hn h
  have st : ∀ e ∈ L, EvSt e := fun e he => evSt_of hn (h e he).1
  have ps := sd_all (ev_dp (K := K) p st) a2
  obtain ⟨_, dl⟩ := evD_lay st
  refine ⟨⟨ps, list_shows a1 (by omega) a3 (by omega)⟩, paired_snoc' ps (.dp (.str _) (by simp [PyData.hasDict])), list_shows ?_ ?_ ?_ ?_⟩
  · rw [shAll_app, a1]
    simp only [PyData.showableAll, PyData.showable]
    decide +kernel
  · refine depth_app _ _ _ (by omega) ?_
    simp only [PyData.depthAll, PyData.depth]
    omega
  · intro t ht
    rw [shown_app] at ht
    rcases List.mem_append.mp ht with ht | ht
    · exact a3 t ht
    · simp only [PyData.shownAll, PyData.shown, List.mem_singleton] at ht
      rw [ht]
      decide +kernel
  · rw [shown_app, List.length_append, a4]
    simp only [PyData.shownAll, List.length_cons, List.length_nil]
    omega
end LT
namespace LT
open PySem PySem.Spec PyProof.Rows L2 NdefX LamX
/-- what stands while a book is held against its law -/
structure St63 (CB CH : Addr) (T : List (Addr × Str)) (b r E dl tl : Addr) (us ts ts0 : List Addr) (rk : List (Str × Int)) (ev es : List Evt) (fp : List Addr) (m : List V) (H : Hp) : Prop where
  W : Bk CB CH H b rk es fp
  er : H r = some (.dK (sd rk))
  el : H tl = some (.lst (ts.map V.ref ++ m))
  hts : Paired (EvT H) ts (entW ev)
  ed : H dl = some (.lst (us.map V.ref))
  hus : Paired (EvT H) us (entW ev)
  eE : H E = some (.lst (ts0.map V.ref))
  h0 : Paired (EvT H) ts0 ev
  TT : Tabs T H
section
variable {CB CH : Addr} {T : List (Addr × Str)} {b r E dl tl : Addr} {us ts ts0 : List Addr} {rk : List (Str × Int)} {ev es : List Evt} {fp : List Addr} {m : List V} {H H' : Hp}
theorem St63.ext (k : St63 CB CH T b r E dl tl us ts ts0 rk ev es fp m H) (e : ExtN H H') (t : Tabs T H') : St63 CB CH T b r E dl tl us ts ts0 rk ev es fp m H' :=
  ⟨k.W.extN e, e _ _ k.er nofun, e _ _ k.el nofun, paired_imp (fun _ _ h => evT_extN e h) k.hts, e _ _ k.ed nofun, paired_imp (fun _ _ h => evT_extN e h) k.hus, e _ _ k.eE nofun, paired_imp (fun _ _ h => evT_extN e h) k.h0, t⟩
theorem St63.own {o : Addr} {ks : List (Key × V)} (k : St63 CB CH T b r E dl tl us ts ts0 rk ev es fp m H) (ho : H o = some (.dK ks)) (nf : o ∉ fp) (nr : o ≠ r) (s : SameL [o] H H') : St63 CB CH T b r E dl tl us ts ts0 rk ev es fp m H' := by
  have n1 : ∀ {a : Addr} {x : HO}, H a = some x → x ≠ .dK ks → a ∉ [o] := fun {a x} e h m => by
    rw [List.mem_singleton.mp m, ho] at e
    exact h (Option.some.inj e).symm
  have tp : ∀ (a : Addr) (x : Evt), EvT H a x → EvT H' a x := fun a x e => s a (.tup [.str (kindS x.mv), .int x.kn, .str x.who, .int x.day, x.w]) (n1 e nofun) e
  exact ⟨k.W.monoL s fun c hc m => nf (by rw [← List.mem_singleton.mp m]; exact hc), s _ _ (fun m => nr (List.mem_singleton.mp m).symm) k.er, s _ _ (n1 k.el nofun) k.el, paired_imp tp k.hts, s _ _ (n1 k.ed nofun) k.ed, paired_imp tp k.hus, s _ _ (n1 k.eE nofun) k.eE, paired_imp tp k.h0,
    tabs_L k.TT (fun c hc x e => by
      rw [List.mem_singleton.mp hc, ho] at e
      cases e
      exact ⟨nofun, nofun⟩) s⟩
theorem St63.more (k : St63 CB CH T b r E dl tl us ts ts0 rk ev es fp [] H) (x : V) (n1 : tl ≠ dl) (n2 : tl ≠ E) : St63 CB CH T b r E dl tl us ts ts0 rk ev es fp [x] (upd H tl (.lst (ts.map V.ref ++ [x]))) := by
  have el := k.el
  have s : SameL [tl] H (upd H tl (.lst (ts.map V.ref ++ [x]))) := SameL.upd List.mem_cons_self (SameL.of (Same.refl _))
  have ne : ∀ {a : Addr} {y : HO}, H a = some y → (∀ zs, y ≠ .lst zs) → a ∉ [tl] := fun {a y} e h m => by
    rw [List.mem_singleton.mp m, el] at e
    exact h _ (Option.some.inj e).symm
  have tp : ∀ (a : Addr) (z : Evt), EvT H a z → EvT (upd H tl (.lst (ts.map V.ref ++ [x]))) a z := fun a z e => s a (.tup [.str (kindS z.mv), .int z.kn, .str z.who, .int z.day, z.w]) (ne e nofun) e
  exact ⟨k.W.monoL s fun c hc m => k.W.nl el (by rw [← List.mem_singleton.mp m]; exact hc), s _ _ (ne k.er nofun) k.er, upd_same, paired_imp tp k.hts, s _ _ (fun m => n1 (List.mem_singleton.mp m).symm) k.ed, paired_imp tp k.hus, s _ _ (fun m => n2 (List.mem_singleton.mp m).symm) k.eE, paired_imp tp k.h0,
    tabs_updG k.TT el⟩
theorem ExtN.over {H H1 : Hp} {a : Addr} {o : HO} (e : ExtN H H1) (n : NewN H a) : ExtN H (upd H1 a o) := extN_L (fp := [a]) e (fun c hc => by rw [List.mem_singleton.mp hc]; exact n) (SameL.upd List.mem_cons_self (SameL.of (Same.refl _)))
end
end LT
namespace LT
open PySem PySem.Spec PyProof.Rows L2 NdefX LamX
theorem atI_end63 {xs : List V} {v : V} (h : xs[xs.length - 1]? = some v) : atI xs (-1) = some v := by
  have hl := (List.getElem?_eq_some_iff.mp h).1
  unfold atI ixN
  rw [if_neg (by decide), if_pos (by omega)]
  show xs[((xs.length : Int) + -1).toNat]? = _
  rw [show ((xs.length : Int) + -1).toNat = xs.length - 1 by omega]
  exact h
end LT
namespace LT
open PySem PySem.Spec PyProof.Rows L2 NdefX LamX
end LT
namespace LT
open PySem PySem.Spec PyProof.Rows L2 NdefX LamX
theorem entW_again (es : List Evt) : entW ((entW es).mergeSort knLe) = entW es := (entW_is _).uniq (entW_is es).again
theorem NewN.ne {H : Hp} {a b : Addr} {C dx : Addr} {fs : List (Str × V)} (n : NewN H a) (h : H b = some (.ins C dx fs)) : b ≠ a := fun e => by
  obtain ⟨ps, z⟩ := n _ (by rw [← e]; exact h)
  cases z
end LT
set_option Elab.async false
set_option linter.all false
set_option maxRecDepth 100000
set_option maxHeartbeats 1600000
/-! Own layer: what two books were told otherwise. -/
namespace LT
open PySem PySem.Spec PyProof.Rows L2 NdefX LamX
/-- a tuple of plain things -/
def TupIs (H : Hp) (t : Addr) (xs : List V) : Prop := H t = some (.tup xs)
def keyE4 (e : Evt) : List V := [.str (kindS e.mv), .int e.kn, .str e.who, .int e.day]
def unlikeK (rk rk' : List (Str × Int)) : List (List V) := (rk.filter fun p => match getA rk' p.1 with
  | none => false
  | some v => decide (p.2 ≠ v)).map fun p => [.str (Str.ofString "keeper"), .str p.1]
def unlikeE (es es' : List Evt) : List (List V) := ((entW es').filter fun e => match entA es e.mv e.who e.day e.kn with
  | none => false
  | some w => decide (w ≠ e.w)).map keyE4
def clashW (rk rk' : List (Str × Int)) (es es' : List Evt) : List (List V) := (unlikeK rk rk' ++ unlikeE es es').mergeSort (PySem.W.dataLe false keyD)
def spClashes (CB CH : Addr) (T : List (Addr × Str)) : Sp := fun vs H Q _ => ∃ (b c : Addr) (rk rk' : List (Str × Int)) (es es' : List Evt) (fp fp' : List Addr), vs = [.ref b, .ref c] ∧ Bk CB CH H b rk es fp ∧ Bk CB CH H c rk' es' fp' ∧ es.length ≤ 60 ∧ es'.length ≤ 60 ∧ Tabs T H ∧
  ∀ (l : Addr) (ts : List Addr) (H' : Hp), NewN H l → ExtN H H' → Tabs T H' → H' l = some (.lst (ts.map V.ref)) → Paired (TupIs H') ts (clashW rk rk' es es') → Q (.ref l) H'
def tstK (rk' : List (Str × Int)) (p : Str × Int) : Bool := match getA rk' p.1 with
  | none => false
  | some v => decide (p.2 ≠ v)
theorem unlikeK_snoc (l rk' : List (Str × Int)) (p : Str × Int) : unlikeK (l ++ [p]) rk' = unlikeK l rk' ++ if tstK rk' p = true then [[.str (Str.ofString "keeper"), .str p.1]] else [] := by
  show ((l ++ [p]).filter (tstK rk')).map _ = (l.filter (tstK rk')).map _ ++ _
  rw [List.filter_append, List.map_append]
  congr 1
  cases h : tstK rk' p <;> simp [h]
def tstE (es : List Evt) (e : Evt) : Bool := match entA es e.mv e.who e.day e.kn with
  | none => false
  | some w => decide (w ≠ e.w)
theorem unlikeE_snoc (es l : List Evt) (e : Evt) : ((l ++ [e]).filter (tstE es)).map keyE4 = (l.filter (tstE es)).map keyE4 ++ if tstE es e = true then [keyE4 e] else [] := by
  rw [List.filter_append, List.map_append]
  congr 1
  cases h : tstE es e <;> simp [h]
theorem unlikeK_le (l rk' : List (Str × Int)) : (unlikeK l rk').length ≤ l.length := by
  unfold unlikeK
  rw [List.length_map]
  exact List.length_filter_le _ _
theorem entW_keys (es : List Evt) : (((entW es).map fun e => (evK e, e.w)).map (·.1)).Nodup := by
  rw [List.map_map]
  refine List.pairwise_map.mpr ((entW_is es).nd.imp fun {a b} h e => h ?_)
  have e : evK a = evK b := e
  unfold evK at e
  simp only [Prod.mk.injEq] at e
  exact ⟨e.1, e.2.1, e.2.2.1, e.2.2.2⟩
theorem getA_entW (es : List Evt) (k : EvK) : getA ((entW es).map fun e => (evK e, e.w)) k = entA es k.1 k.2.2.1 k.2.2.2 k.2.1 := by
  cases h : entA es k.1 k.2.2.1 k.2.2.2 k.2.1 with
  | some w =>
    have m := ((entW_is es).mem ⟨k.1, k.2.1, k.2.2.1, k.2.2.2, w⟩).mpr h
    exact getA_of_mem (entW_keys es) (List.mem_map.mpr ⟨_, m, rfl⟩)
  | none =>
    refine getA_none_iff.mpr fun hk => ?_
    obtain ⟨p, hp, e⟩ := List.mem_map.mp hk
    obtain ⟨x, hx, rfl⟩ := List.mem_map.mp hp
    have m := ((entW_is es).mem x).mp hx
    subst e
    have h : entA es x.mv x.who x.day x.kn = none := h
    rw [h] at m
    cases m
theorem entW_fresh (es : List Evt) {i : Nat} {e : Evt} (h : (entW es)[i]? = some e) : getA (((entW es).take i).map fun e => (evK e, e.w)) (evK e) = none := by
  refine getA_none_iff.mpr fun hk => ?_
  have nd := entW_keys es
  rw [List.map_map] at hk nd
  obtain ⟨x, hx, ex⟩ := List.mem_map.mp hk
  obtain ⟨j, hj⟩ := List.getElem?_of_mem hx
  rw [List.getElem?_take] at hj
  split at hj
  · have h1 := List.getElem?_eq_some_iff.mp hj
    have h2 := List.getElem?_eq_some_iff.mp h
    have n := List.pairwise_iff_getElem.mp (List.pairwise_map.mp nd) j i h1.1 h2.1 (by omega)
    rw [h1.2, h2.2] at n
    exact n ex
  · cases hj
theorem wok_scal {x y : V} (h : WOK x) (k : WOK y) : scal x y = true := by
  rcases h with rfl | ⟨i, rfl⟩ | ⟨z, rfl, _⟩ <;> rcases k with rfl | ⟨j, rfl⟩ | ⟨z', rfl, _⟩ <;> rfl
theorem entA_wok {rk : List (Str × Int)} {es : List Evt} (k : Rk rk) (ok : ∀ e ∈ es, EvOK rk e) {mv : Bool} {who : Str} {d kn : Int} {w : V} (h : entA es mv who d kn = some w) : WOK w :=
  (evSt_of (fun z hz => by obtain ⟨p, hp, rfl⟩ := List.mem_map.mp hz; exact k.nm p hp) (ok _ (entA_in h))).w
end LT
set_option Elab.async false
set_option linter.all false
set_option maxRecDepth 100000
set_option maxHeartbeats 1600000
/-! Own layer: a store into a dict of a comprehension, the key a number, a text or a tuple of such. -/
namespace LT
open PySem PySem.Spec PyProof.Rows L2 NdefX
section
variable {X : Cx} {pins : List (Addr × Obj)} {σ : L2.St} {H H' : Hp} {s : Shared} {E : Value → Shared → Prop} {D : Addr} {y v : V} {u r : Value} {Q : Unit → Shared → Prop}
theorem d_dictSetP (hu : X.A.units + 1 < cLine) (I : Inv X pins σ H s) (h : DPut H D y v H') (ru : RelV y u) (rr : RelV v r) (hQ : ∀ s', Inv X pins σ H' s' → Q () s') : wpAny (model X.prog X.w) X.A (dictSet D u r) Q E s := by
  rcases h with ⟨kvs, k, e, rfl, hl, rfl⟩ | ⟨kvs, k, b, e, rfl, eb, hl, rfl⟩
  · exact d_dictSet I e hl ru rr hQ
  · obtain rfl : u = .ref b := ru
    obtain ⟨hz, hs, xs, kt, hd⟩ := dt_of I.hok e
    refine wpAny_dictSet_heap (knd := tupleKind (mixKind X.prog X.w)) ?_ (key_of I.hok eb) hd (fun h' hd' sb => hQ _ (d_write I (by rw [e]; trivial) sb ?_ ?_)) (by have := Paired.length kt; omega)
    · show X.A.units < cLine
      omega
    · obtain ⟨o, es, ep, a1, _⟩ := hd'
      exact ⟨o, a1⟩
    · have hl2 : (putK kvs k v).length ≤ sizeLine := by
        have := length_putK kvs k v
        omega
      obtain ⟨o, es, ep, a1, a2, a3, a4, _, a6⟩ := hd'
      exact ⟨hl2, hs, _, (kt.put k eb rr).keeps fun c ys hc => by rw [upd_ne (fun z => by rw [z, e] at hc; cases hc)]; exact hc, o, es, ep, a1, a2, a3, a4, a6⟩
end
/-- {k: v for ..} into a dict whose keys are tuples -/
def tDcP (wi : TI) (g : TG) (tt : TT) (tk tv : TE) (vs : List Nat) : TE := fun σ H Q => wi σ H fun J H1 => ∀ D : Addr, H1 D = none →
  ∃ W : Nat → Nat → Hp → Prop, (∃ m, W 0 m (upd H1 D (.dT []))) ∧ ∀ i m H, W i m H → (J.stop i H ∧ Q (.ref D) H) ∨ (J.go i H ∧ ∃ Nx : Hp → Prop, (∀ H', Nx H' → ∃ m', m' < m ∧ W (i + 1) m' H') ∧
    ∀ x H', J.yld i H x H' → g x (wipe σ vs) H' fun σ2 H2 => wipe σ2 vs = wipe σ vs ∧ tt σ2 H2 fun b H3 => if b = true then tk σ2 H3 fun y H4 => tv σ2 H4 fun z H5 => ∃ H6, DPut H5 D y z H6 ∧ Nx H6 else Nx H3)
section
variable {X : Cx} {pins : List (Addr × Obj)} {s : Shared} {σ : L2.St} {H : Hp} {Q : VK} {kx vx tg iter : Expr} {ifs : List Expr} {scope : Scope} {own : List (Str × Nat)} {pos pos' : Pos} {wi : TI} {g : TG} {tt : TT} {tk tv : TE}
  {use : Option (Value → Sem Unit)} {Qf : Value → Shared → Prop}
theorem dcP_loop {J : It} {fp : List Addr} {it D : Addr} {tn : Nat → Heap → Prop} {s3 : Shared} {H3 : Hp} {W : Nat → Nat → Hp → Prop} {m0 : Nat} (hu : X.A.units + 1 < cLine) (hc : X.calm = true) (hN : X.N.Nodup) (I3 : Inv X pins σ H3 s3) (ok : BlkOk X.N X.env.scope scope own)
    (hg : ∀ (s : Shared) (H : Hp) (C : Addr) (cl : List (Str × Addr)) (fp : List Addr), PG (X.blk s H scope (compEnvC scope cl C X.env) fp) tg g)
    (ht : ∀ (s : Shared) (H : Hp) (C : Addr) (cl : List (Str × Addr)) (fp : List Addr), PTs (X.blk s H scope (compEnvC scope cl C X.env) fp) ifs tt)
    (hk : ∀ (s : Shared) (H : Hp) (C : Addr) (cl : List (Str × Addr)) (fp : List Addr), PE (X.blk s H scope (compEnvC scope cl C X.env) fp) kx tk)
    (hv : ∀ (s : Shared) (H : Hp) (C : Addr) (cl : List (Str × Addr)) (fp : List Addr), PE (X.blk s H scope (compEnvC scope cl C X.env) fp) vx tv)
    (TT : Turn X.prog X.w X.K tg J fp it tn) (t3 : tn 0 s3.heap) (fp3 : ∀ b ∈ fp, FpOk X pins H3 b ∧ b < s3.heap.objs.size) (w0 : W 0 m0 H3)
    (hw : ∀ i m H, W i m H → (J.stop i H ∧ Q (.ref D) H) ∨ (J.go i H ∧ ∃ Nx : Hp → Prop, (∀ H', Nx H' → ∃ m', m' < m ∧ W (i + 1) m' H') ∧
      ∀ x H', J.yld i H x H' → g x (wipe σ (own.map (·.2))) H' fun σ2 H2 => wipe σ2 (own.map (·.2)) = wipe σ (own.map (·.2)) ∧ tt σ2 H2 fun b H3 => if b = true then tk σ2 H3 fun y H4 => tv σ2 H4 fun z H5 => ∃ H6, DPut H5 D y z H6 ∧ Nx H6 else Nx H3))
    (q : ∀ (D C : Addr) (s' : Shared) (m : Str → Option Value) (H' : Hp), Inv X pins σ H' s' → Q (.ref D) H' → s'.heap.Ns C m → FpOk X pins H' C → compPost (model X.prog X.w) X.A X.xe use Qf (.ref D) C (.ok .next) s') :
    codeAny (model X.prog X.w) X.A (.compStart (.DictComp kx vx [⟨tg, iter, ifs, 0⟩] scope pos) 0 (.ref it) (.ref D) (compEnvC scope (cellsFrom (s3.heap.objs.size + 1) scope.names (cloFrom X.env.cells scope.names [])) s3.heap.objs.size X.env))
      (compPost (model X.prog X.w) X.A X.xe use Qf (.ref D) s3.heap.objs.size) { s3 with heap := pushCells (s3.heap.push { cls := .type "dict", data := .dict #[] }) scope.names } := by
  have I4 := block_start I3 ok hN fp3
  have t4 : tn 0 (pushCells (s3.heap.push { cls := .type "dict", data := .dict #[] }) scope.names) := TT.keep 0 _ _ t3 fun b _ o e => pushCells_keeps scope.names _ b o (Heap.get?_push_of_some _ e)
  generalize hcl : cellsFrom (s3.heap.objs.size + 1) scope.names (cloFrom X.env.cells scope.names []) = cl at *
  generalize hs4 : ({ s3 with heap := pushCells (s3.heap.push { cls := .type "dict", data := .dict #[] }) scope.names } : Shared) = s4 at *
  have t4 : tn 0 s4.heap := by rw [← hs4]; exact t4
  have n4 : ∀ b ∈ fp, H3 b = none := fun b hb => (fp3 b hb).1.1
  have fpb : ∀ {ps : List (Addr × Obj)} {σ' : L2.St} {H' : Hp} {s' : Shared}, ps = [] → Inv (X.blk s3 H3 scope (compEnvC scope cl s3.heap.objs.size X.env) fp) ps σ' H' s' → (∀ b ∈ fp, H' b = none) → ∀ b ∈ fp, FpOk (X.blk s3 H3 scope (compEnvC scope cl s3.heap.objs.size X.env) fp) ps H' b := fun {ps σ' H' s'} e Ib hn b hb => by
    subst e
    exact ⟨hn b hb, (Ib.ok.exf b hb).1, Ib.ok.exfs b hb, .inl hb, (Ib.ok.exf b hb).2, fun p hp => nomatch hp⟩
  have loop := compLoop_anyD (prog := X.prog) (w := X.w) (A := X.A) (kx := kx) (vx := vx) (target := tg) (iter := iter) (ifs := ifs) (scope := scope) (pos := pos) (it := .ref it) (D := D) (env := compEnvC scope cl s3.heap.objs.size X.env)
    (R := compPost (model X.prog X.w) X.A X.xe use Qf (.ref D) s3.heap.objs.size)
    (fun n s' => ∃ i H', W i n H' ∧ Inv (X.blk s3 H3 scope (compEnvC scope cl s3.heap.objs.size X.env) fp) [] (wipe σ (own.map (·.2))) H' s' ∧ tn i s'.heap ∧ ∀ b ∈ fp, H' b = none) ?_ m0 (s := s4) ⟨0, H3, w0, I4, t4, n4⟩
  · refine codeAny_compStart_dict loop ?_
    exact TT.self _ 0 _ _ _ t4 loop
  rintro n s5 ⟨i, H5, w5, I5, t5, n5⟩
  rcases hw i n H5 w5 with ⟨st, qd⟩ | ⟨go, Nx, hNx, hy⟩
  · refine thn (TT.done (X.blk s3 H3 scope (compEnvC scope cl s3.heap.objs.size X.env) fp) rfl rfl rfl hc i [] s5 _ H5 _ I5 (fpb rfl I5 n5) t5 st) fun r s6 ⟨hr, I6⟩ => ?_
    subst hr
    obtain ⟨m, hm, _⟩ := I6.loc
    have I7 : Inv X pins σ H5 s6 := I3.call' I6.os I6.base I6.hok I6.bare fun b hb => by
      obtain ⟨⟨_, f1, _, f3, f4, f5⟩, _⟩ := fp3 b hb
      exact ⟨f3, f1, f4, f5⟩
    exact q D _ s6 m H5 I7 qd hm (I3.fpOk (Nat.le_refl _) I6.free)
  · refine thn (TT.item (X.blk s3 H3 scope (compEnvC scope cl s3.heap.objs.size X.env) fp) rfl rfl rfl hc i [] s5 _ H5 _ I5 (fpb rfl I5 n5) t5 go) fun r s6 ⟨u, hr, h6⟩ => ?_
    subst hr
    refine thn h6 fun _ s7 ⟨x, H7, I7, rx, yl, t7, n7⟩ => ?_
    have P7 := I7.pinned (fp := fp) (fpb rfl I7 n7) (TT.obj (i + 1) s7.heap t7)
    refine thnF ((hg s3 H3 s3.heap.objs.size cl fp).run _ s7 _ H7 x u _ P7 rx (hy x H7 yl)) fun _ s8 ⟨σ8, H8, I8, ew, q8⟩ => ?_
    have done : ∀ {H' : Hp} {s' : Shared}, Inv (X.blk s3 H3 scope (compEnvC scope cl s3.heap.objs.size X.env) fp) ([] ++ pinsAt fp s7.heap) σ8 H' s' → Nx H' → ∃ m, m < n ∧ ∃ i H'', W i m H'' ∧ Inv (X.blk s3 H3 scope (compEnvC scope cl s3.heap.objs.size X.env) fp) [] (wipe σ (own.map (·.2))) H'' s' ∧ tn i s'.heap ∧ ∀ b ∈ fp, H'' b = none := fun {H' s'} I' hn => by
      obtain ⟨m', lt, w'⟩ := hNx H' hn
      refine ⟨m', lt, i + 1, H', w', (I'.unpinned).weak ?_ ?_, ?_, ?_⟩
      · rw [← ew, wipe_length]
      · intro k v hk
        rw [← ew] at hk
        exact (wipe_some hk).1
      · refine TT.keep (i + 1) _ _ t7 fun b hb o e => ?_
        exact (I'.pin (b, o) (List.mem_append_right _ (mem_pinsAt hb e))).1
      · intro b hb
        obtain ⟨o, e, _⟩ := TT.obj (i + 1) s7.heap t7 b hb
        exact (I'.pin (b, o) (List.mem_append_right _ (mem_pinsAt hb e))).2.1
    refine thnF ((ht s3 H3 s3.heap.objs.size cl fp).run _ s8 _ H8 _ I8 q8) fun b s9 ⟨H9, I9, q9⟩ => ?_
    cases b with
    | false =>
      rw [if_neg (by nofun)] at q9
      exact done I9 q9
    | true =>
      rw [if_pos rfl] at q9
      show wpAny _ _ (eval kx _) _ _ _
      refine thnF ((hk s3 H3 s3.heap.objs.size cl fp).run _ s9 _ H9 _ I9 q9) fun ky s10 ⟨y, H10, I10, ry, q10⟩ => ?_
      refine thnF ((hv s3 H3 s3.heap.objs.size cl fp).run _ s10 _ H10 _ I10 q10) fun vv s11 ⟨z, H11, I11, rz, H12, dp, nx⟩ => ?_
      exact d_dictSetP (X := X.blk s3 H3 scope (compEnvC scope cl s3.heap.objs.size X.env) fp) hu I11 dp ry rz fun s12 I12 => done I12 nx
theorem dcP_core (hu : X.A.units + 1 < cLine) (hc : X.calm = true) (hN : X.N.Nodup) (I : Inv X pins σ H s) (hi : PI X tg iter wi) (ok : BlkOk X.N X.env.scope scope own)
    (hg : ∀ (s : Shared) (H : Hp) (C : Addr) (cl : List (Str × Addr)) (fp : List Addr), PG (X.blk s H scope (compEnvC scope cl C X.env) fp) tg g)
    (ht : ∀ (s : Shared) (H : Hp) (C : Addr) (cl : List (Str × Addr)) (fp : List Addr), PTs (X.blk s H scope (compEnvC scope cl C X.env) fp) ifs tt)
    (hk : ∀ (s : Shared) (H : Hp) (C : Addr) (cl : List (Str × Addr)) (fp : List Addr), PE (X.blk s H scope (compEnvC scope cl C X.env) fp) kx tk)
    (hv : ∀ (s : Shared) (H : Hp) (C : Addr) (cl : List (Str × Addr)) (fp : List Addr), PE (X.blk s H scope (compEnvC scope cl C X.env) fp) vx tv)
    (hs : ∀ x, foldedSetIterable iter X.env x = pure x) (h : tDcP wi g tt tk tv (own.map (·.2)) σ H Q)
    (q : ∀ (D C : Addr) (s' : Shared) (m : Str → Option Value) (H' : Hp), Inv X pins σ H' s' → Q (.ref D) H' → s'.heap.Ns C m → FpOk X pins H' C → compPost (model X.prog X.w) X.A X.xe use Qf (.ref D) C (.ok .next) s') :
    wpAny (model X.prog X.w) X.A (comprehension (.DictComp kx vx [⟨tg, iter, ifs, 0⟩] scope pos) scope X.env pos' newDict false (eval iter X.env) use) Qf X.xe s := by
  refine wpAny_comprehension_free (g := ⟨tg, iter, ifs, 0⟩) (gs := []) (cl := cloFrom X.env.cells scope.names []) rfl hs (closure_ok fun y hy hf => ?_) ok.kind (fun y hy hl => ?_) ?_
  · exact I.ok.has _ (ok.free y hy hf)
  · rw [ok.uniq y hy, hl]
  refine thn (hi.run pins s σ H _ I h) fun v s1 h1 => thn h1 fun itv s2 hp => ?_
  obtain ⟨it, fp, tn, J, H1, rfl, I2, TT, t0, fpo, hW⟩ := hp
  obtain ⟨W, ⟨m0, w0⟩, hw⟩ := hW s2.heap.objs.size (I2.hok.fresh (Nat.le_refl _))
  show wpAny _ _ newDict _ _ _
  unfold newDict
  refine wpAny_newObj_type ?_
  have I3 : Inv X pins σ (upd H1 s2.heap.objs.size (.dT [])) { s2 with heap := s2.heap.push { cls := .type "dict", data := .dict #[] } } := I2.laid (t' := s2.toks) (fun b u e => Heap.get?_push_of_some _ e) (Nat.le_refl _) (dt_empty s2.heap I2.big)
  have old : ∀ b ∈ fp, b < s2.heap.objs.size := fun b hb => by
    obtain ⟨o, e, _⟩ := TT.obj 0 _ t0 b hb
    exact Heap.lt_size e
  have fp3 : ∀ b ∈ fp, FpOk X pins (upd H1 s2.heap.objs.size (.dT [])) b ∧ b < (s2.heap.push { cls := .type "dict", data := .dict #[] }).objs.size := fun b hb => by
    obtain ⟨f0, f⟩ := fpo b hb
    have l := old b hb
    exact ⟨⟨by rw [upd_ne (Nat.ne_of_lt l)]; exact f0, f⟩, by rw [Heap.size_push]; exact Nat.lt_succ_of_lt l⟩
  have t3 : tn 0 (s2.heap.push { cls := .type "dict", data := .dict #[] }) := TT.keep 0 _ _ t0 fun b _ o e => Heap.get?_push_of_some _ e
  refine newEnv_comp ?_
  exact dcP_loop hu hc hN I3 ok hg ht hk hv TT t3 fp3 w0 hw q
end
section
variable {J : It} {n : Nat} {G : Hp → Prop} {Y : Nat → Hp → V → Hp → Prop}
theorem dcP_it (w : Walk J n G Y) {g : TG} {tt : TT} {tk tv : TE} {vs : List Nat} {σ : L2.St} {H1 : Hp} {D : Addr} {Qd : Hp → Prop} (Pv : Nat → Hp → Prop) (h0 : Pv 0 (upd H1 D (.dT []))) (hG : ∀ i H, i ≤ n → Pv i H → G H)
    (hs : ∀ i x H H', i < n → Pv i H → Y i H x H' → g x (wipe σ vs) H' fun σ2 H2 => wipe σ2 vs = wipe σ vs ∧ tt σ2 H2 fun b H3 =>
      if b = true then tk σ2 H3 fun y H4 => tv σ2 H4 fun z H5 => ∃ H6, DPut H5 D y z H6 ∧ Pv (i + 1) H6 else Pv (i + 1) H3) (hd : ∀ H, Pv n H → Qd H) :
    ∃ W : Nat → Nat → Hp → Prop, (∃ m, W 0 m (upd H1 D (.dT []))) ∧ ∀ i m H, W i m H →
      (J.stop i H ∧ Qd H) ∨ (J.go i H ∧ ∃ Nx : Hp → Prop, (∀ H', Nx H' → ∃ m', m' < m ∧ W (i + 1) m' H') ∧ ∀ x H', J.yld i H x H' → g x (wipe σ vs) H' fun σ2 H2 => wipe σ2 vs = wipe σ vs ∧ tt σ2 H2 fun b H3 =>
        if b = true then tk σ2 H3 fun y H4 => tv σ2 H4 fun z H5 => ∃ H6, DPut H5 D y z H6 ∧ Nx H6 else Nx H3) := by
  refine ⟨fun i m H => m = n - i ∧ i ≤ n ∧ Pv i H, ⟨n, by simp, Nat.zero_le _, h0⟩, ?_⟩
  rintro i m H ⟨rfl, hi, p⟩
  have q := hG i H hi p
  by_cases hlt : i < n
  · exact .inr ⟨w.goes i H hlt q, Pv (i + 1), fun H' p' => ⟨n - (i + 1), by omega, rfl, hlt, p'⟩, fun x H' y => hs i x H H' hlt p (w.yields i H x H' hlt q y)⟩
  · have e : i = n := by omega
    subst e
    exact .inl ⟨w.stops H q, hd H p⟩
end
section
variable {X : Cx}
theorem pe_dcP {kx vx tg iter : Expr} {ifs : List Expr} {scope : Scope} {own : List (Str × Nat)} {pos : Pos} {wi : TI} {g : TG} {tt : TT} {tk tv : TE} (hu : X.A.units + 1 < cLine) (hc : X.calm = true) (hN : X.N.Nodup) (hi : PI X tg iter wi) (ok : BlkOk X.N X.env.scope scope own)
    (hg : ∀ (s : Shared) (H : Hp) (C : Addr) (cl : List (Str × Addr)) (fp : List Addr), PG (X.blk s H scope (compEnvC scope cl C X.env) fp) tg g) (ht : ∀ (s : Shared) (H : Hp) (C : Addr) (cl : List (Str × Addr)) (fp : List Addr), PTs (X.blk s H scope (compEnvC scope cl C X.env) fp) ifs tt)
    (hk : ∀ (s : Shared) (H : Hp) (C : Addr) (cl : List (Str × Addr)) (fp : List Addr), PE (X.blk s H scope (compEnvC scope cl C X.env) fp) kx tk)
    (he : ∀ (s : Shared) (H : Hp) (C : Addr) (cl : List (Str × Addr)) (fp : List Addr), PE (X.blk s H scope (compEnvC scope cl C X.env) fp) vx tv) (hs : ∀ x, foldedSetIterable iter X.env x = pure x := by intro _; rfl) :
    PE X (.DictComp kx vx [⟨tg, iter, ifs, 0⟩] scope pos) (tDcP wi g tt tk tv (own.map (·.2))) := by
  refine ⟨fun pins s σ H Q I h => ?_⟩
  show wpAny _ X.A (comprehension (.DictComp kx vx [⟨tg, iter, ifs, 0⟩] scope pos) scope X.env (firstIterPos [⟨tg, iter, ifs, 0⟩] pos) newDict false (eval iter X.env) none) _ _ s
  refine dcP_core hu hc hN I hi ok hg ht hk he hs h fun L C s' m H' I' q hn f => ?_
  obtain ⟨f0, f1, f2, f3, f4, f5⟩ := f
  refine ⟨m, hn, fun h3 sb3 => ?_⟩
  exact ⟨.ref L, H', I'.turned (t' := s'.toks) (fun b o hb e => (sb3.2 b hb).trans e) f0 f1 f3 f4 f5, rfl, q⟩
end
end LT
set_option Elab.async false
set_option linter.all false
set_option maxRecDepth 100000
set_option maxHeartbeats 1600000
/-! Own layer: sorted of tuples of unlike shapes, which their first things tell apart. -/
namespace LT
open PySem PySem.Spec PyProof.Rows L2
def FlD (d : PyData) : Prop := (∃ i, d = .int i) ∨ (∃ z, d = .str z)
theorem reads_fl {h : Heap} {v : Value} {d d' : PyData} {as bs : List Addr} (k : FlD d) (k' : FlD d') (r : Reads h v d as) (r' : Reads h v d' bs) : d = d' := by
  rcases k with ⟨i, rfl⟩ | ⟨z, rfl⟩ <;> rcases k' with ⟨j, rfl⟩ | ⟨y, rfl⟩ <;> cases r <;> cases r' <;> rfl
theorem readsAll_fl {h : Heap} : ∀ {xs ys : List PyData} {vs : List Value} {as bs : List Addr}, (∀ d ∈ xs, FlD d) → (∀ d ∈ ys, FlD d) → ReadsAll h vs xs as → ReadsAll h vs ys bs → xs = ys
  | [], [], _, _, _, _, _, _, _ => rfl
  | [], y :: ys, _, _, _, _, _, r, r' => by cases r; cases r'
  | x :: xs, [], _, _, _, _, _, r, r' => by cases r'; cases r
  | x :: xs, y :: ys, vs, as, bs, k, k', r, r' => by
    cases r with
    | cons a b =>
      cases r' with
      | cons a' b' =>
        rw [reads_fl (k x List.mem_cons_self) (k' y List.mem_cons_self) a a', readsAll_fl (fun d hd => k d (List.mem_cons_of_mem _ hd)) (fun d hd => k' d (List.mem_cons_of_mem _ hd)) b b']
/-- tuples of numbers and texts, a text first -/
def TpD (d : PyData) : Prop := ∃ z r, d = .tuple (.str z :: r) ∧ ∀ x ∈ r, FlD x
theorem reads_tp {h : Heap} {v : Value} {d d' : PyData} {as bs : List Addr} (k : TpD d) (k' : TpD d') (r : Reads h v d as) (r' : Reads h v d' bs) : d = d' := by
  obtain ⟨z, q, rfl, f⟩ := k
  obtain ⟨z', q', rfl, f'⟩ := k'
  have fl : ∀ {z : Str} {q : List PyData}, (∀ x ∈ q, FlD x) → ∀ x ∈ PyData.str z :: q, FlD x := fun {z q} f x hx => by
    rcases List.mem_cons.mp hx with rfl | hx
    · exact .inr ⟨z, rfl⟩
    · exact f x hx
  cases r with
  | tuple e1 e2 e3 e4 =>
    cases r' with
    | tuple g1 g2 g3 g4 =>
      rw [e1] at g1
      cases g1
      rw [e3] at g3
      cases g3
      rw [readsAll_fl (fl f) (fl f') e4 g4]
theorem mix_some {h : Heap} {ds : List PyData} (k : ∀ d ∈ ds, TpD d) {v : Value} {d : PyData} {as : List Addr} (hd : d ∈ ds) (r : Reads h v d as) : (PySem.W.dataKind h ds).keyOf v = some (PySem.W.keyToks d) := by
  have q : ∃ d, d ∈ ds ∧ ∃ as, Reads h v d as := ⟨d, hd, as, r⟩
  unfold PySem.W.dataKind
  dsimp only
  rw [dif_pos q]
  obtain ⟨h1, bs, h2⟩ := q.choose_spec
  rw [reads_tp (k _ h1) (k _ hd) h2 r]
theorem first_lt {a b : List Nat} {R R' : List (Int ⊕ List Nat)} (h : a ≠ b) : PyProof.Rows.lexLt PyProof.Rows.itemOrd (Sum.inl 1 :: ([Sum.inr a] ++ R)) (Sum.inl 1 :: ([Sum.inr b] ++ R')) = PyProof.Rows.lexLt PyProof.Rows.itemOrd [Sum.inr a] [Sum.inr b] := by
  have ir := PyProof.Rows.itemOrd.irrefl (Sum.inl 1)
  have tot : PyProof.Rows.itemOrd.blt (Sum.inr a) (Sum.inr b) = false → PyProof.Rows.itemOrd.blt (Sum.inr b) (Sum.inr a) = false → False := fun p q => h (Sum.inr.inj (PyProof.Rows.itemOrd.total _ _ p q))
  rw [PyProof.Rows.lexLt.eq_4, ir, List.singleton_append, List.singleton_append, PyProof.Rows.lexLt.eq_4, PyProof.Rows.lexLt.eq_4]
  cases p : PyProof.Rows.itemOrd.blt (Sum.inr a) (Sum.inr b) <;> cases q : PyProof.Rows.itemOrd.blt (Sum.inr b) (Sum.inr a)
  · exact (tot p q).elim
  · simp
  · simp
  · simp
section
variable {prog : Program} {w : World} {A : Around} {s : Shared} {ds : List PyData}
/-- alike, or told apart by the first text -/
def Mix (ds : List PyData) : Prop := ∀ d ∈ ds, ∀ d' ∈ ds, PySem.W.alike d d' = true ∨ ∃ z z' r r', d = .tuple (.str z :: r) ∧ d' = .tuple (.str z' :: r') ∧ z ≠ z'
theorem mix_lt (k : ∀ d ∈ ds, TpD d) (al : Mix ds) (hu : A.units + 8 < cLine) (dp : ∀ d ∈ ds, d.depth ≤ 8) : PyProof.Rows.H.LtAt prog w A s (PySem.W.dataKind s.heap ds) (PyProof.Rows.tuples' true) := by
  intro E x y a b Q hx hy q
  obtain ⟨d, as, hd, rd, rfl⟩ := PySem.W.dataKind_inv hx
  obtain ⟨d', bs, hd', rd', rfl⟩ := PySem.W.dataKind_inv hy
  have kd := k d hd
  have kd' := k d' hd'
  have ad := al d hd d' hd'
  have d1 := dp d hd
  have d2 := dp d' hd'
  obtain ⟨z, r, rfl, f⟩ := kd
  obtain ⟨z', r', rfl, f'⟩ := kd'
  cases rd with
  | @tuple _ _ vs _ _ _ e1 e2 e3 e4 =>
    cases rd' with
    | @tuple _ _ ws _ _ _ g1 g2 g3 g4 =>
      refine PySem.W.kat_lt e1 e3 g1 g3 ?_
      rcases ad with h | ⟨y, y', q1, q2, h1, h2, hne⟩
      · rw [PySem.W.alike.eq_6] at h
        refine PySem.W.katLex_alike _ _ 0 _ _ _ _ e4 g4 h ?_ (fun _ _ x r t hx hc => ?_) ?_ q
        · simp only [PyData.depth] at d1 d2
          omega
        · cases hx
          cases hc
        · have l1 := SeqAt.ReadsAll.length _ _ _ e4
          have l2 := SeqAt.ReadsAll.length _ _ _ g4
          rw [← l1, ← l2, Array.length_toList, Array.length_toList]
      · cases h1
        cases h2
        generalize decide (vs.size < ws.size) = fin
        clear hx hy e1 e2 e3 g1 g2 g3
        generalize vs.toList = l1 at *
        generalize ws.toList = l2 at *
        cases e4 with
        | cons u1 _ =>
          cases g4 with
          | cons u2 _ =>
            rw [List.zip_cons_cons, PySem.W.KatLex.eq_2]
            have de : ∀ z : Str, (PyData.str z).depth ≤ 1 := fun z => by simp only [PyData.depth]; omega
            have dm : A.units + min (PyData.str z).depth (PyData.str z').depth < cLine := by
              have := de z
              omega
            refine PySem.W.eqAt_alike (.str z) (.str z') A s _ _ _ _ u1 u2 (by simp [PySem.W.alike]) dm prog w _ _ ?_
            rw [show PyData.eqv (.str z) (.str z') = false by simp [PyData.eqv, hne]]
            rw [if_neg (by nofun)]
            refine PySem.W.oneLt_alike (da := .str z) (db := .str z') (fun _ _ e => by cases e) u1 u2 (by simp [PySem.W.alike]) (fun e => by cases e) dm ?_
            have e : PyProof.Rows.lexLt PyProof.Rows.itemOrd (PySem.W.keyToksAll (.str z :: r)) (PySem.W.keyToksAll (.str z' :: r')) = PySem.W.dataLt (.str z) (.str z') := by
              simp only [PySem.W.keyToksAll, PySem.W.dataLt, PySem.W.keyToks]
              exact first_lt fun h => hne (by
                cases z
                cases z'
                simp_all)
            rw [← e]
            exact q
theorem mix_sorts {vs : List Value} (e : PySem.W.EachIs (fun v d => ∃ as, Reads s.heap v d as) vs ds) (k : ∀ d ∈ ds, TpD d) (al : Mix ds) (hu : A.units + 8 < cLine) (dp : ∀ d ∈ ds, d.depth ≤ 8) : PySem.W.SortsAt prog w A s (PySem.W.dataKind s.heap ds) vs := by
  refine ⟨fun v hv => ?_, PyProof.Rows.tuples' true, mix_lt k al hu dp, fun h2 E Q q => ?_⟩
  · obtain ⟨d, hd, as, r⟩ := e.left v hv
    exact ⟨_, mix_some k hd r⟩
  · obtain ⟨fs, kt, fl, hf⟩ := PySem.W.each_katTups e fun d hd => by
      obtain ⟨z, r, h, _⟩ := k d hd
      exact ⟨_, r, h⟩
    refine PySem.W.kat_kind (T := .type "str") kt (by omega) (fun v hv => ?_) (by decide) q
    obtain ⟨x, r, as, hm, hr⟩ := hf v hv
    obtain ⟨z, r', h, _⟩ := k _ hm
    cases h
    exact PySem.W.looks_reads hr
theorem each_zip {α β : Type} {R S : α → β → Prop} : ∀ {as : List α} {bs : List β}, PySem.W.EachIs R as bs → PySem.W.EachIs S as bs → ∃ l : List (α × β), l.map (·.1) = as ∧ l.map (·.2) = bs ∧ ∀ p ∈ l, R p.1 p.2 ∧ S p.1 p.2
  | _, _, .nil, _ => ⟨[], rfl, rfl, nofun⟩
  | _, _, .cons a r, .cons b q => by
    obtain ⟨l, h1, h2, h3⟩ := each_zip r q
    refine ⟨(_, _) :: l, by rw [List.map_cons, h1], by rw [List.map_cons, h2], fun p hp => ?_⟩
    rcases List.mem_cons.mp hp with rfl | hp
    · exact ⟨a, b⟩
    · exact h3 p hp
theorem each_of {α β : Type} {R : α → β → Prop} : ∀ {l : List (α × β)}, (∀ p ∈ l, R p.1 p.2) → PySem.W.EachIs R (l.map (·.1)) (l.map (·.2))
  | [], _ => .nil
  | p :: l, h => .cons (h p List.mem_cons_self) (each_of fun q hq => h q (List.mem_cons_of_mem _ hq))
theorem mix_sortVals {β : Type} {R : Value → β → Prop} {enc : β → PyData} {vs : List Value} {bs : List β} {h : Heap} {ds : List PyData} (hR : PySem.W.EachIs R vs bs) (hK : PySem.W.EachIs (fun v b => (PySem.W.dataKind h ds).keyOf v = some (PySem.W.keyToks (enc b))) vs bs) :
    PySem.W.EachIs R (PySem.W.sortVals (PySem.W.dataKind h ds) false vs vs) (bs.mergeSort (PySem.W.dataLe false enc)) := by
  obtain ⟨l, h1, h2, h3⟩ := each_zip hR hK
  have kd : ∀ p ∈ l, PySem.W.keyD (PySem.W.dataKind h ds) p.1 = PySem.W.keyToks (enc p.2) := fun p hp => by
    unfold PySem.W.keyD
    rw [(h3 p hp).2]
    rfl
  have z : vs.zip vs = l.map fun p => (p.1, p.1) := by
    rw [← h1, List.zip_map', ]
  unfold PySem.W.sortVals
  rw [z, ← h2, ← List.map_mergeSort (r := fun p q : Value × β => PySem.W.dataLe false enc p.2 q.2) (f := fun p => (p.1, p.1)) fun a ha b hb => ?_, ← List.map_mergeSort (r := fun p q : Value × β => PySem.W.dataLe false enc p.2 q.2) (f := fun p => p.2) fun a ha b hb => rfl, List.map_map]
  · refine each_of (R := R) fun p hp => (h3 p ?_).1
    exact (List.mergeSort_perm _ _).mem_iff.mp hp
  · unfold PySem.W.dataLe PySem.W.sortLe
    simp only [kd a ha, kd b hb]
    rfl
end
theorem sorted_mix {prog : Program} {w : World} {A : Around} {E : Value → Shared → Prop} {s : Shared} {β : Type} {vs : List Value} {bs : List β} {enc : β → PyData} {R : Value → β → Prop} {l : Addr} {Q : Value → Shared → Prop} (hl : s.heap.IsList l vs.toArray) (hR : PySem.W.EachIs R vs bs)
    (hE : PySem.W.EachIs (fun v b => ∃ as, Reads s.heap v (enc b) as) vs bs) (k : ∀ d ∈ bs.map enc, TpD d) (al : Mix (bs.map enc)) (dp : ∀ d ∈ bs.map enc, d.depth ≤ 8) (hz : vs.length ≤ sizeLine) (hu : A.units + 2 + 8 < cLine)
    (q : ∀ out : List Value, out.length = bs.length → PySem.W.EachIs R out (bs.mergeSort (PySem.W.dataLe false enc)) → Q (.ref (s.heap.objs.size + 1)) { s with heap := PyProof.Rows.sortedAll s.heap vs out.toArray }) :
    wpAny (model prog w) A (call (.builtin "sorted") [.ref l]) Q E s := by
  have hE' : PySem.W.EachIs (fun v b => ∃ as, Reads (PySem.W.sortingHeap (PySem.W.copyHeap s.heap vs) (s.heap.objs.size + 1) vs) v (enc b) as) vs bs := hE.mono fun v b ⟨as, h⟩ => ⟨as, PyProof.Rows.Reads.keeps (fun _ _ e => PySem.W.sorting_copy_old e) h⟩
  have hM := PySem.W.each_map (R := fun v d => ∃ as, Reads (PySem.W.sortingHeap (PySem.W.copyHeap s.heap vs) (s.heap.objs.size + 1) vs) v d as) enc hE'
  refine PySem.W.sorted_vals hl (mix_sorts (s := { s with heap := PySem.W.sortingHeap (PySem.W.copyHeap s.heap vs) (s.heap.objs.size + 1) vs }) hM k al (by show A.units + 1 + 1 + 8 < cLine; omega) dp) hz ?_
  have hK : PySem.W.EachIs (fun v b => (PySem.W.dataKind (PySem.W.sortingHeap (PySem.W.copyHeap s.heap vs) (s.heap.objs.size + 1) vs) (bs.map enc)).keyOf v = some (PySem.W.keyToks (enc b))) vs bs := by
    have mem : ∀ (us : List Value) (cs : List β), PySem.W.EachIs (fun v b => ∃ as, Reads (PySem.W.sortingHeap (PySem.W.copyHeap s.heap vs) (s.heap.objs.size + 1) vs) v (enc b) as) us cs → (∀ c ∈ cs, c ∈ bs) → PySem.W.EachIs (fun v b => (PySem.W.dataKind (PySem.W.sortingHeap (PySem.W.copyHeap s.heap vs) (s.heap.objs.size + 1) vs) (bs.map enc)).keyOf v = some (PySem.W.keyToks (enc b))) us cs := by
      intro us cs h
      induction h with
      | nil => exact fun _ => .nil
      | cons a _ ih =>
        intro hc
        obtain ⟨as, r⟩ := a
        exact .cons (mix_some k (List.mem_map.mpr ⟨_, hc _ List.mem_cons_self, rfl⟩) r) (ih fun c hm => hc c (List.mem_cons_of_mem _ hm))
    exact mem _ _ hE' fun _ h => h
  have hS := mix_sortVals hR hK
  exact q _ (by rw [PySem.W.sortVals_length false rfl, hR.length]) hS
/-- sorted(xs), xs tuples with a text first, alike or told apart by it: a new list -/
def rSortedMx (K : PySem.W.Frag) : List V → Hp → VK → Prop := fun vs H Q => ∃ (a : Addr) (xs : List V) (key : V → List V), vs = [V.ref a] ∧ SqL K H a xs ∧ (∀ x ∈ xs, ∃ t, x = V.ref t ∧ H t = some (.tup (key x))) ∧ (∀ v ∈ xs, ∀ y ∈ key v, Flt y) ∧
  (∀ d ∈ xs.map fun v => keyD (key v), TpD d) ∧ Mix (xs.map fun v => keyD (key v)) ∧ (∀ d ∈ xs.map fun v => keyD (key v), d.depth ≤ 8) ∧
  ∀ p, H p = none → Q (.ref p) (upd H p (.lst (xs.mergeSort (PySem.W.dataLe false fun v => keyD (key v)))))
section
variable {X : Cx}
theorem cr_sortedMx (hu : X.A.units + 64 < cLine) : CallR X (.builtin "sorted") (rSortedMx X.K) := by
  intro pins s σ H vs us Q I r h
  obtain ⟨a, xs, key, rfl, hs, hx, hfl, hal, hso, hdp, q⟩ := h
  obtain ⟨its, rv, hl, hz⟩ := I.list hs
  obtain ⟨u, rfl, ru⟩ := vals1 r
  obtain rfl : u = Value.ref a := ru
  have hR : PySem.W.EachIs (fun (u : Value) (v : V) => RelV v u) its xs := by
    have h2 : ∀ (xs : List V) (us : List Value), Vals xs us → PySem.W.EachIs (fun (u : Value) (v : V) => RelV v u) us xs := by
      intro xs us h
      induction h with
      | nil => exact .nil
      | cons a _ ih => exact .cons a ih
    exact h2 _ _ rv
  have hE : PySem.W.EachIs (fun (u : Value) (v : V) => ∃ as, Reads s.heap u (keyD (key v)) as) its xs := by
    have h2 : ∀ (xs : List V) (us : List Value), (∀ x ∈ xs, ∃ t, x = V.ref t ∧ H t = some (.tup (key x))) → (∀ v ∈ xs, ∀ y ∈ key v, Flt y) → Vals xs us → PySem.W.EachIs (fun (u : Value) (v : V) => ∃ as, Reads s.heap u (keyD (key v)) as) us xs := by
      intro xs us h1 h2 h
      induction h with
      | nil => exact .nil
      | @cons x u _ _ a _ ih =>
        obtain ⟨t, rfl, eT⟩ := h1 x (.head _)
        cases a
        exact .cons (Dp.reads I _ (.ref t) _ (.tup (SqT.of eT) (fltD_all fun z hz => h2 _ (.head _) z hz)) rfl) (ih (fun v hv => h1 v (.tail _ hv)) fun v hv => h2 v (.tail _ hv))
    exact h2 _ _ hx hfl rv
  refine sorted_mix (enc := fun v => keyD (key v)) hl.isList hR hE hal hso hdp (by rw [hR.length]; exact hz) (by omega) fun out ho eo => ?_
  · obtain ⟨c, hc⟩ := PyProof.Rows.sortedAll_at s.heap its out.toArray
    have hd : s.heap.objs.size ≤ s.heap.objs.size + 1 := Nat.le_succ _
    have hV : Vals (xs.mergeSort (PySem.W.dataLe false fun v => keyD (key v))) out := by
      have h2 : ∀ (us : List Value) (xs : List V), PySem.W.EachIs (fun (u : Value) (v : V) => RelV v u) us xs → Vals xs us := by
        intro us xs h
        induction h with
        | nil => exact .nil
        | cons a _ ih => exact .cons a ih
      exact h2 _ _ eo
    exact ⟨.ref (s.heap.objs.size + 1), upd H (s.heap.objs.size + 1) (.lst (xs.mergeSort (PySem.W.dataLe false fun v => keyD (key v)))), I.laid (t' := s.toks) (fun b u q => PyProof.Rows.sortedAll_old q) hd ⟨by rw [List.length_mergeSort]; exact hz, out, c, hV, hc⟩, rfl, q _ (I.hok.fresh hd)⟩
end
end LT
namespace LT
open PySem PySem.Spec PyProof.Rows L2 NdefX LamX
def keyOfV (H : Hp) : V → List V
  | .ref t => match H t with
    | some (.tup xs) => xs
    | _ => []
  | _ => []
theorem keyOf_is {H : Hp} {t : Addr} {xs : List V} (h : TupIs H t xs) : keyOfV H (.ref t) = xs := by
  show (match H t with
    | some (.tup xs) => xs
    | _ => []) = xs
  rw [show H t = some (.tup xs) from h]
theorem pairs_of {α β : Type} {R : α → β → Prop} {as : List α} {bs : List β} (h : Paired R as bs) : ∃ l : List (α × β), l.map (·.1) = as ∧ l.map (·.2) = bs ∧ ∀ p ∈ l, R p.1 p.2 := by
  induction h with
  | nil => exact ⟨[], rfl, rfl, nofun⟩
  | cons a _ ih =>
    obtain ⟨l, h1, h2, h3⟩ := ih
    refine ⟨(_, _) :: l, by rw [List.map_cons, h1], by rw [List.map_cons, h2], fun p hp => ?_⟩
    rcases List.mem_cons.mp hp with rfl | hp
    · exact a
    · exact h3 p hp
theorem paired_ofL {α β : Type} {R : α → β → Prop} : ∀ {l : List (α × β)}, (∀ p ∈ l, R p.1 p.2) → Paired R (l.map (·.1)) (l.map (·.2))
  | [], _ => .nil
  | p :: l, h => .cons (h p List.mem_cons_self) (paired_ofL fun q hq => h q (List.mem_cons_of_mem _ hq))
theorem tup_sorted {H : Hp} {ts : List Addr} {L : List (List V)} (h : Paired (TupIs H) ts L) : ∃ ts' : List Addr, (ts.map V.ref).mergeSort (PySem.W.dataLe false fun v => keyD (keyOfV H v)) = ts'.map V.ref ∧ Paired (TupIs H) ts' (L.mergeSort (PySem.W.dataLe false keyD)) := by
  obtain ⟨l, h1, h2, h3⟩ := pairs_of h
  subst h1 h2
  refine ⟨(l.mergeSort fun p q => PySem.W.dataLe false keyD p.2 q.2).map (·.1), ?_, ?_⟩
  · rw [List.map_map, List.map_map]
    refine (List.map_mergeSort (r := fun p q : Addr × List V => PySem.W.dataLe false keyD p.2 q.2) fun a ha b hb => ?_).symm
    unfold PySem.W.dataLe PySem.W.sortLe
    simp only [Function.comp, keyOf_is (h3 a ha), keyOf_is (h3 b hb)]
  · rw [← List.map_mergeSort (r := fun p q : Addr × List V => PySem.W.dataLe false keyD p.2 q.2) (f := fun p => p.2) fun a ha b hb => rfl]
    exact paired_ofL fun p hp => h3 p ((List.mergeSort_perm _ _).mem_iff.mp hp)
/-- a clash as it stands in a list -/
def ClsK (xs : List V) : Prop := (∃ z, xs = [.str (Str.ofString "keeper"), .str z]) ∨ ∃ e : Evt, xs = keyE4 e
theorem clsK_tp {xs : List V} (h : ClsK xs) : TpD (keyD xs) ∧ (keyD xs).depth ≤ 8 ∧ ∀ y ∈ xs, Flt y := by
  rcases h with ⟨z, rfl⟩ | ⟨e, rfl⟩
  · refine ⟨⟨_, [.str z], rfl, fun x hx => ?_⟩, ?_, fun y hy => ?_⟩
    · rw [List.mem_singleton.mp hx]
      exact .inr ⟨_, rfl⟩
    · simp [keyD, fltD, PyData.depth, PyData.depthAll]
    · simp only [List.mem_cons, List.not_mem_nil, or_false] at hy
      rcases hy with rfl | rfl <;> trivial
  · refine ⟨⟨_, [.int e.kn, .str e.who, .int e.day], rfl, fun x hx => ?_⟩, ?_, fun y hy => ?_⟩
    · simp only [List.mem_cons, List.not_mem_nil, or_false] at hx
      rcases hx with rfl | rfl | rfl
      · exact .inl ⟨_, rfl⟩
      · exact .inr ⟨_, rfl⟩
      · exact .inl ⟨_, rfl⟩
    · simp [keyE4, keyD, fltD, PyData.depth, PyData.depthAll]
    · simp only [keyE4, List.mem_cons, List.not_mem_nil, or_false] at hy
      rcases hy with rfl | rfl | rfl | rfl <;> trivial
theorem kind_ne (m : Bool) : Str.ofString "keeper" ≠ kindS m := by
  cases m <;> decide +kernel
theorem clsK_mix {L : List (List V)} (h : ∀ xs ∈ L, ClsK xs) : Mix (L.map keyD) := by
  intro d hd d' hd'
  obtain ⟨xs, hx, rfl⟩ := List.mem_map.mp hd
  obtain ⟨ys, hy, rfl⟩ := List.mem_map.mp hd'
  rcases h xs hx with ⟨z, rfl⟩ | ⟨e, rfl⟩ <;> rcases h ys hy with ⟨y, rfl⟩ | ⟨f, rfl⟩
  · exact .inl (by simp [keyD, fltD, PySem.W.alike, PySem.W.alikeAll])
  · exact .inr ⟨_, _, _, _, rfl, rfl, kind_ne _⟩
  · exact .inr ⟨_, _, _, _, rfl, rfl, fun h => kind_ne _ h.symm⟩
  · exact .inl (by simp [keyE4, keyD, fltD, PySem.W.alike, PySem.W.alikeAll])
theorem clashes_cls (rk rk' : List (Str × Int)) (es es' : List Evt) : ∀ xs ∈ unlikeK rk rk' ++ unlikeE es es', ClsK xs := by
  intro xs hx
  rcases List.mem_append.mp hx with hx | hx
  · obtain ⟨p, _, rfl⟩ := List.mem_map.mp hx
    exact .inl ⟨_, rfl⟩
  · obtain ⟨e, _, rfl⟩ := List.mem_map.mp hx
    exact .inr ⟨e, rfl⟩
end LT
set_option Elab.async false
set_option linter.all false
set_option maxRecDepth 100000
set_option maxHeartbeats 1600000
set_option pp.maxSteps 300
namespace K91
open PySem PySem.Spec PyProof.Rows L2 LT NdefX LamX
section
variable {P : Program} {w : World} {K : PySem.W.Frag} {mg : Str → Option Value} {base : Heap}
theorem sc_clashes : FnScope ["one", "other", "ranks", "others", "told", "held", "name", "entry"] ["one", "other"] (defScope s_clashes) := ⟨rfl, rfl, rfl, by decide +kernel, rfl, by decide +kernel, by decide +kernel⟩
theorem ok_clashes (D : All K P mg) (TB : TBs D base) : FnOk P w K mg base CX0 10 D.f_clashes D.d_clashes ["one", "other"] (spClashes D.C_Book D.C_History (TLs D)) := by
  refine D.h_clashes.fn.ok sc_clashes (fun vs H Q E h => ?_) (fun cdv A outer s H vs Q E hr h => ?_)
  · first | (obtain ⟨_, rfl, _⟩ := h; rfl) | (obtain ⟨_, _, rfl, _⟩ := h; rfl) | (obtain ⟨_, _, _, rfl, _⟩ := h; rfl) | (obtain ⟨_, _, _, _, rfl, _⟩ := h; rfl) | (obtain ⟨_, _, _, _, _, rfl, _⟩ := h; rfl) | (obtain ⟨_, _, _, _, _, _, rfl, _⟩ := h; rfl) | (obtain ⟨_, _, _, _, _, _, _, rfl, _⟩ := h; rfl) | (obtain ⟨_, _, _, _, _, _, _, _, rfl, _⟩ := h; rfl) | (obtain ⟨_, _, _, _, _, _, _, _, _, rfl, _⟩ := h; rfl) | (obtain ⟨_, _, _, _, _, _, _, _, _, _, rfl, _⟩ := h; rfl) | (obtain ⟨_, _, _, _, _, _, _, _, _, _, _, rfl, _⟩ := h; rfl) | (obtain ⟨_, _, _, _, _, _, _, _, _, _, _, _, rfl, _⟩ := h; rfl) | (obtain ⟨_, _, _, _, _, _, _, _, _, _, _, _, _, rfl, _⟩ := h; rfl) | (obtain ⟨_, _, _, _, _, _, _, _, _, _, _, _, _, _, rfl, _⟩ := h; rfl) | (obtain ⟨_, _, _, _, _, _, _, _, _, _, _, _, _, _, _, rfl, _⟩ := h; rfl)
  · have T := D.T
    have nd := sc_clashes.nd
    have hu := hr.units
    have hu1 := hu_of hr
    have hu0 := hr.units0
    obtain ⟨b, c, rk, rk', es, es', fp, fp', rfl, W, W', hl, hl', TT, q⟩ := h
    refine ⟨_, pss_cons (ps_set (i := 2) nd rfl (.inr rfl) (pe_meth0 (pv 0) D.Z_Book.cl D.h_Book_ranks.me (ok_Book_ranks D) (hr.mono (by decide)) D.h_Book_ranks.bd .nil pass0))
      (pss_cons (ps_set (i := 3) nd rfl (.inr rfl) (pe_meth0 (pv 1) D.Z_Book.cl D.h_Book_ranks.me (ok_Book_ranks D) (hr.mono (by decide)) D.h_Book_ranks.bd .nil pass0))
      (pss_cons (ps_lock (ps_setLc (i := 4) (own := [("name", 6)]) (g := gName 6) rfl nd rfl rfl (sw_true rfl rfl rfl (by decide +kernel)) (pi_keys (pv 2)) (blkOk_by (N := ["one", "other", "ranks", "others", "told", "held", "name", "entry"]) (sc := defScope s_clashes) (by decide +kernel)) (fun _ _ _ _ _ => (pg_name (i := 6) nd rfl (Or.inl rfl))) (fun _ _ _ _ _ => pts_one (PW.pt (pw_and (pt_cmp (pc_din hu1 (pv 6) (pv 3))) (pw_and1 (pt_cmpR op_ne (pe_dget hu1 (pv 2) (pv 6) (fun _ _ => rfl)) (pe_dget hu1 (pv 3) (pv 6) (fun _ _ => rfl)) (nomark _)))))) (fun _ _ _ _ _ => (pe_tup (pa_cons pe_str (pa_cons (pv 6) pa_nil))))))
      (pss_cons (ps_set (i := 5) nd rfl (.inr rfl) (pe_dcP (own := [("entry", 7)]) (g := gName 7) (tt := tYes) hu1 rfl nd (pi_list (pe_meth0 (pv 0) D.Z_Book.cl D.me_Book_entries (ok_Book_entries D TB) (hr.mono (by decide)) D.lb_Book_entries .nil pass0)) (blkOk_by (N := ["one", "other", "ranks", "others", "told", "held", "name", "entry"]) (sc := defScope s_clashes) (by decide +kernel)) (fun _ _ _ _ _ => (pg_name (i := 7) nd rfl (Or.inl rfl))) (fun _ _ _ _ _ => pts_nil) (fun _ _ _ _ _ => (pe_slice (show SlR _ (rSlT K) from sl_tup) (pv 7) po_none (po_some pe_int))) (fun _ _ _ _ _ => (pe_ix (show IxR _ (rIxT K) from ix_tup) (pv 7) pe_int (fun _ _ => rfl)))))
      (pss_cons (ps_aug (i := 4) nd rfl (.inl rfl) (pe_lc (own := [("entry", 7)]) (g := gName 7) rfl nd (pi_list (pe_meth0 (pv 1) D.Z_Book.cl D.me_Book_entries (ok_Book_entries D TB) (hr.mono (by decide)) D.lb_Book_entries .nil pass0)) (blkOk_by (N := ["one", "other", "ranks", "others", "told", "held", "name", "entry"]) (sc := defScope s_clashes) (by decide +kernel)) (fun _ _ _ _ _ => (pg_name (i := 7) nd rfl (Or.inl rfl))) (fun _ _ _ _ _ => pts_one (PW.pt (pw_and (pt_cmp (pc_din hu1 (pe_slice (show SlR _ (rSlT K) from sl_tup) (pv 7) po_none (po_some pe_int)) (pv 5))) (pw_and1 (pt_cmpR op_ne (pe_dget hu1 (pv 5) (pe_slice (show SlR _ (rSlT K) from sl_tup) (pv 7) po_none (po_some pe_int)) (fun _ _ => rfl)) (pe_ix (show IxR _ (rIxT K) from ix_tup) (pv 7) pe_int (fun _ _ => rfl)) (nomark _)))))) (fun _ _ _ _ _ => (pe_slice (show SlR _ (rSlT K) from sl_tup) (pv 7) po_none (po_some pe_int)))) ip_cat)
      (pss_one (ps_ret (pe_callB (cr_sortedMx hr.units) (by rfl) T.sorted (by decide +kernel) (pa_cons (pv 4) pa_nil)))))))), ?_⟩
    obtain ⟨dxb, Rb, Mb, Lb, vb, ix⟩ := W.ix
    obtain ⟨dxc, Rc, Mc, Lc, vc, ix'⟩ := W'.ix
    have kr := W.ev.1
    refine ⟨_, rfl, b, dxb, _, rfl, ix, rfl, b, rk, es, fp, rfl, W, fun r1 H1 n1 er1 s1 => ?_⟩
    have W1' := W'.mono s1
    refine ⟨_, rfl, c, dxc, _, rfl, s1 _ _ ix', rfl, c, rk', es', fp', rfl, W1', fun r2 H2 n2 er2 s2 => ?_⟩
    have er12 := s2 _ _ er1
    have n12 : r2 ≠ r1 := fun e => by
      rw [e, er1] at n2
      cases n2
    refine ⟨r1, _, er12, trivial, fun od => ?_⟩
    have ef := upd_same (H := H2) (a := r1) (o := .frz od (.dK (sd rk)))
    have er2f : L2.upd H2 r1 (.frz od (.dK (sd rk))) r2 = some (.dK (sd rk')) := by rw [upd_ne n12]; exact er2
    refine ⟨_, rfl, r1, od, rfl, .inl ⟨_, ef, fun F nF => ?_⟩⟩
    have nF1 : F ≠ r1 := fun e => by rw [e, ef] at nF; cases nF
    refine lc_it (walk_enk (gk := Sum.inr) (f := V.int) (r := rk)) (fun i H' => Same (L2.upd H2 r1 (.frz od (.dK (sd rk)))) H' ∧ ∃ ts : List Addr, H' F = some (.lst (ts.map V.ref)) ∧ Paired (LT.TupIs H') ts (unlikeK (rk.take i) rk')) ⟨same_upd nF, [], upd_same, .nil⟩ (fun i H' _ ⟨s, _⟩ => s _ _ ef) ?_ ?_
    · rintro i x H3 H4 hi ⟨s3, ts, eF, hts⟩ ⟨rfl, p, hp, rfl⟩
      have g1 : DGet H4 r1 (.str p.1) (some (.int p.2)) := by
        have h := dget_frz (k := Sum.inr p.1) (s3 _ _ ef)
        rw [sd_val rk kr.nd (List.mem_of_getElem? hp)] at h
        exact h
      have g2 : DGet H4 r2 (.str p.1) ((getA rk' p.1).map V.int) := by
        have h := DGet.k (k := Sum.inr p.1) (s3 _ _ er2f)
        rw [show valV (sd rk') (Sum.inr p.1) = (getA rk' p.1).map V.int from val_en inr_inj p.1 rk'] at h
        exact h
      have ln : (ts.map V.ref).length < sizeLine := by
        rw [List.length_map, Paired.length hts]
        have h1 := unlikeK_le (rk.take i) rk'
        rw [List.length_take] at h1
        have := kr.ln
        exact small2k (by omega)
      rw [take_snoc hp, unlikeK_snoc]
      have stay : tstK rk' p = false → Paired (LT.TupIs H4) ts (unlikeK (rk.take i) rk' ++ if tstK rk' p = true then [[.str (Str.ofString "keeper"), .str p.1]] else []) := fun h => by
        rw [h, if_neg nofun, List.append_nil]
        exact hts
      cases hg : getA rk' p.1 with
      | none =>
        rw [hg] at g2
        exact ⟨rfl, _, rfl, _, rfl, r2, _, rfl, g2, _, rfl, iteF (iteF ⟨s3, ts, eF, stay (by unfold tstK; rw [hg])⟩)⟩
      | some v =>
        rw [hg] at g2
        refine ⟨rfl, _, rfl, _, rfl, r2, _, rfl, g2, _, rfl, iteT ⟨_, rfl, _, rfl, r1, _, rfl, g1, _, rfl, _, rfl, r2, _, rfl, g2, rfl, _, rfl, ?_⟩⟩
        by_cases hv : p.2 = v
        · rw [show decide (V.int p.2 = V.int v) = true from decide_eq_true (by rw [hv])]
          exact iteF ⟨s3, ts, eF, stay (by unfold tstK; rw [hg]; exact decide_eq_false (fun h => h hv))⟩
        · rw [show decide (V.int p.2 = V.int v) = false from decide_eq_false (fun h => hv (V.int.inj h))]
          refine iteT ⟨_, rfl, by show 2 ≤ sizeLine; decide, fun t nt => ?_⟩
          rw [show (kV (Sum.inr p.1) : V) = .str p.1 from rfl]
          have sT := same_upd (o := .tup [.str (Str.ofString "keeper"), .str p.1]) nt
          have et := upd_same (H := H4) (a := t) (o := .tup [.str (Str.ofString "keeper"), .str p.1])
          have nFt : F ≠ t := ne_of_none eF nt
          have s5 := s3.trans sT
          have eF5 := sT _ _ eF
          have hts5 : Paired (LT.TupIs (L2.upd H4 t (.tup [.str (Str.ofString "keeper"), .str p.1]))) ts (unlikeK (rk.take i) rk') := paired_imp (fun _ _ h => sT _ _ h) hts
          generalize L2.upd H4 t (.tup [.str (Str.ofString "keeper"), .str p.1]) = H5 at *
          refine ⟨_, eF5, ln, same_app nF s5, ts ++ [t], by rw [upd_same, List.map_append]; rfl, ?_⟩
          rw [if_pos (show tstK rk' p = true by unfold tstK; rw [hg]; exact decide_eq_true hv)]
          exact paired_snoc' (paired_imp (fun _ _ h => by
            show L2.upd H5 F _ _ = _
            rw [upd_ne (ne_of h eF5 (by intro z; cases z))]
            exact h) hts5) (by
            show L2.upd H5 F _ t = _
            rw [upd_ne (Ne.symm nFt)]
            exact et)
    · rintro H3 ⟨s3, ts, eF, hts⟩
      rw [List.take_length] at hts
      refine ⟨s3 _ _ ef, ?_⟩
      have s4 : Same H2 (L2.upd H3 r1 (.dK (sd rk))) := lock_back er12 s3
      have eF4 : L2.upd H3 r1 (.dK (sd rk)) F = some (.lst (ts.map V.ref)) := by rw [upd_ne nF1]; exact eF
      have hts4 : Paired (LT.TupIs (L2.upd H3 r1 (.dK (sd rk)))) ts (unlikeK rk rk') := paired_imp (fun t _ h => by
        show L2.upd H3 r1 _ t = _
        rw [upd_ne (ne_of h (s3 _ _ ef) (by intro z; cases z))]
        exact h) hts
      have nF2 : H2 F = none := by
        rw [upd_ne nF1] at nF
        exact nF
      generalize L2.upd H3 r1 (.dK (sd rk)) = H4 at *
      have s04 : Same H H4 := s1.trans (s2.trans s4)
      have hl1 : es.length ≤ 60 := hl
      refine ⟨_, rfl, b, dxb, _, rfl, s04 _ _ ix, rfl, b, rk, es, fp, rfl, W.mono s04, hl, TT.ext s04, fun l us L H5 nl5 x5 T5 el5 hus5 hL => ⟨l, rfl, ⟨_, SqL.of el5⟩, fun G nG => ?_⟩⟩
      obtain rfl := hL.uniq (entW_is es)
      have ll := entW_len es
      have ndL := (entW_is es).nd
      refine dcP_it (walk_list (K := K) (a := l) (xs := us.map V.ref)) (fun i H' => Same H5 H' ∧ H' G = some (.dT (enT (((entW es).take i).map fun e => (evK e, e.w))))) ⟨same_upd nG, upd_same⟩ (fun i H' _ ⟨s, _⟩ => SqL.of (s _ _ el5)) ?_ ?_
      · rintro i x H6 H7 hi ⟨s6, eG⟩ ⟨rfl, hx⟩
        obtain ⟨t, e, rfl, he, ht⟩ := pick_at hus5 hx
        have il := (List.getElem?_eq_some_iff.mp he).1
        have ht7 := s6 _ _ (show H5 t = some (.tup [.str (kindS e.mv), .int e.kn, .str e.who, .int e.day, e.w]) from ht)
        refine ⟨rfl, _, rfl, _, rfl, t, _, rfl, SqT.of ht7, by show ¬(HT.sIx 5 0 none = 0 ∧ HT.sIx 5 5 (some 4) = 5); decide, fun k nk => ?_⟩
        rw [show cutV [V.str (kindS e.mv), .int e.kn, .str e.who, .int e.day, e.w] none (some 4) = (kT (evK e)).map kV from rfl]
        have s8 := same_upd (o := .tup ((kT (evK e)).map kV)) nk
        have ek := upd_same (H := H7) (a := k) (o := .tup ((kT (evK e)).map kV))
        generalize L2.upd H7 k (.tup ((kT (evK e)).map kV)) = H8 at *
        have eG8 := s8 _ _ eG
        refine ⟨_, rfl, t, _, 4, _, rfl, rfl, SqT.of (s8 _ _ ht7), atI_nat (j := 4) rfl, ?_⟩
        refine ⟨_, .inr ⟨_, kT (evK e), k, eG8, rfl, ek, small2k (by unfold enT; rw [List.length_map, List.length_map, List.length_take]; omega), rfl⟩, same_put nG (s6.trans s8), ?_⟩
        rw [upd_same, put_enT, putA_new (entW_fresh es he), take_snoc he, List.map_append]
        rfl
      · rintro H6 ⟨s6, eG⟩
        rw [List.length_map, Paired.length hus5, List.take_length] at eG
        have x06 : ExtN H H6 := (ExtN.of s04).trans (x5.trans (ExtN.of s6))
        have ok' := W'.ev
        refine ⟨_, rfl, _, rfl, c, dxc, _, rfl, x06 _ _ ix' nofun, rfl, c, rk', es', fp', rfl, W'.extN x06, hl', T5.ext s6, fun l2 us2 L2 H7 nl7 x7 T7 el7 hus7 hL2 => ⟨l2, rfl, ⟨_, SqL.of el7⟩, fun G2 nG2 => ?_⟩⟩
        obtain rfl := hL2.uniq (entW_is es')
        have eG7 := x7 _ _ eG nofun
        have ll2 := entW_len es'
        refine lc_it (walk_list (K := K) (a := l2) (xs := us2.map V.ref)) (fun i H' => Same H7 H' ∧ ∃ vs : List Addr, H' G2 = some (.lst (vs.map V.ref)) ∧ Paired (LT.TupIs H') vs ((((entW es').take i).filter (tstE es)).map keyE4)) ⟨same_upd nG2, [], upd_same, .nil⟩ (fun i H' _ ⟨s, _⟩ => SqL.of (s _ _ el7)) ?_ ?_
        · rintro i x H8 H9 hi ⟨s8, vs, eG2, hvs⟩ ⟨rfl, hx⟩
          obtain ⟨t, e, rfl, he, ht⟩ := pick_at hus7 hx
          have il := (List.getElem?_eq_some_iff.mp he).1
          have ht9 := s8 _ _ (show H7 t = some (.tup [.str (kindS e.mv), .int e.kn, .str e.who, .int e.day, e.w]) from ht)
          have eG9 := s8 _ _ eG7
          have wok : WOK e.w := (evSt_of (fun z hz => by obtain ⟨p, hp, rfl⟩ := List.mem_map.mp hz; exact ok'.1.nm p hp) (ok'.2.2 e ((entW_is es').sub e (List.mem_of_getElem? he)))).w
          have ln : (vs.map V.ref).length < sizeLine := by
            rw [List.length_map, Paired.length hvs, List.length_map]
            have h1 := List.length_filter_le (tstE es) ((entW es').take i)
            rw [List.length_take] at h1
            exact small2k (by omega)
          rw [take_snoc he, unlikeE_snoc]
          refine ⟨rfl, _, rfl, _, rfl, t, _, rfl, SqT.of ht9, by show ¬(HT.sIx 5 0 none = 0 ∧ HT.sIx 5 5 (some 4) = 5); decide, fun k nk => ?_⟩
          rw [show cutV [V.str (kindS e.mv), .int e.kn, .str e.who, .int e.day, e.w] none (some 4) = (kT (evK e)).map kV from rfl]
          have s10 := same_upd (o := .tup ((kT (evK e)).map kV)) nk
          have ek := upd_same (H := H9) (a := k) (o := .tup ((kT (evK e)).map kV))
          have s7a := s8.trans s10
          have hvs10 : Paired (LT.TupIs (L2.upd H9 k (.tup ((kT (evK e)).map kV)))) vs ((((entW es').take i).filter (tstE es)).map keyE4) := paired_imp (fun _ _ h => s10 _ _ h) hvs
          have eG210 := s10 _ _ eG2
          have ht10 := s10 _ _ ht9
          have eG10 := s10 _ _ eG9
          generalize L2.upd H9 k (.tup ((kT (evK e)).map kV)) = H10 at *
          have dg : ∀ {k : Addr} {Hx : Hp}, Hx G = some (.dT (enT ((entW es).map fun e => (evK e, e.w)))) → Hx k = some (.tup ((kT (evK e)).map kV)) → DGet Hx G (.ref k) (entA es e.mv e.who e.day e.kn) := fun {k Hx} h1 h2 => by
            refine .inr ⟨_, kT (evK e), k, Rd.of h1, rfl, h2, ?_⟩
            rw [val_enT, getA_entW]
            rfl
          refine ⟨_, rfl, G, _, rfl, dg eG10 ek, _, rfl, ?_⟩
          have stay : ∀ {Hx : Hp}, Same H10 Hx → tstE es e = false → Same H7 Hx ∧ ∃ vs : List Addr, Hx G2 = some (.lst (vs.map V.ref)) ∧ Paired (LT.TupIs Hx) vs ((((entW es').take i).filter (tstE es)).map keyE4 ++ if tstE es e = true then [keyE4 e] else []) := fun {Hx} sx h => by
            rw [h, if_neg nofun, List.append_nil]
            exact ⟨s7a.trans sx, vs, sx _ _ eG210, paired_imp (fun _ _ h => sx _ _ h) hvs10⟩
          cases hA : entA es e.mv e.who e.day e.kn with
          | none =>
            exact iteF (iteF (stay (Same.refl _) (by unfold tstE; rw [hA])))
          | some w =>
            refine iteT ⟨_, rfl, _, rfl, _, rfl, t, _, rfl, SqT.of ht10, by show ¬(HT.sIx 5 0 none = 0 ∧ HT.sIx 5 5 (some 4) = 5); decide, fun k2 nk2 => ?_⟩
            rw [show cutV [V.str (kindS e.mv), .int e.kn, .str e.who, .int e.day, e.w] none (some 4) = (kT (evK e)).map kV from rfl]
            have s11 := same_upd (o := .tup ((kT (evK e)).map kV)) nk2
            have ek2 := upd_same (H := H10) (a := k2) (o := .tup ((kT (evK e)).map kV))
            generalize L2.upd H10 k2 (.tup ((kT (evK e)).map kV)) = H11 at *
            have dg2 := dg (s11 _ _ eG10) ek2
            rw [hA] at dg2
            refine ⟨G, _, rfl, dg2, _, rfl, t, _, 4, _, rfl, rfl, SqT.of (s11 _ _ ht10), atI_nat (j := 4) rfl, wok_scal (entA_wok kr W.ev.2.2 hA) wok, _, rfl, ?_⟩
            by_cases hw : w = e.w
            · rw [decide_eq_true hw]
              exact iteF (stay s11 (by unfold tstE; rw [hA]; exact decide_eq_false (fun h => h hw)))
            · rw [decide_eq_false hw]
              refine iteT ⟨_, rfl, _, rfl, t, _, rfl, SqT.of (s11 _ _ ht10), by show ¬(HT.sIx 5 0 none = 0 ∧ HT.sIx 5 5 (some 4) = 5); decide, fun k3 nk3 => ?_⟩
              rw [show cutV [V.str (kindS e.mv), .int e.kn, .str e.who, .int e.day, e.w] none (some 4) = keyE4 e from rfl]
              have s12 := same_upd (o := .tup (keyE4 e)) nk3
              have ek3 := upd_same (H := H11) (a := k3) (o := .tup (keyE4 e))
              have eG211 := s11 _ _ eG210
              have nG3 : G2 ≠ k3 := ne_of_none eG211 nk3
              have eG212 := s12 _ _ eG211
              have s7b := s7a.trans (s11.trans s12)
              have hvs12 : Paired (LT.TupIs (L2.upd H11 k3 (.tup (keyE4 e)))) vs ((((entW es').take i).filter (tstE es)).map keyE4) := paired_imp (fun _ _ h => s12 _ _ (s11 _ _ h)) hvs10
              generalize L2.upd H11 k3 (.tup (keyE4 e)) = H12 at *
              refine ⟨_, eG212, ln, same_app nG2 s7b, vs ++ [k3], by rw [upd_same, List.map_append]; rfl, ?_⟩
              rw [if_pos (show tstE es e = true by unfold tstE; rw [hA]; exact decide_eq_true hw)]
              exact paired_snoc' (paired_imp (fun _ _ h => by
                show L2.upd H12 G2 _ _ = _
                rw [upd_ne (ne_of h eG212 (by intro z; cases z))]
                exact h) hvs12) (by
                show L2.upd H12 G2 _ k3 = _
                rw [upd_ne (Ne.symm nG3)]
                exact ek3)
        · rintro H8 ⟨s8, vs, eG2, hvs⟩
          rw [List.length_map, Paired.length hus7, List.take_length] at hvs
          have eE : ((entW es').filter (tstE es)).map keyE4 = unlikeE es es' := rfl
          rw [eE] at hvs
          have x48 : ExtN H4 H8 := x5.trans ((ExtN.of s6).trans (x7.trans (ExtN.of s8)))
          have x08 : ExtN H H8 := (ExtN.of s04).trans x48
          have eF8 := x48 _ _ eF4 nofun
          have hts8 : Paired (LT.TupIs H8) ts (unlikeK rk rk') := paired_imp (fun _ _ h => x48 _ _ h (fun _ e => by cases e)) hts4
          have lnc : (ts.map V.ref).length + (vs.map V.ref).length ≤ 100 := by
            rw [List.length_map, List.length_map, Paired.length hts8, Paired.length hvs]
            have h1 := unlikeK_le rk rk'
            have h2 := List.length_filter_le (tstE es) (entW es')
            have h3 : (unlikeE es es').length = ((entW es').filter (tstE es)).length := by rw [← eE, List.length_map]
            have := kr.ln
            omega
          refine ⟨F, G2, _, _, rfl, rfl, eF8, eG2, by rw [sizeLine_eq]; omega, ?_⟩
          rw [← List.map_append]
          have eF9 := upd_same (H := H8) (a := F) (o := .lst ((ts ++ vs).map V.ref))
          have tp : ∀ (a : Addr) (xs : List V), LT.TupIs H8 a xs → LT.TupIs (L2.upd H8 F (.lst ((ts ++ vs).map V.ref))) a xs := fun a xs h => by
            show L2.upd H8 F _ a = _
            rw [upd_ne (ne_of h eF8 (by intro z; cases z))]
            exact h
          have hall : Paired (LT.TupIs (L2.upd H8 F (.lst ((ts ++ vs).map V.ref)))) (ts ++ vs) (unlikeK rk rk' ++ unlikeE es es') := paired_cat (paired_imp tp hts8) (paired_imp tp hvs)
          have nFH : NewN H F := newN_none ((s1.trans s2).free nF2)
          have x09 : ExtN H (L2.upd H8 F (.lst ((ts ++ vs).map V.ref))) := LT.ExtN.over x08 nFH
          have T9 : Tabs (TLs D) (L2.upd H8 F (.lst ((ts ++ vs).map V.ref))) := tabs_updG (T7.ext s8) eF8
          generalize L2.upd H8 F (.lst ((ts ++ vs).map V.ref)) = H9 at *
          have cls := clashes_cls rk rk' es es'
          have kk : ∀ v ∈ (ts ++ vs).map V.ref, ∃ t xs, v = .ref t ∧ LT.TupIs H9 t xs ∧ xs ∈ unlikeK rk rk' ++ unlikeE es es' := fun v hv => by
            obtain ⟨i, hi⟩ := List.getElem?_of_mem hv
            obtain ⟨t, xs, rfl, hx, ht⟩ := pick_at hall hi
            exact ⟨t, xs, rfl, ht, List.mem_of_getElem? hx⟩
          have emap : ((ts ++ vs).map V.ref).map (fun v => keyD (keyOfV H9 v)) = (unlikeK rk rk' ++ unlikeE es es').map keyD := by
            obtain ⟨l, h1, h2, h3⟩ := pairs_of hall
            rw [← h1, ← h2, List.map_map, List.map_map, List.map_map]
            refine List.map_congr_left fun p hp => ?_
            show keyD (keyOfV H9 (.ref p.1)) = keyD p.2
            rw [keyOf_is (h3 p hp)]
          refine ⟨_, rfl, F, _, keyOfV H9, rfl, SqL.of eF9, fun v hv => ?_, fun v hv y hy => ?_, ?_, ?_, ?_, fun o no => ?_⟩
          · obtain ⟨t, xs, rfl, ht, _⟩ := kk v hv
            exact ⟨t, rfl, by rw [keyOf_is ht]; exact ht⟩
          · obtain ⟨t, xs, rfl, ht, hm⟩ := kk v hv
            rw [keyOf_is ht] at hy
            exact (clsK_tp (cls xs hm)).2.2 y hy
          · rw [emap]
            intro d hd
            obtain ⟨xs, hm, rfl⟩ := List.mem_map.mp hd
            exact (clsK_tp (cls xs hm)).1
          · rw [emap]
            exact clsK_mix cls
          · rw [emap]
            intro d hd
            obtain ⟨xs, hm, rfl⟩ := List.mem_map.mp hd
            exact (clsK_tp (cls xs hm)).2.1
          · obtain ⟨ts', e', hts'⟩ := tup_sorted hall
            rw [e']
            have sO := same_upd (o := .lst (ts'.map V.ref)) no
            exact q o ts' _ (newN_of x09 no) (x09.trans (ExtN.of sO)) (T9.ext sO) upd_same (paired_imp (fun _ _ h => sO _ _ h) hts')
end
end K91
set_option Elab.async false
set_option linter.all false
set_option maxRecDepth 100000
set_option maxHeartbeats 1600000
set_option pp.maxSteps 300
namespace K91
open PySem PySem.Spec PyProof.Rows L2 LT NdefX LamX
section
variable {P : Program} {w : World} {K : PySem.W.Frag} {mg : Str → Option Value} {base : Heap}
def spCell91 (K : PySem.W.Frag) : Sp := fun vs H Q _ => ∃ (a : Addr) (ns : List Int) (k : Nat), vs = [.ref a, .int (k : Nat)] ∧ SqL K H a (ns.map V.int) ∧ (∀ z, Q (.int z) H)
theorem sc__law_cell : FnScope ["_law_script", "_law_k"] ["_law_script", "_law_k"] (defScope s__law_cell) := ⟨rfl, rfl, rfl, by decide +kernel, rfl, by decide +kernel, by decide +kernel⟩
theorem ok__law_cell (D : All K P mg) : FnOk P w K mg base CX0 1 D.f__law_cell D.d__law_cell ["_law_script", "_law_k"] (spCell91 K) := by
  refine D.h__law_cell.fn.ok sc__law_cell (fun vs H Q E h => ?_) (fun cdv A outer s H vs Q E hr h => ?_)
  · first | (obtain ⟨_, rfl, _⟩ := h; rfl) | (obtain ⟨_, _, rfl, _⟩ := h; rfl) | (obtain ⟨_, _, _, rfl, _⟩ := h; rfl) | (obtain ⟨_, _, _, _, rfl, _⟩ := h; rfl) | (obtain ⟨_, _, _, _, _, rfl, _⟩ := h; rfl) | (obtain ⟨_, _, _, _, _, _, rfl, _⟩ := h; rfl) | (obtain ⟨_, _, _, _, _, _, _, rfl, _⟩ := h; rfl) | (obtain ⟨_, _, _, _, _, _, _, _, rfl, _⟩ := h; rfl) | (obtain ⟨_, _, _, _, _, _, _, _, _, rfl, _⟩ := h; rfl) | (obtain ⟨_, _, _, _, _, _, _, _, _, _, rfl, _⟩ := h; rfl) | (obtain ⟨_, _, _, _, _, _, _, _, _, _, _, rfl, _⟩ := h; rfl) | (obtain ⟨_, _, _, _, _, _, _, _, _, _, _, _, rfl, _⟩ := h; rfl) | (obtain ⟨_, _, _, _, _, _, _, _, _, _, _, _, _, rfl, _⟩ := h; rfl) | (obtain ⟨_, _, _, _, _, _, _, _, _, _, _, _, _, _, rfl, _⟩ := h; rfl) | (obtain ⟨_, _, _, _, _, _, _, _, _, _, _, _, _, _, _, rfl, _⟩ := h; rfl)
  · have T := D.T
    have nd := sc__law_cell.nd
    have hu := hr.units
    have hu1 := hu_of hr
    have hu0 := hr.units0
    obtain ⟨a, ns, k, rfl, hS, q⟩ := h
    refine ⟨_, pss_one (ps_ret (pe_ifExp (pt_cmpR op_lt (pv 1) (pe_callB call_len_seq (by rfl) T.len PySem.boot_len (pa_cons (pv 0) pa_nil)) (nomark _)) (pe_ix ix_list (pv 0) (pv 1) (fun _ _ => rfl)) pe_int)), ?_⟩
    refine ⟨_, rfl, _, rfl, a, _, rfl, .inl hS, _, _, rfl, rfl, _, rfl, ite2 (fun hlt => ?_) (fun _ => q 0)⟩
    have hlt := of_decide_eq_true hlt
    rw [List.length_map] at hlt
    have hlt : k < ns.length := by omega
    exact ⟨_, rfl, _, rfl, a, _, (k : Nat), .int ns[k], rfl, rfl, hS, atI_nat (by rw [List.getElem?_map, List.getElem?_eq_getElem hlt]; rfl), q _⟩
theorem sc__law_take : FnScope ["_law_pot_here", "_law_room", "_law_digit"] ["_law_pot_here", "_law_room"] (defScope s__law_take) := ⟨rfl, rfl, rfl, by decide +kernel, rfl, by decide +kernel, by decide +kernel⟩
theorem ok__law_take (D : All K P mg) : FnOk P w K mg base CX0 1 D.f__law_take D.d__law_take ["_law_pot_here", "_law_room"] spTakeW := by
  refine D.h__law_take.fn.ok sc__law_take (fun vs H Q E h => ?_) (fun cdv A outer s H vs Q E hr h => ?_)
  · first | (obtain ⟨_, rfl, _⟩ := h; rfl) | (obtain ⟨_, _, rfl, _⟩ := h; rfl) | (obtain ⟨_, _, _, rfl, _⟩ := h; rfl) | (obtain ⟨_, _, _, _, rfl, _⟩ := h; rfl) | (obtain ⟨_, _, _, _, _, rfl, _⟩ := h; rfl) | (obtain ⟨_, _, _, _, _, _, rfl, _⟩ := h; rfl) | (obtain ⟨_, _, _, _, _, _, _, rfl, _⟩ := h; rfl) | (obtain ⟨_, _, _, _, _, _, _, _, rfl, _⟩ := h; rfl) | (obtain ⟨_, _, _, _, _, _, _, _, _, rfl, _⟩ := h; rfl) | (obtain ⟨_, _, _, _, _, _, _, _, _, _, rfl, _⟩ := h; rfl) | (obtain ⟨_, _, _, _, _, _, _, _, _, _, _, rfl, _⟩ := h; rfl) | (obtain ⟨_, _, _, _, _, _, _, _, _, _, _, _, rfl, _⟩ := h; rfl) | (obtain ⟨_, _, _, _, _, _, _, _, _, _, _, _, _, rfl, _⟩ := h; rfl) | (obtain ⟨_, _, _, _, _, _, _, _, _, _, _, _, _, _, rfl, _⟩ := h; rfl) | (obtain ⟨_, _, _, _, _, _, _, _, _, _, _, _, _, _, _, rfl, _⟩ := h; rfl)
  · have T := D.T
    have nd := sc__law_take.nd
    have hu := hr.units
    have hu1 := hu_of hr
    have hu0 := hr.units0
    obtain ⟨p, r, rfl, ⟨a, b, hp, a0, b0, bB⟩, r0, r1, q⟩ := h
    refine ⟨_, pss_cons (ps_if (pt_cmpR op_gt (pe_ix ix_list (pv 0) pe_int (fun _ _ => rfl)) pe_int (nomark _)) (pss_cons (ps_asg (pe_callB call_divmodW (by rfl) T.divmod (by decide +kernel) (pa_cons (pe_ix ix_list (pv 0) pe_int (fun _ _ => rfl)) (pa_cons (pv 1) pa_nil))) (pg_tup rfl (pgs_cons (pg_sub (pv 0) pe_int set_list) (pgs_cons (pg_name (i := 2) nd rfl (Or.inl rfl)) pgs_nil))))
      (pss_one (ps_ret (pv 2)))) pss_nil)
      (pss_cons (ps_asg (pe_op op_mod (pe_op op_add (pe_op op_mul (pe_ix ix_list (pv 0) pe_int (fun _ _ => rfl)) pe_int) pe_int) pe_int) (pg_sub (pv 0) pe_int set_list))
      (pss_one (ps_ret (pe_op op_mod (pe_op op_fdiv (pe_op op_mod (pe_op op_mul (pe_ix ix_list (pv 0) pe_int (fun _ _ => rfl)) (pe_ix ix_list (pv 0) pe_int (fun _ _ => rfl))) pe_int) pe_int) (pv 1))))), ?_⟩
    refine ⟨_, rfl, p, _, 0, _, rfl, rfl, SqL.of hp, atI_nat (j := 0) rfl, _, _, rfl, rfl, _, rfl, ite2 (fun h => ?_) (fun h => ?_)⟩
    · have ha : 0 < a := of_decide_eq_true h
      refine ⟨_, rfl, p, _, 0, _, rfl, rfl, SqL.of hp, atI_nat (j := 0) rfl, _, rfl, a, r, rfl, ⟨r0, nopy61 r0 r1⟩, fun t nt => ?_⟩
      have npt : p ≠ t := ne_of_none hp nt
      have hp2 : (upd H t (.tup [.int (a / r), .int (a % r)])) p = some (.lst [.int a, .int b]) := by
        rw [upd_ne npt]
        exact hp
      refine ⟨t, _, rfl, SqT.of upd_same, rfl, _, _, rfl, ?_⟩
      refine ⟨_, rfl, p, _, 0, 0, rfl, rfl, hp2, rfl, _, _, rfl, rfl, ?_⟩
      refine ⟨_, rfl, q _ _ (Int.emod_nonneg _ (by omega)) (Int.emod_lt_of_pos _ r0) ⟨_, _, upd_same, Int.ediv_nonneg a0 (by omega), b0, bB⟩ (SameB.upd (SameB.new nt (SameB.of (Same.refl H))))⟩
    · refine ⟨_, rfl, p, _, 1, _, rfl, rfl, SqL.of hp, atI_nat (j := 1) rfl, _, _, rfl, rfl, .inl ⟨by omega, by omega⟩, _, _, rfl, rfl, _, _, rfl, rfl, by show (0 : Int) < 2147483647; decide, ?_⟩
      refine ⟨_, rfl, p, _, 1, 1, rfl, rfl, hp, rfl, ?_⟩
      have n0 := Int.emod_nonneg (b * 48271 + 12347) (show (2147483647 : Int) ≠ 0 by decide)
      have n1 := Int.emod_lt_of_pos (b * 48271 + 12347) (show (0 : Int) < 2147483647 by decide)
      refine ⟨_, rfl, p, _, 1, _, rfl, rfl, SqL.of upd_same, atI_nat (j := 1) rfl, _, rfl, p, _, 1, _, rfl, rfl, SqL.of upd_same, atI_nat (j := 1) rfl, _, _, rfl, rfl, .inl ⟨by omega, by omega⟩, ?_⟩
      refine ⟨_, _, rfl, rfl, by show (0 : Int) < 2147483629; decide, _, _, rfl, rfl, ⟨by decide, by decide⟩, _, rfl, _, _, rfl, rfl, r0, ?_⟩
      exact q _ _ (Int.emod_nonneg _ (by omega)) (Int.emod_lt_of_pos _ r0) ⟨_, _, upd_same, a0, n0, by omega⟩ (SameB.upd (SameB.of (Same.refl H)))
theorem sc__law_pot : FnScope ["_law_script", "_law_k", "_law_cell_here"] ["_law_script", "_law_k"] (defScope s__law_pot) := ⟨rfl, rfl, rfl, by decide +kernel, rfl, by decide +kernel, by decide +kernel⟩
theorem ok__law_pot (D : All K P mg) : FnOk P w K mg base CX0 2 D.f__law_pot D.d__law_pot ["_law_script", "_law_k"] (spPot K) := by
  refine D.h__law_pot.fn.ok sc__law_pot (fun vs H Q E h => ?_) (fun cdv A outer s H vs Q E hr h => ?_)
  · first | (obtain ⟨_, rfl, _⟩ := h; rfl) | (obtain ⟨_, _, rfl, _⟩ := h; rfl) | (obtain ⟨_, _, _, rfl, _⟩ := h; rfl) | (obtain ⟨_, _, _, _, rfl, _⟩ := h; rfl) | (obtain ⟨_, _, _, _, _, rfl, _⟩ := h; rfl) | (obtain ⟨_, _, _, _, _, _, rfl, _⟩ := h; rfl) | (obtain ⟨_, _, _, _, _, _, _, rfl, _⟩ := h; rfl) | (obtain ⟨_, _, _, _, _, _, _, _, rfl, _⟩ := h; rfl) | (obtain ⟨_, _, _, _, _, _, _, _, _, rfl, _⟩ := h; rfl) | (obtain ⟨_, _, _, _, _, _, _, _, _, _, rfl, _⟩ := h; rfl) | (obtain ⟨_, _, _, _, _, _, _, _, _, _, _, rfl, _⟩ := h; rfl) | (obtain ⟨_, _, _, _, _, _, _, _, _, _, _, _, rfl, _⟩ := h; rfl) | (obtain ⟨_, _, _, _, _, _, _, _, _, _, _, _, _, rfl, _⟩ := h; rfl) | (obtain ⟨_, _, _, _, _, _, _, _, _, _, _, _, _, _, rfl, _⟩ := h; rfl) | (obtain ⟨_, _, _, _, _, _, _, _, _, _, _, _, _, _, _, rfl, _⟩ := h; rfl)
  · have T := D.T
    have nd := sc__law_pot.nd
    have hu := hr.units
    have hu1 := hu_of hr
    have hu0 := hr.units0
    obtain ⟨a, ns, k, rfl, hS, hk, q⟩ := h
    refine ⟨_, pss_cons (ps_set (i := 2) nd rfl (.inl rfl) (pe_callB call_abs (by rfl) T.abs (by decide +kernel) (pa_cons (pe_call (ok__law_cell D) (hr.mono (by decide)) (by rfl) D.h__law_cell.gl D.h__law_cell.fn.kp D.h__law_cell.bd .nil pass0 (pa_cons (pv 0) (pa_cons (pv 1) pa_nil))) pa_nil)))
      (pss_one (ps_ret (pe_lst (pa_cons (pe_callB (call_max2 rfl) (by rfl) T.max (by decide +kernel) (pa_cons pe_int (pa_cons (pe_op op_sub (pv 2) (pe_op op_pow pe_int pe_int)) pa_nil))) (pa_cons (pe_op op_mod (pe_op op_add (pe_op op_add (pe_op op_add (pe_op op_mul (pe_op op_mod (pv 2) pe_int) pe_int) (pe_op op_mul (pe_op op_mul pe_int (pv 1)) (pv 1))) (pe_op op_mul pe_int (pv 1))) pe_int) pe_int) pa_nil))))), ?_⟩
    refine ⟨_, rfl, _, rfl, a, ns, k, rfl, hS, fun z => ?_⟩
    refine ⟨z, rfl, ?_⟩
    generalize hA : (if z < 0 then -z else z) = za
    have za0 : 0 ≤ za := by rw [← hA]; split <;> omega
    have m0 := Int.emod_nonneg za (show (2147483563 : Int) ≠ 0 by decide)
    have m1 := Int.emod_lt_of_pos za (show (0 : Int) < 2147483563 by decide)
    refine ⟨_, rfl, _, _, rfl, rfl, ⟨by decide, by decide, by decide⟩, _, _, rfl, rfl, 0, _, rfl, ?_⟩
    refine ⟨_, rfl, _, _, rfl, rfl, by show (0 : Int) < 2147483563; decide, _, _, rfl, rfl, .inl ⟨by omega, by omega⟩, _, rfl, _, _, rfl, rfl, .inl ⟨by omega, by omega⟩, _, rfl, _, _, rfl, rfl, .inl ⟨by omega, by omega⟩, _, _, rfl, rfl, ?_⟩
    refine ⟨_, rfl, _, _, rfl, rfl, .inl ⟨by omega, by omega⟩, _, _, rfl, rfl, _, _, rfl, rfl, _, _, rfl, rfl, by show (0 : Int) < 2147483563; decide, by show 2 ≤ sizeLine; decide, fun l nl => ?_⟩
    refine q l _ nl (same_upd nl) ⟨_, _, upd_same, by split <;> omega, Int.emod_nonneg _ (by decide), ?_⟩
    have := Int.emod_lt_of_pos (za % 2147483563 * 40692 + 52774 * (k : Nat) * (k : Nat) + 7919 * (k : Nat) + 17) (show (0 : Int) < 2147483563 by decide)
    omega
theorem sc__law_far : FnScope ["_law_pot_here", "_law_number", "_law_k"] ["_law_pot_here"] (defScope s__law_far) := ⟨rfl, rfl, rfl, by decide +kernel, rfl, by decide +kernel, by decide +kernel⟩
theorem ok__law_far (D : All K P mg) : FnOk P w K mg base CX0 2 D.f__law_far D.d__law_far ["_law_pot_here"] spFarB := by
  refine D.h__law_far.fn.ok sc__law_far (fun vs H Q E h => ?_) (fun cdv A outer s H vs Q E hr h => ?_)
  · first | (obtain ⟨_, rfl, _⟩ := h; rfl) | (obtain ⟨_, _, rfl, _⟩ := h; rfl) | (obtain ⟨_, _, _, rfl, _⟩ := h; rfl) | (obtain ⟨_, _, _, _, rfl, _⟩ := h; rfl) | (obtain ⟨_, _, _, _, _, rfl, _⟩ := h; rfl) | (obtain ⟨_, _, _, _, _, _, rfl, _⟩ := h; rfl) | (obtain ⟨_, _, _, _, _, _, _, rfl, _⟩ := h; rfl) | (obtain ⟨_, _, _, _, _, _, _, _, rfl, _⟩ := h; rfl) | (obtain ⟨_, _, _, _, _, _, _, _, _, rfl, _⟩ := h; rfl) | (obtain ⟨_, _, _, _, _, _, _, _, _, _, rfl, _⟩ := h; rfl) | (obtain ⟨_, _, _, _, _, _, _, _, _, _, _, rfl, _⟩ := h; rfl) | (obtain ⟨_, _, _, _, _, _, _, _, _, _, _, _, rfl, _⟩ := h; rfl) | (obtain ⟨_, _, _, _, _, _, _, _, _, _, _, _, _, rfl, _⟩ := h; rfl) | (obtain ⟨_, _, _, _, _, _, _, _, _, _, _, _, _, _, rfl, _⟩ := h; rfl) | (obtain ⟨_, _, _, _, _, _, _, _, _, _, _, _, _, _, _, rfl, _⟩ := h; rfl)
  · have T := D.T
    have nd := sc__law_far.nd
    have hu := hr.units
    have hu1 := hu_of hr
    have hu0 := hr.units0
    obtain ⟨p, rfl, hp, q⟩ := h
    refine ⟨_, pss_cons (ps_if (pt_cmpR op_gt (pe_call (ok__law_take D) (hr.mono (by decide)) (by rfl) D.h__law_take.gl D.h__law_take.fn.kp D.h__law_take.bd .nil pass0 (pa_cons (pv 0) (pa_cons pe_int pa_nil))) pe_int (nomark _)) (pss_one (ps_ret pe_int)) pss_nil)
      (pss_cons (ps_set (i := 1) nd rfl (.inl rfl) pe_int)
      (pss_cons (ps_for PassesOwn.never rfl (pi_range1 (by rfl) T.range (pa_cons (pe_op op_add pe_int (pe_call (ok__law_take D) (hr.mono (by decide)) (by rfl) D.h__law_take.gl D.h__law_take.fn.kp D.h__law_take.bd .nil pass0 (pa_cons (pv 0) (pa_cons pe_int pa_nil)))) pa_nil)) (pg_name (i := 2) nd rfl (Or.inl rfl)) (pss_one (ps_set (i := 1) nd rfl (.inl rfl) (pe_op op_add (pe_op op_mul (pv 1) (pe_op op_pow pe_int pe_int)) (pe_call (ok__law_take D) (hr.mono (by decide)) (by rfl) D.h__law_take.gl D.h__law_take.fn.kp D.h__law_take.bd .nil pass0 (pa_cons (pv 0) (pa_cons (pe_op op_pow pe_int pe_int) pa_nil)))))))
      (pss_one (ps_ret (pv 1))))), ?_⟩
    refine ⟨_, rfl, p, 3, rfl, hp, by decide, by decide, fun d H1 d0 d1 hp1 s1 => ⟨_, _, rfl, rfl, _, rfl, ite2 (fun h => q 0 H1 (by decide) (by decide) hp1 s1) (fun h => ?_)⟩⟩
    refine ⟨_, rfl, p, 6, rfl, hp1, by decide, by decide, fun e1 H2 e0 e6 hp2 s2 => ⟨1, e1, rfl, rfl, 1 + e1, rfl, by omega, by omega, ?_⟩⟩
    have s02 := s1.trans s2
    refine for_range (lo := 0) (n := (1 + e1).toNat) (fun i σ H' => ∃ (m : Int) (x2 : Option V), σ = [some (.ref p), some (.int m), x2] ∧ 0 ≤ m ∧ m < 10 ^ (8 * i) ∧ Pot H' p ∧ SameB p H H') ⟨0, none, rfl, by decide, by decide, hp2, s02⟩ ?_ ?_
    · rintro i σ H3 hi ⟨m, x2, rfl, m0, m1, hp3, s3⟩
      refine ⟨_, rfl, _, _, rfl, rfl, ⟨by decide, by decide, by decide⟩, _, _, rfl, rfl, .inr ⟨by decide, by decide⟩, ?_⟩
      refine ⟨_, rfl, _, _, rfl, rfl, ⟨by decide, by decide, by decide⟩, p, _, rfl, hp3, by decide, by decide, fun e H4 e0 e1 hp4 s4 => ?_⟩
      have e1 : e < 100000000 := e1
      refine ⟨_, _, rfl, rfl, _, _, rfl, ?_, ?_, hp4, s3.trans s4⟩
      · show 0 ≤ m * 100000000 + e
        omega
      · show m * 100000000 + e < 10 ^ (8 * (i + 1))
        rw [Nat.mul_add, Int.pow_add]
        show m * 100000000 + e < 10 ^ (8 * i) * 100000000
        omega
    · rintro σ H3 ⟨m, x2, rfl, m0, m1, hp3, s3⟩
      have h6 : (1 + e1).toNat ≤ 6 := by omega
      have : (10 : Int) ^ (8 * (1 + e1).toNat) ≤ 10 ^ 54 := by
        generalize (1 + e1).toNat = n at h6
        have hn : n = 0 ∨ n = 1 ∨ n = 2 ∨ n = 3 ∨ n = 4 ∨ n = 5 ∨ n = 6 := by omega
        rcases hn with rfl | rfl | rfl | rfl | rfl | rfl | rfl <;> decide
      exact ⟨_, rfl, q m H3 m0 (by omega) hp3 s3⟩
def spWord91 : Sp := fun vs H Q _ => ∃ (p : Addr), vs = [.ref p] ∧ Pot H p ∧ ∀ (z : Str) (H' : Hp), Nm z → Pot H' p → SameB p H H' → Q (.str z) H'
theorem sc__law_word : FnScope ["_law_pot_here", "_law_letters", "_law_k"] ["_law_pot_here"] (defScope s__law_word) := ⟨rfl, rfl, rfl, by decide +kernel, rfl, by decide +kernel, by decide +kernel⟩
theorem ok__law_word (D : All K P mg) : FnOk P w K mg base CX0 2 D.f__law_word D.d__law_word ["_law_pot_here"] spWord91 := by
  refine D.h__law_word.fn.ok sc__law_word (fun vs H Q E h => ?_) (fun cdv A outer s H vs Q E hr h => ?_)
  · first | (obtain ⟨_, rfl, _⟩ := h; rfl) | (obtain ⟨_, _, rfl, _⟩ := h; rfl) | (obtain ⟨_, _, _, rfl, _⟩ := h; rfl) | (obtain ⟨_, _, _, _, rfl, _⟩ := h; rfl) | (obtain ⟨_, _, _, _, _, rfl, _⟩ := h; rfl) | (obtain ⟨_, _, _, _, _, _, rfl, _⟩ := h; rfl) | (obtain ⟨_, _, _, _, _, _, _, rfl, _⟩ := h; rfl) | (obtain ⟨_, _, _, _, _, _, _, _, rfl, _⟩ := h; rfl) | (obtain ⟨_, _, _, _, _, _, _, _, _, rfl, _⟩ := h; rfl) | (obtain ⟨_, _, _, _, _, _, _, _, _, _, rfl, _⟩ := h; rfl) | (obtain ⟨_, _, _, _, _, _, _, _, _, _, _, rfl, _⟩ := h; rfl) | (obtain ⟨_, _, _, _, _, _, _, _, _, _, _, _, rfl, _⟩ := h; rfl) | (obtain ⟨_, _, _, _, _, _, _, _, _, _, _, _, _, rfl, _⟩ := h; rfl) | (obtain ⟨_, _, _, _, _, _, _, _, _, _, _, _, _, _, rfl, _⟩ := h; rfl) | (obtain ⟨_, _, _, _, _, _, _, _, _, _, _, _, _, _, _, rfl, _⟩ := h; rfl)
  · have T := D.T
    have nd := sc__law_word.nd
    have hu := hr.units
    have hu1 := hu_of hr
    have hu0 := hr.units0
    obtain ⟨p, rfl, hp, q⟩ := h
    refine ⟨_, pss_cons (ps_set (i := 1) nd rfl (.inr rfl) pe_str)
      (pss_one (ps_ret (pe_join pe_str (pe_lc (own := [("_law_k", 2)]) (g := gName 2) (tt := tYes) rfl nd (pi_range1 (by rfl) T.range (pa_cons (pe_op op_add pe_int (pe_call (ok__law_take D) (hr.mono (by decide)) (by rfl) D.h__law_take.gl D.h__law_take.fn.kp D.h__law_take.bd .nil pass0 (pa_cons (pv 0) (pa_cons pe_int pa_nil)))) pa_nil)) (blkOk_by (N := ["_law_pot_here", "_law_letters", "_law_k"]) (sc := defScope s__law_word) (by decide +kernel)) (fun _ _ _ _ _ => (pg_name (i := 2) nd rfl (Or.inl rfl))) (fun _ _ _ _ _ => pts_nil) (fun _ _ _ _ _ => (pe_ix ix_str (pv 1) (pe_call (ok__law_take D) (hr.mono (by decide)) (by rfl) D.h__law_take.gl D.h__law_take.fn.kp D.h__law_take.bd .nil pass0 (pa_cons (pv 0) (pa_cons pe_int pa_nil))) (fun _ _ => rfl))))))), ?_⟩
    have le0 : (Str.ofString "").length = 0 := by decide +kernel
    refine ⟨⟨_, rfl⟩, _, rfl, p, 8, rfl, hp, by decide, by decide, fun d H3 d0 d1 hp3 s3 => ?_⟩
    refine ⟨1, d, rfl, rfl, 1 + d, rfl, by omega, by omega, fun F nF => ?_⟩
    have nFp := hp3.ne nF
    refine lc_range (lo := 0) (n := (1 + d).toNat) (fun i H' => Pot H' p ∧ SameB p H H' ∧ ∃ ys : List Str, ys.length = i ∧ (∀ y ∈ ys, y.length = 1 ∧ ∀ c ∈ y.cps.toList, small c = true) ∧ H' F = some (.lst (ys.map V.str)))
      ⟨hp3.upd nFp, SameB.new (s3.none hp3 nF) s3, [], rfl, fun y hy => absurd hy List.not_mem_nil, upd_same⟩ ?_ ?_
    · rintro j H4 hj ⟨hp4, s4, ys, hl, hy, eF⟩
      refine ⟨rfl, ?_⟩
      refine ⟨_, rfl, _, rfl, p, 26, rfl, hp4, by decide, by decide, fun e H5 e0 e1 hp5 s5 => ?_⟩
      obtain ⟨c, hc, lc, _⟩ := at_small26 e0 e1
      have eF5 := s5 F _ nFp eF
      refine ⟨_, e, c, rfl, rfl, by decide +kernel, hc, _, eF5, ?_, hp5.upd nFp, SameB.new (s3.none hp3 nF) (s4.trans s5), ys ++ [⟨#[c]⟩], ?_, ?_, ?_⟩
      · rw [List.length_map, hl]
        exact small2k (by omega)
      · rw [List.length_append, hl]
        rfl
      · intro y hm
        rcases List.mem_append.mp hm with h | h
        · exact hy y h
        · obtain rfl := List.mem_singleton.mp h
          refine ⟨rfl, fun x hx => ?_⟩
          obtain rfl : x = c := by simpa using hx
          exact lc
      · rw [upd_same, List.map_append]
        rfl
    · rintro H4 ⟨hp4, s4, ys, hl, hy, eF⟩
      have h1 : ∀ y ∈ ys, y.length = 1 := fun y h => (hy y h).1
      have ec := join_codes ys
      have el : (Txt.join (Str.ofString "") ys).length = (1 + d).toNat := by
        show (Txt.join (Str.ofString "") ys).cps.size = _
        rw [← Array.length_toList, ec, flat_len ys h1, hl]
      have hnm : Nm (Txt.join (Str.ofString "") ys) := by
        refine ⟨by omega, by omega, fun c hc => ?_⟩
        rw [ec] at hc
        obtain ⟨l, h2, h3⟩ := List.mem_flatten.mp hc
        obtain ⟨y, h4, rfl⟩ := List.mem_map.mp h2
        exact (hy y h4).2 c h3
      refine ⟨_, F, ys, rfl, rfl, .inl (SqL.of eF), ?_, ?_⟩
      · rw [sum_len ys h1, hl, le0]
        omega
      exact q _ H4 hnm hp4 s4
end
end K91
set_option Elab.async false
set_option linter.all false
set_option maxRecDepth 100000
set_option maxHeartbeats 1600000
/-! Own layer: sorted(d, key=lambda x: a whole number) of a dict whose keys are tuples. -/
namespace LT
open PySem PySem.Spec PyProof.Rows L2 LamX
def tSortLamD (K : PySem.W.Frag) (T : List (Addr × Str)) (ta : TA) (tb : TE) : TE := fun σ H Q => ta σ H (oneOf fun z H1 => Tabs T H1 ∧ ∃ (q : Addr) (kvs : List (List Key × V)), z = .ref q ∧ H1 q = some (.dT kvs) ∧
    ∀ H2, ExtN H1 H2 → Tabs T H2 → ∀ bs, IsKeys H2 kvs bs → ∃ k : V → Int, (∀ v ∈ bs.map V.ref, ∀ Q' : VK, Q' (.int (k v)) H2 → tb (some v :: σ) H2 Q') ∧ ∀ l, H2 l = none → Q (.ref l) (upd H2 l (.lst ((bs.map V.ref).mergeSort fun a b => decide (k a ≤ k b)))))
section
variable {X : Cx}
/-- sorted(e, key=lambda x: body), e a dict -/
theorem pe_sortedLamD {T : List (Addr × Str)} {c P : Addr} {x : Str} {k : Nat} {params : Arguments} {body e : Expr} {scope : Scope} {ta : TA} {tb : TE} {p lpos kpos pos : Pos} (hg : Gl X "sorted") (hm : X.mg "sorted" = none) (ha : PA X [e] ta)
    (hcalm : X.calm = true)
    (hst : X.stack = X.env :: X.outer) (hfr : X.env.frame = some X.env.locals) (TB : TabB X.base X.mg c P) (hcode : X.env.code = .ref c) (hmT : (P, X.env.qual ++ "<lambda>") ∈ T) (hu : ∀ p ∈ T, p.1 = P → p.2 = X.env.qual ++ "<lambda>")
    (L : LamP X.env.scope scope x) (hx : x ∉ X.N) (hdef : defaultsOf params X.env = ([], [])) (hbind : ∀ (q : Str) (cl : List (Str × Addr)) (pm cv ctv u : Value), bindArgs (PySem.W.kla_fn "<lambda>" q params body scope cl pm cv ctv) ⟨[u], []⟩ = pure [(x, u)]) (hr : Room (k + 3) X.A)
    (hbody : ∀ (A : Around) (outer : List Env) (s : Shared) (H : Hp) (f c' : Addr), Room k (A.deeper (lamEnv X scope s.heap.objs.size f c')) → PE (lamCxP noX X A outer s H noE scope f c' x) body tb)
    (hv : bootBuiltins "sorted" = some (.builtin "sorted"))
    (he : backTo pos (starEach [e] X.env) = (false, eval e X.env) :: backTo pos (starEach [] X.env) := by rfl) (hpl : (backTo pos (starEach [e] X.env)).any (·.1) = false := by rfl)  :
    PE X (.Call (.Name "sorted" p) [e] [⟨some "key", .Lambda params body scope lpos, kpos⟩] pos) (tSortLamD X.K T ta tb) := by
  refine ⟨fun pins s σ H Q I h => ?_⟩
  refine wpAny_Call_Name_kw (ld_blt I hg hm hv ?_)
  refine PyProof.Rows.callWith_kw (thn (ha.run pos pins s σ H (oneOf fun z H1 => Tabs T H1 ∧ ∃ (q : Addr) (kvs : List (List Key × V)), z = .ref q ∧ H1 q = some (.dT kvs) ∧
    ∀ H2, ExtN H1 H2 → Tabs T H2 → ∀ bs, IsKeys H2 kvs bs → ∃ k : V → Int, (∀ v ∈ bs.map V.ref, ∀ Q' : VK, Q' (.int (k v)) H2 → tb (some v :: σ) H2 Q') ∧ ∀ l, H2 l = none → Q (.ref l) (upd H2 l (.lst ((bs.map V.ref).mergeSort fun a b => decide (k a ≤ k b))))) I h) fun us s1 ⟨vs, H1, I1, r1, q1⟩ => ?_) he hpl (by rfl) (by rfl)
  match vs, q1 with
  | [z], q1 =>
  have q1 : Tabs T H1 ∧ ∃ (q : Addr) (kvs : List (List Key × V)), z = .ref q ∧ H1 q = some (.dT kvs) ∧
    ∀ H2, ExtN H1 H2 → Tabs T H2 → ∀ bs, IsKeys H2 kvs bs → ∃ k : V → Int, (∀ v ∈ bs.map V.ref, ∀ Q' : VK, Q' (.int (k v)) H2 → tb (some v :: σ) H2 Q') ∧ ∀ l, H2 l = none → Q (.ref l) (upd H2 l (.lst ((bs.map V.ref).mergeSort fun a b => decide (k a ≤ k b)))) := q1
  show wpAny _ _ (evalAll ((do let v ← eval (.Lambda params body scope lpos) X.env; standAt pos; pure v) :: (backToKw pos (keywordEach [] X.env)).map (·.2))) _ _ s1
  obtain ⟨hT, q, kvs, rfl, hq, h2⟩ := q1
  refine wpAny_evalAll_cons (wpAny_bind (lam_make2 I1 TB hcode hmT hu hT hdef (L.has I1.ok) fun f c' pm ctv H2 s2 I2 eN T2 hf hfn hfs hco => wpAny_bind (wpAny_standAt (wpAny_pure ?_))))
  refine wpAny_evalAll_nil ?_
  have hd2 : H2 q = some (.dT kvs) := eN _ _ hq nofun
  obtain ⟨n1, n2⟩ := stk_free hst hfr hfs
  have I3 : Inv X ((f, PySem.W.kla_obj "<lambda>" (X.env.qual ++ "<lambda>") params body scope (cloFrom X.env.cells scope.names []) pm c' ctv) :: pins) σ H2 s2 := I2.pins_of fun p hp => by
    rcases List.mem_cons.mp hp with rfl | hp
    · exact ⟨hf, hfn, n1, n2, fun v z => nomatch z⟩
    · exact I2.pin p (List.mem_append_right _ hp)
  cases r1 with
  | cons r1 r0 =>
    cases r0
    cases r1
    show wpAny (model X.prog X.w) X.A (call (.builtin "sorted") [.ref q] [(Str.ofString "key", .ref f)]) _ _ s2
    obtain ⟨z, hs, ks, pr, o, es, ep, ho, hx', hdt, he', hn⟩ := (show ObjOk X.prog X.w H2 s2.heap q (.dT kvs) from (Rd.of hd2).ok I2.hok)
    have l1 : es.size = ks.length := size_of_entries he'
    have l2 : kvs.length = ks.length := Paired.length pr
    refine call_function_entry_kw kind_sorted plain_sorted entry_sorted (ksk_s1 _ _) ?_
    unfold Builtin.«sorted»
    refine wpAny_bind (m := checkCount "sorted" 1 1 _) (wpAny_pure ?_)
    refine wpAny_bind (PySem.W.kdu_collect (A := X.A.in1) (kdl_raw hs hx' hdt) (I2.ok.hd hcalm) ho (by omega) fun h' tk acc hk it => ?_)
    have ea : acc.toList = ks.map fun x => Value.ref x.2.1 := by
      have hl : acc.toList.length = ks.length := by rw [Array.length_toList, it.1]; exact l1
      apply List.ext_getElem?
      intro j
      rw [List.getElem?_map]
      cases hj : acc.toList[j]? with
      | none =>
        have h1 := List.getElem?_eq_none_iff.mp hj
        rw [List.getElem?_eq_none (by omega)]
        all_goals rfl
      | some v =>
        obtain ⟨en, hen, hv⟩ := it.2 j v (by rw [← Array.getElem?_toList]; exact hj)
        have qe := entry_at he' j
        rw [hen] at qe
        cases hb : ks[j]? with
        | none =>
          rw [hb] at qe
          exact nomatch (show some en = none from qe)
        | some b =>
          rw [hb] at qe
          have e2 : en = entryOfKey (tupleKind (mixKind X.prog X.w)) b := Option.some.inj qe
          rw [hv, e2]
          all_goals rfl
    have hkeys := isKeys_of pr
    obtain ⟨bs, ebs⟩ : ∃ bs : List Addr, bs = ks.map fun x => x.2.1 := ⟨_, rfl⟩
    rw [← ebs] at hkeys
    have eb : acc.toList = bs.map Value.ref := by rw [ea, ebs, List.map_map]; all_goals rfl
    have bl : bs.length = kvs.length := by rw [ebs, List.length_map]; omega
    obtain ⟨kf, hb, hQ⟩ := h2 H2 eN T2 bs hkeys
    refine wpAny_bind (wpAny_newList ?_ (by rw [Array.length_toList, it.1, l1]; omega))
    have I4 : Inv X ((f, PySem.W.kla_obj "<lambda>" (X.env.qual ++ "<lambda>") params body scope (cloFrom X.env.cells scope.names []) pm c' ctv) :: pins) σ H2 { s2 with heap := h', toks := tk } := I3.kept hk
    have hvs : Vals (bs.map V.ref) acc.toList := by
      rw [eb]
      clear eb ebs hkeys bl hb hQ
      induction bs with
      | nil => exact .nil
      | cons b bs ih => exact .cons rfl ih
    refine wpAny_bind (wpAny_holding (wpAny_call_entry_kw slot_list_sort ⟨_, Heap.get?_push_size _ rfl, rfl⟩ entry_list_sort ?body (ksk_l1 _ _)))
    case body =>
      rw [ksk_t1]
      have hr2 : Room (k + 1) X.A.in1.in1 := hr.in1.in1
      refine wpAny_mono (sort_keyed (k := kf) (R := fun f s' => f = .done (.ret .none) ∧ ∃ H', Inv X pins σ H' s' ∧ Q (.ref h'.objs.size) H') I4 hvs (by rw [Array.length_toList, it.1, l1]; omega) hr2.units0 (fun pins' s' v u hp J hv r => ?_) fun s' hn J => ⟨rfl, _, J.pins_of fun p hp => J.pin p (List.mem_append_right _ (.tail _ hp)), hQ _ hn⟩) (fun f s' hf => ?_) fun _ _ e => e
      · have hf' := (J.pin _ (List.mem_append_right _ (hp _ (.head _)))).1
        refine wpAny_call (codeAny_mono (lam_run (CX := noX) (E := noE) (Q := fun z H' => z = .int (kf v) ∧ H' = H2) (k := k) J L hx (in1_env0 J) Un.refl hf' hco (hbind _ _ _ _ _ _) r hr2 (fun hr3 => hbody _ _ _ _ _ _ hr3) (hb v hv _ ⟨rfl, rfl⟩)) fun res s'' hq => ?_)
        match res, hq with
        | .error _, hq => exact hq.elim
        | .ok .next, hq => exact hq.elim
        | .ok .brk, hq => exact hq.elim
        | .ok .cont, hq => exact hq.elim
        | .ok (.ret z), hq =>
          obtain ⟨z', H', J', rz, rfl, rfl⟩ := J.after hq
          obtain ⟨t, rfl⟩ := rz
          exact ⟨t, rfl, J'⟩
      · obtain ⟨rfl, H', J', qq⟩ := hf
        exact ⟨_, rfl, wpAny_pure ⟨_, rfl, .ref h'.objs.size, H', J', rfl, qq⟩⟩
end
end LT
set_option Elab.async false
set_option linter.all false
set_option maxRecDepth 100000
set_option maxHeartbeats 1600000
/-! Own layer: what a law's dict of entries has in common with its book; clashes found by going over one dict. -/
namespace LT
open PySem PySem.Spec PyProof.Rows L2 NdefX LamX
/-! ### how worths show: unlike ones otherwise -/
theorem cps_eq {a b : Str} (h : a = b) : a.cps.toList = b.cps.toList := by rw [h]
theorem small_char {c : Nat} (h : small c = true) : Builtin.Str.reprChar 39 c = [c] := by
  have all : ∀ c ∈ List.range' 97 26, Builtin.Str.reprChar 39 c = [c] := by decide +kernel
  unfold small at h
  rw [Bool.and_eq_true, decide_eq_true_iff, decide_eq_true_iff] at h
  exact all c (List.mem_range'_1.mpr ⟨h.1, by omega⟩)
theorem foldl_small : ∀ (l : List Nat) (acc : Array Nat), (∀ c ∈ l, small c = true) → (l.foldl (fun out c => out ++ (Builtin.Str.reprChar 39 c).toArray) acc).toList = acc.toList ++ l
  | [], acc, _ => by simp
  | c :: r, acc, h => by
    rw [List.foldl_cons, small_char (h c List.mem_cons_self), foldl_small r _ fun d hd => h d (List.mem_cons_of_mem _ hd)]
    simp
theorem reprText_small {z : Str} (h : ∀ c ∈ z.cps.toList, small c = true) : (reprText z).cps.toList = 39 :: (z.cps.toList ++ [39]) := by
  have q : reprQuote z = 39 := by
    unfold reprQuote
    have : z.cps.contains 39 = false := by
      rw [Bool.eq_false_iff]
      intro h2
      rw [Array.contains_iff_mem] at h2
      have := h 39 (Array.mem_toList_iff.mpr h2)
      exact absurd this (by decide)
    rw [this]
    rfl
  unfold reprText
  rw [q]
  show (Array.push (z.cps.foldl (fun out c => out ++ (Builtin.Str.reprChar 39 c).toArray) #[39]) 39).toList = _
  rw [Array.toList_push, ← Array.foldl_toList, foldl_small _ _ h]
  rfl
theorem pl_small {z : Str} (h : Pl z) : ∀ c ∈ z.cps.toList, small c = true := by
  rcases h with rfl | h
  · intro c hc
    rw [show (Str.ofString "").cps.toList = [] by decide +kernel] at hc
    cases hc
  · exact h.al
theorem num_inj {m n : Nat} (h : Str.ofString (toString ((m : Nat) : Int)) = Str.ofString (toString ((n : Nat) : Int))) : m = n := by
  have h := cps_eq h
  rw [PySem.W.KIN.signs_num, PySem.W.KIN.signs_num] at h
  have h2 : Nat.toDigits 10 m = Nat.toDigits 10 n := (List.map_inj_right (fun a b e => Char.ext (UInt32.toNat_inj.mp e))).mp h
  rw [← Nat.ofDigitChars_toDigits (b := 10) (n := m) (by decide) (by decide), h2, Nat.ofDigitChars_toDigits (by decide) (by decide)]
/-- a worth as it is told -/
def WkOK (mv : Bool) (w : V) : Prop := if mv = true then (w = .non ∨ ∃ z, w = .str z ∧ Pl z) else ∃ n : Int, w = .int n ∧ 0 ≤ n ∧ n < 10 ^ 57
theorem EvOK.wk {rk : List (Str × Int)} {e : Evt} (h : EvOK rk e) : WkOK e.mv e.w := by
  unfold WkOK
  split
  · exact (h.mw ‹_›).2
  · exact (h.lw (bool_false ‹_›)).2
theorem wk_inj {mv : Bool} {w w' : V} (h : WkOK mv w) (h' : WkOK mv w') (e : (wD w).shown = (wD w').shown) : w = w' := by
  unfold WkOK at h h'
  cases mv with
  | true =>
    rw [if_pos rfl] at h h'
    have non : ∀ {z : Str}, Pl z → (PyData.none).shown ≠ (PyData.str z).shown := fun {z} hz e => by
      have e := cps_eq e
      simp only [PyData.shown] at e
      rw [reprText_small (pl_small hz)] at e
      have e2 := congrArg List.head? e
      rw [show (Str.ofString "None").cps.toList.head? = some 78 by decide +kernel] at e2
      cases e2
    rcases h with rfl | ⟨z, rfl, hz⟩ <;> rcases h' with rfl | ⟨y, rfl, hy⟩
    · rfl
    · exact absurd e (non hy)
    · exact absurd e.symm (non hz)
    · have e := cps_eq e
      simp only [wD, PyData.shown] at e
      rw [reprText_small (pl_small hz), reprText_small (pl_small hy)] at e
      injection e with _ e
      have e := List.append_cancel_right e
      rw [str_eq e]
  | false =>
    rw [if_neg nofun] at h h'
    obtain ⟨n, rfl, n0, _⟩ := h
    obtain ⟨m, rfl, m0, _⟩ := h'
    obtain ⟨n, rfl⟩ := Int.eq_ofNat_of_zero_le n0
    obtain ⟨m, rfl⟩ := Int.eq_ofNat_of_zero_le m0
    simp only [wD, PyData.shown] at e
    rw [num_inj e]
theorem wk_show {mv : Bool} {w : V} (h : WkOK mv w) : (wD w).showable = true ∧ (wD w).hasDict = false ∧ (wD w).depth ≤ 1 ∧ (wD w).shown.length ≤ 210 := by
  unfold WkOK at h
  split at h
  · rcases h with h2 | ⟨z, h2, hz⟩
    · rw [h2]
      exact ⟨by simp [wD, PyData.showable], by simp [wD, PyData.hasDict], by simp [wD, PyData.depth], by simp only [wD, PyData.shown]; decide +kernel⟩
    · rw [h2]
      have := pl_repr hz
      exact ⟨by simp [wD, PyData.showable], by simp [wD, PyData.hasDict], by simp [wD, PyData.depth], by simp only [wD, PyData.shown]; omega⟩
  · obtain ⟨n, h2, n0, n1⟩ := h
    rw [h2]
    have hb : n.natAbs ≤ 10 ^ 61 := by omega
    have := tlen61 hb
    exact ⟨by simp only [wD, PyData.showable]; exact decide_eq_true (lg61 hb), by simp [wD, PyData.hasDict], by simp [wD, PyData.depth], by simp only [wD, PyData.shown]; omega⟩
theorem wk_wok {mv : Bool} {w : V} (h : WkOK mv w) : WOK w := by
  unfold WkOK at h
  split at h
  · rcases h with h | ⟨z, h, hz⟩
    · exact .inl h
    · refine .inr (.inr ⟨z, h, ?_⟩)
      rcases hz with rfl | hz
      · decide +kernel
      · exact nm_strOk hz
  · obtain ⟨n, h, _⟩ := h
    exact .inr (.inl ⟨n, h⟩)
/-! ### keys -/
def keyK (k : EvK) : List V := (kT k).map kV
theorem keyK_inj {a b : EvK} (h : keyK a = keyK b) : a = b := by
  refine kT_inj ?_
  unfold keyK at h
  refine (List.map_inj_right (fun x y e => ?_)).mp h
  cases x <;> cases y <;> simp only [kV] at e
  · rw [V.int.inj e]
  · cases e
  · cases e
  · rw [V.str.inj e]
theorem tellD_of_nd : ∀ L : List Evt, (L.map evK).Nodup → tellD L = L.map fun e => (evK e, e.w) := by
  refine snoc_ind (fun _ => rfl) fun L e ih h => ?_
  rw [List.map_append, List.nodup_append] at h
  rw [tellD_snoc, ih h.1, putA_new, List.map_append]
  · rfl
  · refine getA_none_iff.mpr fun hk => ?_
    rw [List.map_map] at hk
    exact h.2.2 (evK e) hk (evK e) List.mem_cons_self rfl
structure RelT (t : List (EvK × V)) (es : List Evt) : Prop where
  nd : (t.map (·.1)).Nodup
  ev : ∀ k : EvK, getA t k = entA es k.1 k.2.2.1 k.2.2.2 k.2.1
theorem getA_perm {α β : Type} [DecidableEq α] {t t' : List (α × β)} (nd : (t.map (·.1)).Nodup) (p : t.Perm t') (k : α) : getA t k = getA t' k := by
  have nd' : (t'.map (·.1)).Nodup := (p.map _).nodup_iff.mp nd
  cases h : getA t k with
  | some v => exact (getA_of_mem nd' (p.mem_iff.mp (getA_mem h))).symm
  | none =>
    refine (getA_none_iff.mpr fun hk => ?_).symm
    exact getA_none_iff.mp h ((p.map _).mem_iff.mpr hk)
theorem relT_made {t : List (EvK × V)} (nd : (t.map (·.1)).Nodup) {es : List Evt} (p : es.Perm (t.map evOfK)) : RelT t es := by
  refine ⟨nd, fun k => ?_⟩
  have e : (t.map evOfK).map evK = t.map (·.1) := by rw [List.map_map]; rfl
  have n1 : (es.map evK).Nodup := by
    rw [(p.map evK).nodup_iff, e]
    exact nd
  have e2 : (t.map evOfK).map (fun e => (evK e, e.w)) = t := by
    rw [List.map_map]
    exact List.map_id _
  have p2 : (es.map fun e => (evK e, e.w)).Perm t := by
    have := p.map fun e => (evK e, e.w)
    rw [e2] at this
    exact this
  have n2 : ((es.map fun e => (evK e, e.w)).map (·.1)).Nodup := by
    rw [List.map_map]
    exact n1
  rw [← tellD_val, tellD_of_nd es n1]
  exact (getA_perm n2 p2 k).symm
theorem RelT.put {t : List (EvK × V)} {es : List Evt} (r : RelT t es) (e : Evt) : RelT (putA t (evK e) e.w) (es ++ [e]) := by
  refine ⟨nodup_put r.nd, fun k => ?_⟩
  rw [getA_put, entA_snoc, r.ev k]
theorem RelT.entW {t : List (EvK × V)} {es : List Evt} (r : RelT t es) : entW es = (t.map evOfK).mergeSort evLe := by
  refine (entW_is es).uniq (ents_of ?_ fun e => ?_)
  · rw [List.pairwise_map]
    have : t.Pairwise fun a b => a.1 ≠ b.1 := List.pairwise_map.mp r.nd
    refine this.imp fun {a b} h s => h ?_
    obtain ⟨h1, h2, h3, h4⟩ := s
    obtain ⟨⟨a1, a2, a3, a4⟩, a5⟩ := a
    obtain ⟨⟨b1, b2, b3, b4⟩, b5⟩ := b
    simp only [evOfK] at h1 h2 h3 h4
    simp only [h1, h2, h3, h4]
  · rw [show entA es e.mv e.who e.day e.kn = getA t (evK e) from (r.ev (evK e)).symm]
    constructor
    · intro h
      obtain ⟨p, hp, rfl⟩ := List.mem_map.mp h
      exact getA_of_mem r.nd hp
    · intro h
      exact List.mem_map.mpr ⟨_, getA_mem h, rfl⟩
/-! ### clashes found by a law -/
def tstT (t' : List (EvK × V)) (p : EvK × V) : Bool := match getA t' p.1 with
  | none => false
  | some w => decide (p.2 ≠ w)
def dueE (t t' : List (EvK × V)) : List (List V) := (t.filter (tstT t')).map fun p => keyK p.1
theorem dueE_snoc (l t' : List (EvK × V)) (p : EvK × V) : ((l ++ [p]).filter (tstT t')).map (fun p => keyK p.1) = (l.filter (tstT t')).map (fun p => keyK p.1) ++ if tstT t' p = true then [keyK p.1] else [] := by
  rw [List.filter_append, List.map_append]
  congr 1
  cases h : tstT t' p <;> simp [h]
def dueW (rk rk' : List (Str × Int)) (t t' : List (EvK × V)) : List (List V) := (unlikeK rk rk' ++ dueE t t').mergeSort (PySem.W.dataLe false keyD)
theorem nodup_mapI {α β : Type} {f : α → β} {l : List α} (h : l.Nodup) (i : ∀ a b, f a = f b → a = b) : (l.map f).Nodup := List.pairwise_map.mpr (h.imp fun n e => n (i _ _ e))
theorem dueE_nd {t t' : List (EvK × V)} (nd : (t.map (·.1)).Nodup) : (dueE t t').Nodup := by
  unfold dueE
  rw [show (t.filter (tstT t')).map (fun p => keyK p.1) = ((t.filter (tstT t')).map (·.1)).map keyK by rw [List.map_map]; rfl]
  exact nodup_mapI (List.Sublist.nodup (List.Sublist.map _ List.filter_sublist) nd) fun a b => keyK_inj
theorem dueE_mem {t t' : List (EvK × V)} (nd : (t.map (·.1)).Nodup) {x : List V} : x ∈ dueE t t' ↔ ∃ k w w', x = keyK k ∧ getA t k = some w ∧ getA t' k = some w' ∧ w ≠ w' := by
  unfold dueE
  constructor
  · intro h
    obtain ⟨p, hp, rfl⟩ := List.mem_map.mp h
    obtain ⟨hp, ht⟩ := List.mem_filter.mp hp
    unfold tstT at ht
    cases hg : getA t' p.1 with
    | none => rw [hg] at ht; cases ht
    | some w' =>
      rw [hg] at ht
      exact ⟨p.1, p.2, w', rfl, getA_of_mem nd hp, hg, of_decide_eq_true ht⟩
  · rintro ⟨k, w, w', rfl, h1, h2, h3⟩
    refine List.mem_map.mpr ⟨(k, w), List.mem_filter.mpr ⟨getA_mem h1, ?_⟩, rfl⟩
    unfold tstT
    rw [h2]
    exact decide_eq_true h3
theorem unlikeE_nd (es es' : List Evt) : (unlikeE es es').Nodup := by
  have h := entW_keys es'
  rw [List.map_map] at h
  have h : ((entW es').map evK).Nodup := h
  show (((entW es').filter (tstE es)).map keyE4).Nodup
  have e : ((entW es').filter (tstE es)).map keyE4 = (((entW es').filter (tstE es)).map evK).map keyK := by rw [List.map_map]; rfl
  rw [e]
  exact nodup_mapI (List.Sublist.nodup (List.Sublist.map _ List.filter_sublist) h) fun a b => keyK_inj
theorem unlikeE_mem {es es' : List Evt} {x : List V} : x ∈ unlikeE es es' ↔ ∃ (k : EvK) (w w' : V), x = keyK k ∧ entA es k.1 k.2.2.1 k.2.2.2 k.2.1 = some w ∧ entA es' k.1 k.2.2.1 k.2.2.2 k.2.1 = some w' ∧ w ≠ w' := by
  show x ∈ ((entW es').filter (tstE es)).map keyE4 ↔ _
  constructor
  · intro h
    obtain ⟨e, he, rfl⟩ := List.mem_map.mp h
    obtain ⟨he, ht⟩ := List.mem_filter.mp he
    unfold tstE at ht
    cases hg : entA es e.mv e.who e.day e.kn with
    | none => rw [hg] at ht; cases ht
    | some w =>
      rw [hg] at ht
      exact ⟨evK e, w, e.w, rfl, hg, ((entW_is es').mem e).mp he, of_decide_eq_true ht⟩
  · rintro ⟨k, w, w', rfl, h1, h2, h3⟩
    refine List.mem_map.mpr ⟨evOfK (k, w'), List.mem_filter.mpr ⟨((entW_is es').mem _).mpr h2, ?_⟩, rfl⟩
    unfold tstE
    show (match entA es k.1 k.2.2.1 k.2.2.2 k.2.1 with
      | none => false
      | some w => decide (w ≠ w')) = true
    rw [h1]
    exact decide_eq_true h3
def keyN (z : Str) : List V := [.str (Str.ofString "keeper"), .str z]
theorem unlikeK_nd {rk rk' : List (Str × Int)} (nd : (rk.map (·.1)).Nodup) : (unlikeK rk rk').Nodup := by
  show ((rk.filter (tstK rk')).map fun p => keyN p.1).Nodup
  rw [show (rk.filter (tstK rk')).map (fun p => keyN p.1) = ((rk.filter (tstK rk')).map (·.1)).map keyN by rw [List.map_map]; rfl]
  exact nodup_mapI (List.Sublist.nodup (List.Sublist.map _ List.filter_sublist) nd) fun a b e => by
    unfold keyN at e
    injection e with _ e
    injection e with e _
    exact V.str.inj e
theorem unlikeK_mem {rk rk' : List (Str × Int)} (nd : (rk.map (·.1)).Nodup) {x : List V} : x ∈ unlikeK rk rk' ↔ ∃ z n m, x = keyN z ∧ getA rk z = some n ∧ getA rk' z = some m ∧ n ≠ m := by
  show x ∈ (rk.filter (tstK rk')).map (fun p => keyN p.1) ↔ _
  constructor
  · intro h
    obtain ⟨p, hp, rfl⟩ := List.mem_map.mp h
    obtain ⟨hp, ht⟩ := List.mem_filter.mp hp
    unfold tstK at ht
    cases hg : getA rk' p.1 with
    | none => rw [hg] at ht; cases ht
    | some m =>
      rw [hg] at ht
      exact ⟨p.1, p.2, m, rfl, getA_of_mem nd hp, hg, of_decide_eq_true ht⟩
  · rintro ⟨z, n, m, rfl, h1, h2, h3⟩
    refine List.mem_map.mpr ⟨(z, n), List.mem_filter.mpr ⟨getA_mem h1, ?_⟩, rfl⟩
    unfold tstK
    rw [h2]
    exact decide_eq_true h3
theorem clsK_inj {xs ys : List V} (h : ClsK xs) (k : ClsK ys) (e : PySem.W.keyToks (keyD xs) = PySem.W.keyToks (keyD ys)) : xs = ys := by
  rcases h with ⟨z, rfl⟩ | ⟨a, rfl⟩ <;> rcases k with ⟨y, rfl⟩ | ⟨b, rfl⟩
  · simp [keyD, fltD, PySem.W.keyToks, PySem.W.keyToksAll] at e
    rw [str_eq (a := z) (b := y) (by rw [e])]
  · exfalso
    simp [keyE4, keyD, fltD, PySem.W.keyToks, PySem.W.keyToksAll] at e
  · exfalso
    simp [keyE4, keyD, fltD, PySem.W.keyToks, PySem.W.keyToksAll] at e
  · have := toks_inj (a := a) (b := b) e
    unfold keyE4
    rw [this.1, this.2.1, this.2.2.1, this.2.2.2]
theorem cls_sorted {L L' : List (List V)} (p : L.Perm L') (h : ∀ xs ∈ L, ClsK xs) : L.mergeSort (PySem.W.dataLe false keyD) = L'.mergeSort (PySem.W.dataLe false keyD) := by
  have tot : ∀ a b : List V, (PySem.W.dataLe false keyD a b || PySem.W.dataLe false keyD b a) = true := fun a b => Bool.or_eq_true_iff.mpr ((PySem.W.sortLe_total (PyProof.Rows.listOrd PyProof.Rows.itemOrd) false fun e : List V => PySem.W.keyToks (keyD e)).total a b)
  have tr : ∀ a b c : List V, PySem.W.dataLe false keyD a b = true → PySem.W.dataLe false keyD b c = true → PySem.W.dataLe false keyD a c = true := fun a b c => (PySem.W.sortLe_total (PyProof.Rows.listOrd PyProof.Rows.itemOrd) false fun e : List V => PySem.W.keyToks (keyD e)).trans a b c
  have p1 := List.mergeSort_perm L (PySem.W.dataLe false keyD)
  have p2 := List.mergeSort_perm L' (PySem.W.dataLe false keyD)
  refine List.Perm.eq_of_pairwise (le := fun a b => PySem.W.dataLe false keyD a b = true) (fun a b ha hb h1 h2 => ?_) (List.pairwise_mergeSort tr tot L) (List.pairwise_mergeSort tr tot L') (p1.trans (p.trans p2.symm))
  refine clsK_inj (h a (p1.mem_iff.mp ha)) (h b (p.mem_iff.mpr (p2.mem_iff.mp hb))) ((PyProof.Rows.listOrd PyProof.Rows.itemOrd).total _ _ ?_ ?_)
  · rw [PySem.W.dataLe_eq] at h2
    have h2 : (!PySem.W.dataLt (keyD a) (keyD b)) = true := h2
    have h2 : PySem.W.dataLt (keyD a) (keyD b) = false := by simpa using h2
    exact h2
  · rw [PySem.W.dataLe_eq] at h1
    have h1 : (!PySem.W.dataLt (keyD b) (keyD a)) = true := h1
    have h1 : PySem.W.dataLt (keyD b) (keyD a) = false := by simpa using h1
    exact h1
theorem due_clash {rk rk' : List (Str × Int)} {t t' : List (EvK × V)} {es es' : List Evt} (r : RelT t es) (r' : RelT t' es') : dueW rk rk' t t' = clashW rk rk' es es' := by
  refine (cls_sorted (List.Perm.append_left _ ?_) (clashes_cls rk rk' es es')).symm
  refine (List.perm_ext_iff_of_nodup (unlikeE_nd _ _) (dueE_nd r.nd)).mpr fun x => ?_
  rw [unlikeE_mem, dueE_mem r.nd]
  simp only [r.ev, r'.ev]
theorem clash_sym {rk rk' : List (Str × Int)} {es es' : List Evt} (nd : (rk.map (·.1)).Nodup) (nd' : (rk'.map (·.1)).Nodup) : clashW rk' rk es' es = clashW rk rk' es es' := by
  refine cls_sorted (List.Perm.append ?_ ?_) (clashes_cls rk' rk es' es)
  · refine (List.perm_ext_iff_of_nodup (unlikeK_nd nd') (unlikeK_nd nd)).mpr fun x => ?_
    rw [unlikeK_mem nd, unlikeK_mem nd']
    exact ⟨fun ⟨z, n, m, a, b, c, d⟩ => ⟨z, m, n, a, c, b, fun e => d e.symm⟩, fun ⟨z, n, m, a, b, c, d⟩ => ⟨z, m, n, a, c, b, fun e => d e.symm⟩⟩
  · refine (List.perm_ext_iff_of_nodup (unlikeE_nd _ _) (unlikeE_nd _ _)).mpr fun x => ?_
    rw [unlikeE_mem, unlikeE_mem]
    exact ⟨fun ⟨z, n, m, a, b, c, d⟩ => ⟨z, m, n, a, c, b, fun e => d e.symm⟩, fun ⟨z, n, m, a, b, c, d⟩ => ⟨z, m, n, a, c, b, fun e => d e.symm⟩⟩
theorem clash_none {rk : List (Str × Int)} {es es' : List Evt} (nd : (rk.map (·.1)).Nodup) (h : entW es = entW es') : clashW rk rk es es' = [] := by
  have e1 : unlikeK rk rk = [] := List.eq_nil_iff_forall_not_mem.mpr fun x hx => by
    obtain ⟨z, n, m, _, a, b, c⟩ := (unlikeK_mem nd).mp hx
    rw [a] at b
    exact c (Option.some.inj b)
  have e2 : unlikeE es es' = [] := List.eq_nil_iff_forall_not_mem.mpr fun x hx => by
    obtain ⟨k, n, m, _, a, b, c⟩ := unlikeE_mem.mp hx
    have m1 := ((entW_is es).mem ⟨k.1, k.2.1, k.2.2.1, k.2.2.2, n⟩).mpr a
    rw [h] at m1
    have a2 := ((entW_is es').mem _).mp m1
    rw [show entA es' k.1 k.2.2.1 k.2.2.2 k.2.1 = some n from a2] at b
    exact c (Option.some.inj b)
  unfold clashW
  rw [e1, e2]
  exact List.mergeSort_nil
theorem clash_len (rk rk' : List (Str × Int)) (es es' : List Evt) : (clashW rk rk' es es').length ≤ rk.length + es'.length := by
  unfold clashW
  rw [List.length_mergeSort, List.length_append]
  have h1 := unlikeK_le rk rk'
  have h2 : (unlikeE es es').length ≤ (entW es').length := by
    show (((entW es').filter (tstE es)).map keyE4).length ≤ _
    rw [List.length_map]
    exact List.length_filter_le _ _
  have := entW_len es'
  omega
/-! ### how clashes show -/
def ClB (xs : List V) : Prop := (∃ z, Nm z ∧ xs = keyN z) ∨ ∃ e : Evt, xs = keyE4 e ∧ Nm e.who ∧ e.kn.natAbs ≤ 10 ^ 61 ∧ e.day.natAbs ≤ 10 ^ 61
theorem clB_cls {xs : List V} (h : ClB xs) : ClsK xs := by
  rcases h with ⟨z, _, rfl⟩ | ⟨e, rfl, _⟩
  · exact .inl ⟨z, rfl⟩
  · exact .inr ⟨e, rfl⟩
theorem clB_show {xs : List V} (h : ClB xs) : (keyD xs).showable = true ∧ (keyD xs).hasDict = false ∧ (keyD xs).shown.length ≤ 1000 := by
  rcases h with ⟨z, hz, rfl⟩ | ⟨e, rfl, hz, bk, bd⟩
  · have t3 := nm_repr hz
    have t4 : (reprText (Str.ofString "keeper")).length ≤ 10 := by decide +kernel
    refine ⟨by simp [keyN, keyD, fltD, PyData.showable, PyData.showableAll], by simp [keyN, keyD, fltD, PyData.hasDict, PyData.hasDictAll], ?_⟩
    have e1 := tupleText_len_le [reprText (Str.ofString "keeper"), reprText z]
    have e2 : (keyD (keyN z)).shown = tupleText [reprText (Str.ofString "keeper"), reprText z] := by simp only [keyN, keyD, fltD, List.map_cons, List.map_nil, PyData.shown, PyData.shownAll]
    rw [e2]
    simp only [List.map_cons, List.map_nil, List.sum_cons, List.sum_nil, List.length_cons, List.length_nil] at e1
    omega
  · have t1 := tlen61 bk
    have t2 := tlen61 bd
    have t3 := nm_repr hz
    have t4 : (reprText (kindS e.mv)).length ≤ 10 := by cases e.mv <;> decide +kernel
    refine ⟨?_, by simp [keyE4, keyD, fltD, PyData.hasDict, PyData.hasDictAll], ?_⟩
    · simp only [keyE4, keyD, fltD, List.map_cons, List.map_nil, PyData.showable, PyData.showableAll, decide_eq_true (lg61 bk), decide_eq_true (lg61 bd), Bool.and_self]
    · have e1 := tupleText_len_le [reprText (kindS e.mv), Str.ofString (toString e.kn), reprText e.who, Str.ofString (toString e.day)]
      have e2 : (keyD (keyE4 e)).shown = tupleText [reprText (kindS e.mv), Str.ofString (toString e.kn), reprText e.who, Str.ofString (toString e.day)] := by simp only [keyE4, keyD, fltD, List.map_cons, List.map_nil, PyData.shown, PyData.shownAll]
      rw [e2]
      simp only [List.map_cons, List.map_nil, List.sum_cons, List.sum_nil, List.length_cons, List.length_nil] at e1
      omega
theorem clB_all : ∀ {L : List (List V)}, (∀ xs ∈ L, ClB xs) → PyData.showableAll (L.map keyD) = true ∧ (∀ d ∈ L.map keyD, d.hasDict = false) ∧ (∀ t ∈ PyData.shownAll (L.map keyD), t.length ≤ 1000) ∧ (PyData.shownAll (L.map keyD)).length = L.length ∧ PyData.depthAll (L.map keyD) ≤ 3
  | [], _ => ⟨by simp [PyData.showableAll], nofun, by simp [PyData.shownAll], by simp [PyData.shownAll], by simp [PyData.depthAll]⟩
  | x :: L, h => by
    obtain ⟨a1, a2, a3, a4, a5⟩ := clB_all (L := L) fun y hy => h y (List.mem_cons_of_mem _ hy)
    obtain ⟨b1, b2, b3⟩ := clB_show (h x List.mem_cons_self)
    have b4 := keyD_depth x
    refine ⟨by simp only [List.map_cons, PyData.showableAll, a1, b1, Bool.and_self], fun d hd => ?_, fun t ht => ?_, by simp only [List.map_cons, PyData.shownAll, List.length_cons, a4], by simp only [List.map_cons, PyData.depthAll]; omega⟩
    · rcases List.mem_cons.mp hd with rfl | hd
      · exact b2
      · exact a2 d hd
    · simp only [List.map_cons, PyData.shownAll] at ht
      rcases List.mem_cons.mp ht with rfl | ht
      · exact b3
      · exact a3 t ht
theorem tup_dp {K : PySem.W.Frag} {H : Hp} : ∀ {us : List Addr} {L : List (List V)}, Paired (TupIs H) us L → (∀ xs ∈ L, ClsK xs) → DpAll K H (us.map V.ref) (L.map keyD)
  | _, _, .nil, _ => .nil
  | _, _, .cons (a := t) (b := r) h k, hs => .cons (.tup (SqT.of h) (fltD_all (clsK_tp (hs r List.mem_cons_self)).2.2)) (tup_dp k fun x hx => hs x (List.mem_cons_of_mem _ hx))
/-- clashes: what repr wants -/
theorem clash_shows {K : PySem.W.Frag} {H : Hp} {us : List Addr} {L : List (List V)} (h : ∀ xs ∈ L, ClB xs) (hl : L.length ≤ 100) (p : Paired (TupIs H) us L) :
    Paired (Sd K H) (us.map V.ref) (L.map keyD) ∧ (PyData.list (L.map keyD)).showable = true ∧ (PyData.list (L.map keyD)).depth ≤ 60 ∧ (PyData.list (L.map keyD)).shown.length ≤ sizeLine := by
  obtain ⟨a1, a2, a3, a4, a5⟩ := clB_all h
  exact ⟨sd_all (tup_dp p fun xs hx => clB_cls (h xs hx)) a2, list_shows a1 (by omega) a3 (by omega)⟩
theorem clash_B {rk rk' : List (Str × Int)} {es es' : List Evt} (k : Rk rk) (k' : Rk rk') (ok : ∀ e ∈ es', EvOK rk' e) (kb : ∀ e ∈ es', e.kn < 10 ^ 56) : ∀ xs ∈ clashW rk rk' es es', ClB xs := by
  intro xs hx
  have hx := (List.mergeSort_perm _ _).mem_iff.mp hx
  rcases List.mem_append.mp hx with hx | hx
  · obtain ⟨p, hp, rfl⟩ := List.mem_map.mp hx
    exact .inl ⟨p.1, k.nm p (List.mem_filter.mp hp).1, rfl⟩
  · obtain ⟨e, he, rfl⟩ := List.mem_map.mp hx
    have he := (entW_is es').sub e (List.mem_filter.mp he).1
    have oke := ok e he
    have k0 := oke.k0
    have d0 := oke.d0
    have d1 := oke.d1
    have := kb e he
    refine .inr ⟨e, rfl, ?_, by omega, by omega⟩
    cases hm : e.mv with
    | true =>
      obtain ⟨p, hp, e2⟩ := List.mem_map.mp (oke.mw hm).1
      rw [← e2]
      exact k'.nm p hp
    | false => exact (oke.lw hm).1
end LT
set_option Elab.async false
set_option linter.all false
set_option maxRecDepth 100000
set_option maxHeartbeats 1600000
/-! Own layer: promises of the defs that draw two books by dicts of entries. -/
namespace LT
open PySem PySem.Spec PyProof.Rows L2 NdefX LamX
structure Pl9 where
  L : Addr
  ls : List Str
  far : Int
  base : Int
structure PlT (H : Hp) (T : Addr) (d : Pl9) : Prop where
  t : H T = some (.tup [.ref d.L, .int d.far, .int d.base])
  l : H d.L = some (.lst (d.ls.map V.str))
structure PlG (d : Pl9) : Prop where
  ls : Names d.ls
  l0 : 0 < d.ls.length
  l2 : d.ls.length ≤ 2
  f0 : 0 ≤ d.far
  f1 : d.far < 10 ^ 54
  b0 : 0 ≤ d.base
  b1 : d.base < 10 ^ 54
theorem PlT.look {H H' : Hp} {T p : Addr} {d : Pl9} (h : PlT H T d) (hp : Pot H p) (s : SameB p H H') : PlT H' T d := ⟨s _ _ (ne_of_pot hp h.t) h.t, s _ _ (ne_of_pot hp h.l strs_no_pot) h.l⟩
theorem PlT.extN {H H' : Hp} {T : Addr} {d : Pl9} (h : PlT H T d) (e : ExtN H H') : PlT H' T d := ⟨e _ _ h.t nofun, e _ _ h.l nofun⟩
def spUnl : Sp := fun vs H Q _ => ∃ (p : Addr) (m : Int), vs = [.ref p, .int m] ∧ Pot H p ∧ 0 ≤ m ∧ m ≤ 600 ∧
  ∀ (L : Addr) (zs : List Str) (H' : Hp), H L = none → H' L = some (.lst (zs.map V.str)) → Names zs → zs.length = m.toNat → Pot H' p → SameB p H H' → Q (.ref L) H'
def spPlan9 : Sp := fun vs H Q _ => ∃ (p : Addr), vs = [.ref p] ∧ Pot H p ∧ ∀ (T : Addr) (d : Pl9) (H' : Hp), H T = none → H d.L = none → PlG d → PlT H' T d → Pot H' p → SameB p H H' → Q (.ref T) H'
structure KeyOK (d : Pl9) (ns : List Str) (k : EvK) : Prop where
  k0 : d.base ≤ k.2.1
  k1 : k.2.1 ≤ d.base + 4
  d0 : 0 ≤ k.2.2.2
  d1 : k.2.2.2 ≤ d.far + 5
  lw : k.1 = false → k.2.2.1 ∈ d.ls
  mw : k.1 = true → k.2.2.1 ∈ ns
def spKey9 : Sp := fun vs H Q _ => ∃ (p T N : Addr) (d : Pl9) (ns : List Str), vs = [.ref p, .ref T, .ref N] ∧ Pot H p ∧ PlT H T d ∧ PlG d ∧ H N = some (.lst (ns.map V.str)) ∧ ns.length ≤ 600 ∧
  ∀ (M : Addr) (k : EvK) (H' : Hp), H M = none → H' M = some (.tup (keyK k)) → KeyOK d ns k → Pot H' p → SameB p H H' → Q (.ref M) H'
def WkB (mv : Bool) (w : V) : Prop := WkOK mv w ∧ ∀ n, w = .int n → n < 10 ^ 55
def spWorth9 : Sp := fun vs H Q _ => ∃ (p T M : Addr) (d : Pl9) (k : EvK), vs = [.ref p, .ref T, .ref M] ∧ Pot H p ∧ PlT H T d ∧ PlG d ∧ H M = some (.tup (keyK k)) ∧
  ∀ (w : V) (H' : Hp), WkB k.1 w → Pot H' p → SameB p H H' → Q w H'
def spBook9 (CB CH : Addr) (T : List (Addr × Str)) : Sp := fun vs H Q _ => ∃ (r E : Addr) (rk : List (Str × Int)) (t : List (EvK × V)), vs = [.ref r, .ref E] ∧ H r = some (.dK (sd rk)) ∧ Rk rk ∧ H E = some (.dT (enT t)) ∧ (t.map (·.1)).Nodup ∧ t.length ≤ 60 ∧ (∀ p ∈ t, EvOK rk (evOfK p)) ∧ Tabs T H ∧
  ∀ (b : Addr) (es : List Evt) (fp : List Addr) (H' : Hp), Bk CB CH H' b rk es fp → es.Perm (t.map evOfK) → (∀ c ∈ fp, NewN H c) → ExtN H H' → Tabs T H' → Q (.ref b) H'
theorem two_no_pot {x y : Addr} (a b : Int) : (HO.lst [.ref x, .ref y]) ≠ .lst [.int a, .int b] := nofun
/-! ### lists of two dicts -/
def setB {α : Type} (f : Bool → α) (i : Bool) (v : α) : Bool → α := fun j => if j = i then v else f j
theorem setB_same {α : Type} (f : Bool → α) (i : Bool) (v : α) : setB f i v i = v := if_pos rfl
theorem setB_ne {α : Type} (f : Bool → α) {i j : Bool} (v : α) (h : j ≠ i) : setB f i v j = f j := if_neg h
structure TwoD (H : Hp) (R : Addr) (r : Bool → Addr) (o : Bool → HO) : Prop where
  hR : H R = some (.lst [.ref (r false), .ref (r true)])
  hr : ∀ i, H (r i) = some (o i)
  nl : ∀ i xs, o i ≠ .lst xs
  ne : r false ≠ r true
section
variable {H H' : Hp} {R p x : Addr} {r : Bool → Addr} {o : Bool → HO}
theorem TwoD.look (h : TwoD H R r o) (hp : Pot H p) (s : SameB p H H') : TwoD H' R r o := by
  refine ⟨s _ _ (ne_of_pot hp h.hR two_no_pot) h.hR, fun i => s _ _ (fun e => ?_) (h.hr i), h.nl, h.ne⟩
  obtain ⟨a, b, k, _⟩ := hp
  rw [← e, h.hr i] at k
  exact h.nl i _ (Option.some.inj k)
theorem TwoD.mono (h : TwoD H R r o) (s : Same H H') : TwoD H' R r o := ⟨s _ _ h.hR, fun i => s _ _ (h.hr i), h.nl, h.ne⟩
theorem TwoD.extN (h : TwoD H R r o) (s : ExtN H H') (n : ∀ i ps, o i ≠ .tbl ps) : TwoD H' R r o := ⟨s _ _ h.hR nofun, fun i => s _ _ (h.hr i) (n i), h.nl, h.ne⟩
theorem TwoD.neR (h : TwoD H R r o) (i : Bool) : R ≠ r i := fun e => by
  have := h.hR
  rw [e, h.hr i] at this
  exact h.nl i _ (Option.some.inj this)
theorem TwoD.ne2 (h : TwoD H R r o) {i j : Bool} (n : j ≠ i) : r j ≠ r i := by
  cases i <;> cases j
  · exact absurd rfl n
  · exact Ne.symm h.ne
  · exact h.ne
  · exact absurd rfl n
theorem TwoD.put (h : TwoD H R r o) (i : Bool) {v : HO} (nv : ∀ xs, v ≠ .lst xs) : TwoD (L2.upd H (r i) v) R r (setB o i v) := by
  refine ⟨by rw [upd_ne (h.neR i)]; exact h.hR, fun j => ?_, fun j xs => ?_, h.ne⟩
  · by_cases e : j = i
    · rw [e, setB_same]
      exact upd_same
    · rw [setB_ne _ _ e, upd_ne (h.ne2 e)]
      exact h.hr j
  · by_cases e : j = i
    · rw [e, setB_same]
      exact nv xs
    · rw [setB_ne _ _ e]
      exact h.nl j xs
theorem TwoD.other (h : TwoD H R r o) {ox v : HO} (hx : H x = some ox) (n : ∀ i, o i ≠ ox) (nx : ∀ xs, ox ≠ .lst xs) : TwoD (L2.upd H x v) R r o := by
  refine ⟨?_, fun i => ?_, h.nl, h.ne⟩
  · rw [upd_ne (fun e => ?_)]
    · exact h.hR
    · rw [← e, h.hR] at hx
      exact nx _ (Option.some.inj hx).symm
  · rw [upd_ne (fun e => ?_)]
    · exact h.hr i
    · rw [← e, h.hr i] at hx
      exact n i (Option.some.inj hx)
theorem TwoD.new (h : TwoD H R r o) {v : HO} (hx : H x = none) : TwoD (L2.upd H x v) R r o := h.mono (same_upd hx)
theorem TwoD.at (h : TwoD H R r o) {w : Int} (w0 : 0 ≤ w) (w1 : w < 2) : atI [V.ref (r false), .ref (r true)] w = some (.ref (r (decide (w = 1)))) := by
  have : w = 0 ∨ w = 1 := by omega
  rcases this with rfl | rfl
  · exact atI_nat (j := 0) rfl
  · exact atI_nat (j := 1) rfl
end
def oK (rk : Bool → List (Str × Int)) : Bool → HO := fun i => .dK (sd (rk i))
def oT (t : Bool → List (EvK × V)) : Bool → HO := fun i => .dT (enT (t i))
theorem oK_set (rk : Bool → List (Str × Int)) (i : Bool) (v : List (Str × Int)) : setB (oK rk) i (.dK (sd v)) = oK (setB rk i v) := by
  funext j
  show (if j = i then HO.dK (sd v) else .dK (sd (rk j))) = .dK (sd (if j = i then v else rk j))
  by_cases e : j = i
  · rw [if_pos e, if_pos e]
  · rw [if_neg e, if_neg e]
theorem oT_set (t : Bool → List (EvK × V)) (i : Bool) (v : List (EvK × V)) : setB (oT t) i (.dT (enT v)) = oT (setB t i v) := by
  funext j
  show (if j = i then HO.dT (enT v) else .dT (enT (t j))) = .dT (enT (if j = i then v else t j))
  by_cases e : j = i
  · rw [if_pos e, if_pos e]
  · rw [if_neg e, if_neg e]
/-! ### two of each -/
structure PrA where
  R : Addr
  E : Addr
  r : Bool → Addr
  e : Bool → Addr
structure PrT (H : Hp) (a : PrA) (rk : Bool → List (Str × Int)) (t : Bool → List (EvK × V)) : Prop where
  k : TwoD H a.R a.r (oK rk)
  e : TwoD H a.E a.e (oT t)
theorem PrT.extN {H H' : Hp} {a : PrA} {rk : Bool → List (Str × Int)} {t : Bool → List (EvK × V)} (h : PrT H a rk t) (e : ExtN H H') : PrT H' a rk t := ⟨h.k.extN e nofun, h.e.extN e nofun⟩
theorem PrT.mono {H H' : Hp} {a : PrA} {rk : Bool → List (Str × Int)} {t : Bool → List (EvK × V)} (h : PrT H a rk t) (e : Same H H') : PrT H' a rk t := ⟨h.k.mono e, h.e.mono e⟩
theorem PrT.look {H H' : Hp} {p : Addr} {a : PrA} {rk : Bool → List (Str × Int)} {t : Bool → List (EvK × V)} (h : PrT H a rk t) (hp : Pot H p) (s : SameB p H H') : PrT H' a rk t := ⟨h.k.look hp s, h.e.look hp s⟩
theorem PrT.put {H : Hp} {a : PrA} {rk : Bool → List (Str × Int)} {t : Bool → List (EvK × V)} (h : PrT H a rk t) (i : Bool) (v : List (EvK × V)) : PrT (L2.upd H (a.e i) (.dT (enT v))) a rk (setB t i v) := by
  refine ⟨h.k.other (h.e.hr i) (fun j => nofun) nofun, ?_⟩
  rw [← oT_set]
  exact h.e.put i nofun
structure PrG (d : Pl9) (m : Nat) (rk : Bool → List (Str × Int)) (t : Bool → List (EvK × V)) : Prop where
  kr : ∀ i, Rk (rk i)
  nd : ∀ i, ((t i).map (·.1)).Nodup
  ln : ∀ i, (t i).length ≤ m
  ok : ∀ i, ∀ p ∈ t i, EvOK (rk i) (evOfK p)
  kb : ∀ i, ∀ p ∈ t i, p.1.2.1 ≤ d.base + 4
theorem PrG.put {d : Pl9} {m : Nat} {rk : Bool → List (Str × Int)} {t : Bool → List (EvK × V)} (g : PrG d m rk t) (j : Bool) {k : EvK} {w : V} (ok : EvOK (rk j) (evOfK (k, w))) (kb : k.2.1 ≤ d.base + 4) : PrG d (m + 1) rk (setB t j (putA (t j) k w)) := by
  have at_ : ∀ {i : Bool}, i ≠ j → setB t j (putA (t j) k w) i = t i := fun h => setB_ne _ _ h
  refine ⟨g.kr, fun i => ?_, fun i => ?_, fun i p hp => ?_, fun i p hp => ?_⟩
  · by_cases e : i = j
    · rw [e, setB_same]
      exact nodup_put (g.nd j)
    · rw [at_ e]
      exact g.nd i
  · by_cases e : i = j
    · rw [e, setB_same]
      have h1 := putA_len (kvs := t j) (k := k) (v := w)
      have h2 := g.ln j
      omega
    · rw [at_ e]
      exact Nat.le_succ_of_le (g.ln i)
  · by_cases e : i = j
    · subst e
      rw [setB_same] at hp
      rcases mem_put hp with rfl | hp
      · exact ok
      · exact g.ok i p hp
    · rw [at_ e] at hp
      exact g.ok i p hp
  · by_cases e : i = j
    · subst e
      rw [setB_same] at hp
      rcases mem_put hp with rfl | hp
      · exact kb
      · exact g.kb i p hp
    · rw [at_ e] at hp
      exact g.kb i p hp
theorem KeyOK.ev {d : Pl9} (hG : PlG d) {rk : List (Str × Int)} {ns : List Str} {k : EvK} {w : V} (h : KeyOK d ns k) (hn : ∀ z ∈ ns, z ∈ rk.map (·.1)) (hw : WkB k.1 w) : EvOK rk (evOfK (k, w)) := by
  obtain ⟨mv, kn, z, day⟩ := k
  have k0 := h.k0
  have b0 := hG.b0
  have f1 := hG.f1
  have d0 := h.d0
  have d1 := h.d1
  refine ⟨by show 0 ≤ kn; have : d.base ≤ kn := k0; omega, d0, by show day < 10 ^ 55; have : day ≤ d.far + 5 := d1; omega, fun hm => ⟨hn _ (h.mw hm), ?_⟩, fun hm => ⟨hG.ls.nm _ (h.lw hm), ?_⟩⟩
  · have hm : mv = true := hm
    subst hm
    exact hw.1
  · have hm : mv = false := hm
    subst hm
    exact hw.1
def spPair9 (m : Nat) : Sp := fun vs H Q _ => ∃ (p T : Addr) (d : Pl9), vs = [.ref p, .ref T] ∧ Pot H p ∧ PlT H T d ∧ PlG d ∧
  ∀ (W : Addr) (a : PrA) (rk : Bool → List (Str × Int)) (t : Bool → List (EvK × V)) (H' : Hp), PrG d m rk t → H' W = some (.tup [.ref a.R, .ref a.E]) → PrT H' a rk t → (H a.R = none ∧ H a.E = none ∧ (∀ i, H (a.r i) = none) ∧ ∀ i, H (a.e i) = none) → Pot H' p → SameB p H H' → Q (.ref W) H'
def spDue9 : Sp := fun vs H Q _ => ∃ (a : PrA) (d : Pl9) (m : Nat) (rk : Bool → List (Str × Int)) (t : Bool → List (EvK × V)), vs = [.ref a.R, .ref a.E] ∧ PrT H a rk t ∧ (∀ i, Rk (rk i)) ∧ (∀ i, ((t i).map (·.1)).Nodup) ∧ (∀ i, (t i).length ≤ 60) ∧ (∀ i, ∀ p ∈ t i, EvOK (rk i) (evOfK p)) ∧
  ∀ (F : Addr) (ts : List Addr) (H' : Hp), Same H H' → H F = none → H' F = some (.lst (ts.map V.ref)) → Paired (TupIs H') ts (dueW (rk false) (rk true) (t false) (t true)) → Q (.ref F) H'
def spRight9 (CB CH : Addr) (T : List (Addr × Str)) : Sp := fun vs H Q _ => ∃ (b c l : Addr) (rk rk' : List (Str × Int)) (es es' : List Evt) (fp fp' ts : List Addr), vs = [.ref b, .ref c, .ref l] ∧ Bk CB CH H b rk es fp ∧ Bk CB CH H c rk' es' fp' ∧ es.length ≤ 60 ∧ es'.length ≤ 60 ∧ (∀ e ∈ es, e.kn < 10 ^ 56) ∧ (∀ e ∈ es', e.kn < 10 ^ 56) ∧
  H l = some (.lst (ts.map V.ref)) ∧ Paired (TupIs H) ts (clashW rk rk' es es') ∧ Tabs T H ∧ ∀ (H' : Hp), ExtN H H' → Tabs T H' → Q (.bl true) H'
def spStay9 (CB CH : Addr) (T : List (Addr × Str)) : Sp := fun vs H Q _ => ∃ (B : Addr) (b : Bool → Addr) (a : PrA) (rk : Bool → List (Str × Int)) (t : Bool → List (EvK × V)) (es : Bool → List Evt) (fp : Bool → List Addr), vs = [.ref B, .ref a.R, .ref a.E] ∧ H B = some (.lst [.ref (b false), .ref (b true)]) ∧ PrT H a rk t ∧ (∀ i, Bk CB CH H (b i) (rk i) (es i) (fp i)) ∧ (∀ i, RelT (t i) (es i)) ∧ (∀ i, (es i).length ≤ 60) ∧ (∀ i, (t i).length ≤ 60) ∧ (∀ i, ∀ e ∈ es i, e.kn < 10 ^ 55) ∧ Tabs T H ∧
  ∀ (H' : Hp), ExtN H H' → Tabs T H' → Q (.bl true) H'
/-- ranks drawn of the first names -/
structure LK (zs : List Str) (i : Nat) (rk : List (Str × Int)) : Prop where
  nd : (rk.map (·.1)).Nodup
  sb : ∀ q ∈ rk, q.1 ∈ zs.take i
  b1 : ∀ q ∈ rk, 1 ≤ q.2 ∧ q.2 ≤ 9
  ln : rk.length ≤ i
theorem LK.skip {zs : List Str} {i : Nat} {rk : List (Str × Int)} (h : LK zs i rk) : LK zs (i + 1) rk := ⟨h.nd, fun q hq => List.take_subset_take_left zs (Nat.le_succ i) (h.sb q hq), h.b1, Nat.le_succ_of_le h.ln⟩
theorem LK.fresh {zs : List Str} {i : Nat} {rk : List (Str × Int)} (h : LK zs i rk) (nd : zs.Nodup) {z : Str} (hz : zs[i]? = some z) : z ∉ rk.map (·.1) := fun hm => by
  obtain ⟨q, hq, rfl⟩ := List.mem_map.mp hm
  obtain ⟨j, hj⟩ := List.getElem?_of_mem (h.sb q hq)
  rw [List.getElem?_take] at hj
  split at hj
  · have h1 := List.getElem?_eq_some_iff.mp hj
    have h2 := List.getElem?_eq_some_iff.mp hz
    have := List.pairwise_iff_getElem.mp nd j i h1.1 h2.1 (by omega)
    rw [h1.2, h2.2] at this
    exact this rfl
  · cases hj
theorem LK.add {zs : List Str} {i : Nat} {rk : List (Str × Int)} (h : LK zs i rk) (nd : zs.Nodup) {z : Str} (hz : zs[i]? = some z) {n : Int} (n1 : 1 ≤ n) (n9 : n ≤ 9) : LK zs (i + 1) (rk ++ [(z, n)]) := by
  refine ⟨?_, fun q hq => ?_, fun q hq => ?_, by rw [List.length_append]; exact Nat.succ_le_succ h.ln⟩
  · rw [List.map_append, List.nodup_append]
    refine ⟨h.nd, List.nodup_cons.mpr ⟨nofun, List.nodup_nil⟩, fun a ha b hb e => h.fresh nd hz ?_⟩
    rw [List.map_singleton, List.mem_singleton] at hb
    rw [e, hb] at ha
    exact ha
  · rcases List.mem_append.mp hq with hq | hq
    · exact h.skip.sb q hq
    · rw [List.mem_singleton.mp hq, take_snoc hz]
      exact List.mem_append_right _ List.mem_cons_self
  · rcases List.mem_append.mp hq with hq | hq
    · exact h.b1 q hq
    · rw [List.mem_singleton.mp hq]
      exact ⟨n1, n9⟩
theorem LK.rk {zs : List Str} {i : Nat} {rk : List (Str × Int)} (h : LK zs i rk) (hz : Names zs) (hi : i ≤ 30) : Rk rk := ⟨h.nd, fun q hq => hz.nm _ (List.mem_of_mem_take (h.sb q hq)), h.b1, Nat.le_trans h.ln hi⟩
/-! ### keys by their known day -/
def KeyAt (H : Hp) (p : EvK × V) (b : Addr) : Prop := H b = some (.tup (keyK p.1))
theorem keys_at {H : Hp} : ∀ {t : List (EvK × V)} {bs : List Addr}, IsKeys H (enT t) bs → Paired (KeyAt H) t bs := by
  intro t
  induction t with
  | nil =>
    intro bs h
    unfold IsKeys enT at h
    cases h
    exact .nil
  | cons p t ih =>
    intro bs h
    unfold IsKeys enT at h
    rw [List.map_cons] at h
    cases h with
    | cons a r => exact .cons a (ih r)
def knOfO : Option HO → Int
  | some (.tup [_, .int kn, _, _]) => kn
  | _ => 0
def knOfV (H : Hp) : V → Int
  | .ref b => knOfO (H b)
  | _ => 0
theorem knOf_is {H : Hp} {b : Addr} {p : EvK × V} (h : KeyAt H p b) : knOfV H (.ref b) = p.1.2.1 := by
  show knOfO (H b) = _
  rw [show H b = _ from h]
  rfl
theorem keys_kn {H : Hp} {t : List (EvK × V)} {bs : List Addr} (h : Paired (KeyAt H) t bs) : ∃ (t' : List (EvK × V)) (bs' : List Addr), (bs.map V.ref).mergeSort (fun a b => decide (knOfV H a ≤ knOfV H b)) = bs'.map V.ref ∧ Paired (KeyAt H) t' bs' ∧ t'.Perm t ∧ t'.Pairwise fun a b => a.1.2.1 ≤ b.1.2.1 := by
  obtain ⟨l, h1, h2, h3⟩ := pairs_of h
  subst h1 h2
  have pm := List.mergeSort_perm l fun p q => decide (p.1.1.2.1 ≤ q.1.1.2.1)
  refine ⟨(l.mergeSort fun p q => decide (p.1.1.2.1 ≤ q.1.1.2.1)).map (·.1), (l.mergeSort fun p q => decide (p.1.1.2.1 ≤ q.1.1.2.1)).map (·.2), ?_, ?_, pm.map _, ?_⟩
  · rw [List.map_map, List.map_map]
    refine (List.map_mergeSort (r := fun p q : (EvK × V) × Addr => decide (p.1.1.2.1 ≤ q.1.1.2.1)) fun a ha b hb => ?_).symm
    show decide (a.1.1.2.1 ≤ b.1.1.2.1) = decide (knOfV H (.ref a.2) ≤ knOfV H (.ref b.2))
    rw [knOf_is (h3 a ha), knOf_is (h3 b hb)]
  · exact paired_ofL fun p hp => h3 p (pm.mem_iff.mp hp)
  · rw [List.pairwise_map]
    refine (List.pairwise_mergeSort (le := fun p q : (EvK × V) × Addr => decide (p.1.1.2.1 ≤ q.1.1.2.1)) (fun a b c h k => ?_) (fun a b => ?_) l).imp fun h => of_decide_eq_true h
    · have h := of_decide_eq_true h
      have k := of_decide_eq_true k
      exact decide_eq_true (Int.le_trans h k)
    · rcases Int.le_total a.1.1.2.1 b.1.1.2.1 with h | h
      · rw [decide_eq_true h]; rfl
      · rw [decide_eq_true h, Bool.or_true]
end LT
set_option Elab.async false
set_option linter.all false
set_option maxRecDepth 100000
set_option maxHeartbeats 1600000
set_option pp.maxSteps 300
namespace K91
open PySem PySem.Spec PyProof.Rows L2 LT NdefX LamX
section
variable {P : Program} {w : World} {K : PySem.W.Frag} {mg : Str → Option Value} {base : Heap}
theorem sc__law_unlike : FnScope ["_law_pot_here", "_law_many", "_law_letters", "_law_found", "_law_k", "_law_name", "_law_spot", "_law_some", "_law_j", "_law_mine"] ["_law_pot_here", "_law_many"] (defScope s__law_unlike) := ⟨rfl, rfl, rfl, by decide +kernel, rfl, by decide +kernel, by decide +kernel⟩
theorem ok__law_unlike (D : All K P mg) : FnOk P w K mg base CX0 3 D.f__law_unlike D.d__law_unlike ["_law_pot_here", "_law_many"] spUnl := by
  refine D.h__law_unlike.fn.ok sc__law_unlike (fun vs H Q E h => ?_) (fun cdv A outer s H vs Q E hr h => ?_)
  · first | (obtain ⟨_, rfl, _⟩ := h; rfl) | (obtain ⟨_, _, rfl, _⟩ := h; rfl) | (obtain ⟨_, _, _, rfl, _⟩ := h; rfl) | (obtain ⟨_, _, _, _, rfl, _⟩ := h; rfl) | (obtain ⟨_, _, _, _, _, rfl, _⟩ := h; rfl) | (obtain ⟨_, _, _, _, _, _, rfl, _⟩ := h; rfl) | (obtain ⟨_, _, _, _, _, _, _, rfl, _⟩ := h; rfl) | (obtain ⟨_, _, _, _, _, _, _, _, rfl, _⟩ := h; rfl) | (obtain ⟨_, _, _, _, _, _, _, _, _, rfl, _⟩ := h; rfl) | (obtain ⟨_, _, _, _, _, _, _, _, _, _, rfl, _⟩ := h; rfl) | (obtain ⟨_, _, _, _, _, _, _, _, _, _, _, rfl, _⟩ := h; rfl) | (obtain ⟨_, _, _, _, _, _, _, _, _, _, _, _, rfl, _⟩ := h; rfl) | (obtain ⟨_, _, _, _, _, _, _, _, _, _, _, _, _, rfl, _⟩ := h; rfl) | (obtain ⟨_, _, _, _, _, _, _, _, _, _, _, _, _, _, rfl, _⟩ := h; rfl) | (obtain ⟨_, _, _, _, _, _, _, _, _, _, _, _, _, _, _, rfl, _⟩ := h; rfl)
  · have T := D.T
    have nd := sc__law_unlike.nd
    have hu := hr.units
    have hu1 := hu_of hr
    have hu0 := hr.units0
    obtain ⟨p, m, rfl, hp, m0, m1, q⟩ := h
    refine ⟨_, pss_cons (ps_set (i := 2) nd rfl (.inr rfl) pe_str)
      (pss_cons (ps_set (i := 3) nd rfl (.inr rfl) (pe_lst pa_nil))
      (pss_cons (ps_for PassesOwn.never rfl (pi_range1 (by rfl) T.range (pa_cons (pv 1) pa_nil)) (pg_name (i := 4) nd rfl (Or.inl rfl)) (pss_cons (ps_set (i := 5) nd rfl (.inl rfl) (pe_call (ok__law_word D) (hr.mono (by decide)) (by rfl) D.h__law_word.gl D.h__law_word.fn.kp D.h__law_word.bd .nil pass0 (pa_cons (pv 0) pa_nil)))
      (pss_cons (ps_if (PW.pt (pw_and (pt_cmpR (op_neNil hu) (pv 3) (pe_lst pa_nil) (nomark _)) (pw_and1 (pt_cmpR op_eq (pe_call (ok__law_take D) (hr.mono (by decide)) (by rfl) D.h__law_take.gl D.h__law_take.fn.kp D.h__law_take.bd .nil pass0 (pa_cons (pv 0) (pa_cons pe_int pa_nil))) pe_int (nomark _))))) (pss_cons (ps_set (i := 6) nd rfl (.inl rfl) (pe_call (ok__law_take D) (hr.mono (by decide)) (by rfl) D.h__law_take.gl D.h__law_take.fn.kp D.h__law_take.bd .nil pass0 (pa_cons (pv 0) (pa_cons (pe_callB call_len_str (by rfl) T.len PySem.boot_len (pa_cons (pe_ix ix_list (pv 3) pe_int (fun _ _ => rfl)) pa_nil)) pa_nil))))
      (pss_one (ps_set (i := 5) nd rfl (.inl rfl) (pe_op op_add_str (pe_op op_add_str (pe_slice sl_str (pe_ix ix_list (pv 3) pe_int (fun _ _ => rfl)) po_none (po_some (pv 6))) (pe_ix ix_str (pv 2) (pe_call (ok__law_take D) (hr.mono (by decide)) (by rfl) D.h__law_take.gl D.h__law_take.fn.kp D.h__law_take.bd .nil pass0 (pa_cons (pv 0) (pa_cons pe_int pa_nil))) (fun _ _ => rfl))) (pe_slice sl_str (pe_ix ix_list (pv 3) pe_int (fun _ _ => rfl)) (po_some (pe_op op_add (pv 6) pe_int)) po_none))))) pss_nil)
      (pss_cons (ps_if (pt_cmpR op_in_seq (pv 5) (pv 3) (by rfl)) (pss_cons (ps_setLc (i := 7) (own := [("_law_j", 8)]) (g := gName 8) (tt := tYes) rfl nd rfl rfl (sw_true rfl rfl rfl (by decide +kernel)) (pi_range1 (by rfl) T.range (pa_cons (pe_op op_add (pv 1) pe_int) pa_nil)) (blkOk_by (N := ["_law_pot_here", "_law_many", "_law_letters", "_law_found", "_law_k", "_law_name", "_law_spot", "_law_some", "_law_j", "_law_mine"]) (sc := defScope s__law_unlike) (by decide +kernel)) (fun _ _ _ _ _ => (pg_name (i := 8) nd rfl (Or.inl rfl))) (fun _ _ _ _ _ => pts_nil) (fun _ _ _ _ _ => (pe_op op_add_str (pe_op op_add_str pe_str (pe_ix ix_str (pv 2) (pe_op op_fdiv (pv 8) pe_int) (fun _ _ => rfl))) (pe_ix ix_str (pv 2) (pe_op op_mod (pv 8) pe_int) (fun _ _ => rfl)))))
      (pss_one (ps_set (i := 5) nd rfl (.inl rfl) (pe_ix ix_list (pe_lc (own := [("_law_mine", 9)]) (g := gName 9) rfl nd (pi_list (pv 7)) (blkOk_by (N := ["_law_pot_here", "_law_many", "_law_letters", "_law_found", "_law_k", "_law_name", "_law_spot", "_law_some", "_law_j", "_law_mine"]) (sc := defScope s__law_unlike) (by decide +kernel)) (fun _ _ _ _ _ => (pg_name (i := 9) nd rfl (Or.inl rfl))) (fun _ _ _ _ _ => pts_one (pt_cmpR (show OpR _ (compareOp .NotIn) (rIn K true) from op_notIn_seq) (pv 9) (pv 3) (by rfl))) (fun _ _ _ _ _ => (pv 9))) pe_int (fun _ _ => rfl))))) pss_nil)
      (pss_one (ps_expr (pe_bm PySem.F.plainAttrs_list PySem.F.slot_list_append PySem.F.type_list_append mt_append (pv 3) (pa_cons (pv 5) pa_nil))))))))
      (pss_one (ps_ret (pv 3))))), ?_⟩
    refine ⟨by show 0 ≤ sizeLine; decide, fun L nL => ?_⟩
    have nLp := hp.ne nL
    have hp1 := hp.upd (o := .lst []) nLp
    have eL1 := upd_same (H := H) (a := L) (o := .lst [])
    have s1 : SameB p H (L2.upd H L (.lst [])) := SameB.of (same_upd nL)
    generalize L2.upd H L (.lst []) = H1 at *
    refine ⟨_, rfl, m, rfl, by omega, by omega, for_range (lo := 0) (n := m.toNat) (fun i σ H' => ∃ (zs : List Str) (x4 x5 x6 x7 : Option V), σ = [some (.ref p), some (.int m), some (.str (Str.ofString "abcdefghijklmnopqrstuvwxyz")), some (.ref L), x4, x5, x6, x7, none, none] ∧ zs.length = i ∧ Names zs ∧ H' L = some (.lst (zs.map V.str)) ∧ Pot H' p ∧ SameB p H H')
      ⟨[], none, none, none, none, rfl, rfl, Names.nil, eL1, hp1, s1⟩ ?_ ?_⟩
    · rintro i σ H2 hi ⟨zs, x4, x5, x6, x7, rfl, hzl, hzs, eL2, hp2, s2⟩
      refine ⟨_, rfl, p, rfl, hp2, fun z H4 hnm hp4 s34 => ?_⟩
      have eL4 := s34 L _ nLp eL2
      have s4 := s2.trans s34
      dsimp (config := { proj := false, iota := false }) only
      apply joinA (α := Str × Option V) (J := fun a Hx => Nm a.1 ∧ Pot Hx p ∧ SameB p H Hx ∧ Hx L = some (.lst (zs.map V.str)))
        (sl := fun a => [some (.ref p), some (.int m), some (.str (Str.ofString "abcdefghijklmnopqrstuvwxyz")), some (.ref L), some (.int (0 + (i : Nat))), some (.str a.1), a.2, x7, none, none])
      · intro h
        refine ⟨_, rfl, by show 0 ≤ sizeLine; decide, fun k nk => ?_⟩
        have nkp := hp4.ne nk
        have nLk : L ≠ k := ne_of_none eL4 nk
        have hp5 := hp4.upd (o := .lst []) nkp
        have s5 : SameB p H (L2.upd H4 k (.lst [])) := SameB.new (s4.none hp4 nk) s4
        have eL5 : L2.upd H4 k (.lst []) L = some (.lst (zs.map V.str)) := by rw [upd_ne nLk]; exact eL4
        have ek5 := upd_same (H := H4) (a := k) (o := .lst [])
        generalize L2.upd H4 k (.lst []) = H5 at *
        refine ⟨L, k, _, rfl, rfl, eL5, ek5, _, rfl, ?_⟩
        cases hz0l : zs[0]? with
        | none =>
          have e : (!(zs.map V.str).isEmpty) = false := by
            rw [List.getElem?_eq_none_iff] at hz0l
            rw [List.length_eq_zero_iff.mp (Nat.le_zero.mp hz0l)]
            rfl
          rw [e]
          exact iteF (iteF (h (z, x6) H5 ⟨hnm, hp5, s5, eL5⟩))
        | some z0 =>
          have e : (!(zs.map V.str).isEmpty) = true := by
            have := (List.getElem?_eq_some_iff.mp hz0l).1
            rw [Bool.not_eq_true', List.isEmpty_eq_false_iff]
            intro e
            rw [List.map_eq_nil_iff] at e
            rw [e] at this
            cases this
          rw [e]
          refine iteT ⟨_, rfl, p, 3, rfl, hp5, by decide, by decide, fun e H6 e0 e1 hp6 s6 => ⟨rfl, _, rfl, ?_⟩⟩
          have eL6 := s6 L _ nLp eL5
          have s56 := s5.trans s6
          refine ite2 (fun _ => ?_) (fun _ => h (z, x6) H6 ⟨hnm, hp6, s56, eL6⟩)
          have hz0 := hzs.nm z0 (List.mem_of_getElem? hz0l)
          have z8 := hz0.l8
          have z1 := hz0.l1
          have hat : atI (zs.map V.str) 0 = some (.str z0) := atI_nat (j := 0) (by rw [List.getElem?_map, hz0l]; rfl)
          refine ⟨_, rfl, _, rfl, L, _, 0, .str z0, rfl, rfl, SqL.of eL6, hat, z0, rfl, small_txt (by omega), p, (z0.length : Nat), rfl, hp6, by omega, by omega, fun t H7 t0 t1 hp7 s7 => ?_⟩
          have eL7 := s7 L _ nLp eL6
          refine ⟨_, rfl, L, _, 0, .str z0, rfl, rfl, SqL.of eL7, hat, _, rfl, _, rfl, z0, rfl, small_txt (by omega), ?_⟩
          refine ⟨_, rfl, _, rfl, p, 26, rfl, hp7, by decide, by decide, fun e H8 e0 e1 hp8 s8 => ?_⟩
          have eL8 := s8 L _ nLp eL7
          obtain ⟨c, hc, lc, _⟩ := at_small26 e0 e1
          have c1 := cutS_length z0 none (some t)
          have c2 := cutS_length z0 (some (t + 1)) none
          have l1 : (⟨#[c]⟩ : Str).length = 1 := rfl
          refine ⟨_, e, c, rfl, rfl, by decide +kernel, hc, _, _, rfl, rfl, small_txt (by omega), ?_⟩
          refine ⟨_, rfl, L, _, 0, .str z0, rfl, rfl, SqL.of eL8, hat, _, rfl, _, _, rfl, rfl, _, rfl, z0, rfl, small_txt (by omega), _, _, rfl, rfl, small_txt (by rw [str_app_len]; omega), ?_⟩
          refine h (_, some (.int t)) H8 ⟨?_, hp8, s56.trans (s7.trans s8), eL8⟩
          show Nm (cutS z0 none (some t) ++ (⟨#[c]⟩ : Str) ++ cutS z0 (some (t + 1)) none)
          rw [turned_eq t0]
          exact nm_turned hz0 (by omega) lc
      rintro ⟨z', x6'⟩ H5 ⟨hnm5, hp5, s5, eL5⟩
      apply joinA (α := Str × Option V) (J := fun a Hx => (Nm a.1 ∧ a.1 ∉ zs) ∧ Pot Hx p ∧ SameB p H Hx ∧ Hx L = some (.lst (zs.map V.str)))
        (sl := fun a => [some (.ref p), some (.int m), some (.str (Str.ofString "abcdefghijklmnopqrstuvwxyz")), some (.ref L), some (.int (0 + (i : Nat))), some (.str a.1), x6', a.2, none, none])
      · intro h
        refine ⟨_, rfl, _, rfl, L, _, rfl, .inl (SqL.of eL5), rfl, strs_flat zs, _, rfl, ?_⟩
        rw [inV_dec]
        refine ite2 (fun hm => ?_) (fun hm => h (z', x7) H5 ⟨⟨hnm5, fun hz => absurd (decide_eq_true hz) hm⟩, hp5, s5, eL5⟩)
        refine ⟨_, rfl, _, _, rfl, rfl, m + 1, rfl, by omega, by omega, fun F nF => ?_⟩
        have nFp := hp5.ne nF
        have nLF : L ≠ F := ne_of_none eL5 nF
        have nF0 := s5.none hp5 nF
        refine lc_range (lo := 0) (n := (m + 1).toNat) (fun j H' => Pot H' p ∧ SameB p H H' ∧ H' L = some (.lst (zs.map V.str)) ∧ H' F = some (.lst (((List.range j).map cand).map V.str)))
          ⟨hp5.upd nFp, SameB.new nF0 s5, by rw [upd_ne nLF]; exact eL5, upd_same⟩ ?_ ?_
        · rintro j H6 hj ⟨hp6, s6, eL6, eF6⟩
          have hj' : j < 676 := by omega
          have j0 : (0 : Int) + ((j : Nat) : Int) = (j : Nat) := by omega
          rw [j0]
          obtain ⟨c, hc1, _, hc3⟩ := at_small26 (d := ((j : Nat) : Int) / 26) (by omega) (by omega)
          obtain ⟨e, he1, _, he3⟩ := at_small26 (d := ((j : Nat) : Int) % 26) (by omega) (by omega)
          have q1 : (Str.ofString "q").length = 1 := by decide +kernel
          have l1 : (⟨#[c]⟩ : Str).length = 1 := rfl
          have l2 : (⟨#[e]⟩ : Str).length = 1 := rfl
          refine ⟨rfl, ?_⟩
          refine ⟨_, rfl, _, rfl, _, _, rfl, rfl, ⟨by decide, by decide⟩, _, _, c, rfl, rfl, by decide +kernel, hc1, _, _, rfl, rfl, small_txt (by omega), ?_⟩
          refine ⟨_, rfl, _, rfl, _, _, rfl, rfl, by show (0 : Int) < 26; decide, _, _, e, rfl, rfl, by decide +kernel, he1, _, _, rfl, rfl, small_txt (by rw [str_app_len]; omega), ?_⟩
          rw [cand_eq hc3 he3]
          refine ⟨_, eF6, by rw [List.length_map, List.length_map, List.length_range]; exact small2k (by omega), hp6.upd nFp, SameB.new nF0 s6, by rw [upd_ne nLF]; exact eL6, ?_⟩
          rw [upd_same, List.range_succ, List.map_append, List.map_append]
          rfl
        · rintro H6 ⟨hp6, s6, eL6, eF6⟩
          refine ⟨_, rfl, F, rfl, ⟨_, SqL.of eF6⟩, fun G nG => ?_⟩
          have nGp := hp6.ne nG
          have nLG : L ≠ G := ne_of_none eL6 nG
          have nFG : F ≠ G := ne_of_none eF6 nG
          have nG0 := s6.none hp6 nG
          refine lc_list (K := K) (a := F) (xs := ((List.range (m + 1).toNat).map cand).map V.str) (fun j H' => Pot H' p ∧ SameB p H H' ∧ H' L = some (.lst (zs.map V.str)) ∧ H' F = some (.lst (((List.range (m + 1).toNat).map cand).map V.str)) ∧ H' G = some (.lst ((((List.range j).map cand).filter fun y => decide (y ∉ zs)).map V.str)))
            ⟨hp6.upd nGp, SameB.new nG0 s6, by rw [upd_ne nLG]; exact eL6, by rw [upd_ne nFG]; exact eF6, upd_same⟩ (fun j H' _ ⟨_, _, _, e, _⟩ => SqL.of e) ?_ ?_
          · rintro j x H7 hx ⟨hp7, s7, eL7, eF7, eG7⟩
            rw [List.map_map, List.getElem?_map, Option.map_eq_some_iff] at hx
            obtain ⟨j', hj', rfl⟩ := hx
            have hjn := (List.getElem?_eq_some_iff.mp hj').1
            rw [List.length_range] at hjn
            rw [List.getElem?_range hjn] at hj'
            cases hj'
            have en : ((List.range (j + 1)).map cand).filter (fun y => decide (y ∉ zs)) = ((List.range j).map cand).filter (fun y => decide (y ∉ zs)) ++ if cand j ∈ zs then [] else [cand j] := by
              rw [List.range_succ, List.map_append, List.filter_append]
              congr 1
              by_cases hc : cand j ∈ zs
              · simp [hc]
              · simp [hc]
            refine ⟨rfl, _, rfl, _, rfl, L, _, rfl, .inl (SqL.of eL7), rfl, strs_flat zs, _, rfl, ?_⟩
            rw [en]
            show (if (!inV (V.str (cand j)) (zs.map V.str)) = true then _ else _)
            rw [inV_dec]
            by_cases hc : cand j ∈ zs
            · rw [decide_eq_true hc, if_pos hc, List.append_nil]
              exact iteF ⟨hp7, s7, eL7, eF7, eG7⟩
            · rw [decide_eq_false hc, if_neg hc]
              refine iteT ⟨_, rfl, _, eG7, ?_, hp7.upd nGp, SameB.new nG0 s7, by rw [upd_ne nLG]; exact eL7, by rw [upd_ne nFG]; exact eF7, ?_⟩
              · rw [List.length_map]
                have := List.length_filter_le (fun y => decide (y ∉ zs)) ((List.range j).map cand)
                rw [List.length_map, List.length_range] at this
                exact small2k (by omega)
              · rw [upd_same, List.map_append]
                rfl
          · rintro H7 ⟨hp7, s7, eL7, eF7, eG7⟩
            rw [List.length_map, List.length_map, List.length_range] at eG7
            cases hy : ((List.range (m + 1).toNat).map cand).filter (fun y => decide (y ∉ zs)) with
            | nil =>
              exfalso
              have := cand_few (zs := zs) (m := (m + 1).toNat) fun k hk => Classical.byContradiction fun hn => by
                have : cand k ∈ ((List.range (m + 1).toNat).map cand).filter (fun y => decide (y ∉ zs)) := List.mem_filter.mpr ⟨List.mem_map.mpr ⟨k, List.mem_range.mpr hk, rfl⟩, decide_eq_true hn⟩
                rw [hy] at this
                cases this
              omega
            | cons y ys =>
              have hm := List.mem_filter.mp (show y ∈ ((List.range (m + 1).toNat).map cand).filter (fun y => decide (y ∉ zs)) by rw [hy]; exact List.mem_cons_self)
              obtain ⟨k, hk, hky⟩ := List.mem_map.mp hm.1
              have hk := List.mem_range.mp hk
              rw [hy] at eG7
              refine ⟨G, _, 0, .str y, rfl, rfl, SqL.of eG7, atI_nat (j := 0) rfl, h (y, some (.ref F)) H7 ⟨⟨?_, of_decide_eq_true hm.2⟩, hp7, s7, eL7⟩⟩
              show Nm y
              rw [← hky]
              exact cand_nm (by omega)
      rintro ⟨y, x7'⟩ H6 ⟨⟨hy, hout⟩, hp6, s6, eL6⟩
      refine ⟨_, rfl, .inl ⟨rfl, _, SqL.of eL6⟩, _, rfl, L, _, _, rfl, rfl, eL6, by rw [List.length_map]; exact small2k (by omega), ?_⟩
      refine ⟨zs ++ [y], _, _, _, _, rfl, by rw [List.length_append, hzl]; rfl, hzs.snoc hy hout, ?_, hp6.upd nLp, SameB.new nL s6⟩
      rw [upd_same, List.map_append]
      rfl
    · rintro σ H2 ⟨zs, x4, x5, x6, x7, rfl, hzl, hzs, eL2, hp2, s2⟩
      exact ⟨_, rfl, q L zs H2 nL eL2 hzs hzl hp2 s2⟩
end
end K91
set_option Elab.async false
set_option linter.all false
set_option maxRecDepth 100000
set_option maxHeartbeats 1600000
set_option pp.maxSteps 300
namespace K91
open PySem PySem.Spec PyProof.Rows L2 LT NdefX LamX
section
variable {P : Program} {w : World} {K : PySem.W.Frag} {mg : Str → Option Value} {base : Heap}
theorem sc__law_plan : FnScope ["_law_pot_here"] ["_law_pot_here"] (defScope s__law_plan) := ⟨rfl, rfl, rfl, by decide +kernel, rfl, by decide +kernel, by decide +kernel⟩
theorem ok__law_plan (D : All K P mg) : FnOk P w K mg base CX0 4 D.f__law_plan D.d__law_plan ["_law_pot_here"] spPlan9 := by
  refine D.h__law_plan.fn.ok sc__law_plan (fun vs H Q E h => ?_) (fun cdv A outer s H vs Q E hr h => ?_)
  · first | (obtain ⟨_, rfl, _⟩ := h; rfl) | (obtain ⟨_, _, rfl, _⟩ := h; rfl) | (obtain ⟨_, _, _, rfl, _⟩ := h; rfl) | (obtain ⟨_, _, _, _, rfl, _⟩ := h; rfl) | (obtain ⟨_, _, _, _, _, rfl, _⟩ := h; rfl) | (obtain ⟨_, _, _, _, _, _, rfl, _⟩ := h; rfl) | (obtain ⟨_, _, _, _, _, _, _, rfl, _⟩ := h; rfl) | (obtain ⟨_, _, _, _, _, _, _, _, rfl, _⟩ := h; rfl) | (obtain ⟨_, _, _, _, _, _, _, _, _, rfl, _⟩ := h; rfl) | (obtain ⟨_, _, _, _, _, _, _, _, _, _, rfl, _⟩ := h; rfl) | (obtain ⟨_, _, _, _, _, _, _, _, _, _, _, rfl, _⟩ := h; rfl) | (obtain ⟨_, _, _, _, _, _, _, _, _, _, _, _, rfl, _⟩ := h; rfl) | (obtain ⟨_, _, _, _, _, _, _, _, _, _, _, _, _, rfl, _⟩ := h; rfl) | (obtain ⟨_, _, _, _, _, _, _, _, _, _, _, _, _, _, rfl, _⟩ := h; rfl) | (obtain ⟨_, _, _, _, _, _, _, _, _, _, _, _, _, _, _, rfl, _⟩ := h; rfl)
  · have T := D.T
    have nd := sc__law_plan.nd
    have hu := hr.units
    have hu1 := hu_of hr
    have hu0 := hr.units0
    obtain ⟨p, rfl, hp, q⟩ := h
    refine ⟨_, pss_one (ps_ret (pe_tup (pa_cons (pe_call (ok__law_unlike D) (hr.mono (by decide)) (by rfl) D.h__law_unlike.gl D.h__law_unlike.fn.kp D.h__law_unlike.bd .nil pass0 (pa_cons (pv 0) (pa_cons (pe_op op_add pe_int (pe_call (ok__law_take D) (hr.mono (by decide)) (by rfl) D.h__law_take.gl D.h__law_take.fn.kp D.h__law_take.bd .nil pass0 (pa_cons (pv 0) (pa_cons pe_int pa_nil)))) pa_nil))) (pa_cons (pe_call (ok__law_far D) (hr.mono (by decide)) (by rfl) D.h__law_far.gl D.h__law_far.fn.kp D.h__law_far.bd .nil pass0 (pa_cons (pv 0) pa_nil)) (pa_cons (pe_call (ok__law_far D) (hr.mono (by decide)) (by rfl) D.h__law_far.gl D.h__law_far.fn.kp D.h__law_far.bd .nil pass0 (pa_cons (pv 0) pa_nil)) pa_nil))))), ?_⟩
    refine ⟨_, rfl, _, rfl, p, 2, rfl, hp, by decide, by decide, fun e H1 e0 e1 hp1 s1 => ?_⟩
    refine ⟨_, _, rfl, rfl, p, 1 + e, rfl, hp1, by omega, by omega, fun L ls H2 nL eL hls hll hp2 s2 => ?_⟩
    refine ⟨_, rfl, p, rfl, hp2, fun far H3 f0 f1 hp3 s3 => ?_⟩
    refine ⟨_, rfl, p, rfl, hp3, fun base H4 b0 b1 hp4 s4 => ?_⟩
    refine ⟨by show 3 ≤ sizeLine; decide, fun PT nPT => ?_⟩
    have s34 := s3.trans s4
    have eL4 := s34 _ _ (ne_of_pot hp2 eL strs_no_pot) eL
    have s04 := s1.trans (s2.trans s34)
    exact q PT ⟨L, ls, far, base⟩ _ (s04.none hp4 nPT) (s1.none hp1 nL) ⟨hls, by show 0 < ls.length; omega, by show ls.length ≤ 2; omega, f0, f1, b0, b1⟩ ⟨upd_same, by show L2.upd H4 PT _ L = _; rw [upd_ne (ne_of_none eL4 nPT)]; exact eL4⟩ (hp4.upd (hp4.ne nPT)) (SameB.new (s04.none hp4 nPT) s04)
theorem sc__law_key : FnScope ["_law_pot_here", "_law_plan_here", "_law_names", "_law_lights", "_law_far_here", "_law_base", "_law_day", "_law_asof"] ["_law_pot_here", "_law_plan_here", "_law_names"] (defScope s__law_key) := ⟨rfl, rfl, rfl, by decide +kernel, rfl, by decide +kernel, by decide +kernel⟩
theorem ok__law_key (D : All K P mg) : FnOk P w K mg base CX0 2 D.f__law_key D.d__law_key ["_law_pot_here", "_law_plan_here", "_law_names"] spKey9 := by
  refine D.h__law_key.fn.ok sc__law_key (fun vs H Q E h => ?_) (fun cdv A outer s H vs Q E hr h => ?_)
  · first | (obtain ⟨_, rfl, _⟩ := h; rfl) | (obtain ⟨_, _, rfl, _⟩ := h; rfl) | (obtain ⟨_, _, _, rfl, _⟩ := h; rfl) | (obtain ⟨_, _, _, _, rfl, _⟩ := h; rfl) | (obtain ⟨_, _, _, _, _, rfl, _⟩ := h; rfl) | (obtain ⟨_, _, _, _, _, _, rfl, _⟩ := h; rfl) | (obtain ⟨_, _, _, _, _, _, _, rfl, _⟩ := h; rfl) | (obtain ⟨_, _, _, _, _, _, _, _, rfl, _⟩ := h; rfl) | (obtain ⟨_, _, _, _, _, _, _, _, _, rfl, _⟩ := h; rfl) | (obtain ⟨_, _, _, _, _, _, _, _, _, _, rfl, _⟩ := h; rfl) | (obtain ⟨_, _, _, _, _, _, _, _, _, _, _, rfl, _⟩ := h; rfl) | (obtain ⟨_, _, _, _, _, _, _, _, _, _, _, _, rfl, _⟩ := h; rfl) | (obtain ⟨_, _, _, _, _, _, _, _, _, _, _, _, _, rfl, _⟩ := h; rfl) | (obtain ⟨_, _, _, _, _, _, _, _, _, _, _, _, _, _, rfl, _⟩ := h; rfl) | (obtain ⟨_, _, _, _, _, _, _, _, _, _, _, _, _, _, _, rfl, _⟩ := h; rfl)
  · have T := D.T
    have nd := sc__law_key.nd
    have hu := hr.units
    have hu1 := hu_of hr
    have hu0 := hr.units0
    obtain ⟨p, PT, N, d, ns, rfl, hp, hT, hG, hN, hl, q⟩ := h
    refine ⟨_, pss_cons (ps_asg (pv 1) (pg_tup rfl (pgs_cons (pg_name (i := 3) nd rfl (Or.inl rfl)) (pgs_cons (pg_name (i := 4) nd rfl (Or.inl rfl)) (pgs_cons (pg_name (i := 5) nd rfl (Or.inl rfl)) pgs_nil)))))
      (pss_cons (ps_set (i := 6) nd rfl (.inl rfl) (pe_op op_add (pe_op op_mul (pv 4) (pe_call (ok__law_take D) (hr.mono (by decide)) (by rfl) D.h__law_take.gl D.h__law_take.fn.kp D.h__law_take.bd .nil pass0 (pa_cons (pv 0) (pa_cons pe_int pa_nil)))) (pe_call (ok__law_take D) (hr.mono (by decide)) (by rfl) D.h__law_take.gl D.h__law_take.fn.kp D.h__law_take.bd .nil pass0 (pa_cons (pv 0) (pa_cons pe_int pa_nil)))))
      (pss_cons (ps_set (i := 7) nd rfl (.inl rfl) (pe_op op_add (pv 5) (pe_call (ok__law_take D) (hr.mono (by decide)) (by rfl) D.h__law_take.gl D.h__law_take.fn.kp D.h__law_take.bd .nil pass0 (pa_cons (pv 0) (pa_cons pe_int pa_nil)))))
      (pss_cons (ps_if (PW.pt (pw_or (pt_cmpR (op_eqNil hu) (pv 2) (pe_lst pa_nil) (nomark _)) (pw_or1 (pt_cmpR op_eq (pe_call (ok__law_take D) (hr.mono (by decide)) (by rfl) D.h__law_take.gl D.h__law_take.fn.kp D.h__law_take.bd .nil pass0 (pa_cons (pv 0) (pa_cons pe_int pa_nil))) pe_int (nomark _))))) (pss_one (ps_ret (pe_tup (pa_cons pe_str (pa_cons (pv 7) (pa_cons (pe_ix ix_list (pv 3) (pe_call (ok__law_take D) (hr.mono (by decide)) (by rfl) D.h__law_take.gl D.h__law_take.fn.kp D.h__law_take.bd .nil pass0 (pa_cons (pv 0) (pa_cons (pe_callB call_len_seq (by rfl) T.len PySem.boot_len (pa_cons (pv 3) pa_nil)) pa_nil))) (fun _ _ => rfl)) (pa_cons (pv 6) pa_nil))))))) pss_nil)
      (pss_one (ps_ret (pe_tup (pa_cons pe_str (pa_cons (pv 7) (pa_cons (pe_ix ix_list (pv 2) (pe_call (ok__law_take D) (hr.mono (by decide)) (by rfl) D.h__law_take.gl D.h__law_take.fn.kp D.h__law_take.bd .nil pass0 (pa_cons (pv 0) (pa_cons (pe_callB call_len_seq (by rfl) T.len PySem.boot_len (pa_cons (pv 2) pa_nil)) pa_nil))) (fun _ _ => rfl)) (pa_cons (pv 6) pa_nil)))))))))), ?_⟩
    have f0 := hG.f0
    have f1 := hG.f1
    have b0 := hG.b0
    have b1 := hG.b1
    refine ⟨_, rfl, PT, _, rfl, SqT.of hT.t, rfl, _, _, rfl, _, _, rfl, _, _, rfl, rfl, ?_⟩
    refine ⟨_, rfl, _, rfl, p, 2, rfl, hp, by decide, by decide, fun a H1 a0 a1 hp1 s1 => ?_⟩
    refine ⟨_, _, rfl, rfl, .inr ⟨by omega, by omega⟩, _, rfl, p, 6, rfl, hp1, by decide, by decide, fun c H2 c0 c1 hp2 s2 => ?_⟩
    refine ⟨_, _, rfl, rfl, ?_⟩
    refine ⟨_, rfl, _, rfl, p, 5, rfl, hp2, by decide, by decide, fun g H3 g0 g1 hp3 s3 => ?_⟩
    refine ⟨_, _, rfl, rfl, ?_⟩
    have s03 := s1.trans (s2.trans s3)
    have hN3 := s03 _ _ (ne_of_pot hp hN strs_no_pot) hN
    have day0 : 0 ≤ d.far * a + c := by
      have : a = 0 ∨ a = 1 := by omega
      rcases this with rfl | rfl <;> omega
    have day1 : d.far * a + c ≤ d.far + 5 := by
      have : a = 0 ∨ a = 1 := by omega
      rcases this with rfl | rfl <;> omega
    dsimp (config := { proj := false, iota := false }) only
    generalize d.far * a + c = day at *
    refine ⟨_, rfl, by show 0 ≤ sizeLine; decide, fun k nk => ?_⟩
    have hT3 := hT.look hp s03
    have nkp := hp3.ne nk
    have hN4 : L2.upd H3 k (.lst []) N = some (.lst (ns.map V.str)) := by rw [upd_ne (ne_of_none hN3 nk)]; exact hN3
    have hp4 := hp3.upd (o := .lst []) nkp
    have ek := upd_same (H := H3) (a := k) (o := .lst [])
    have s04 : SameB p H (L2.upd H3 k (.lst [])) := SameB.new (s03.none hp3 nk) s03
    have hT4 : PlT (L2.upd H3 k (.lst [])) PT d := ⟨by rw [upd_ne (ne_of_none hT3.t nk)]; exact hT3.t, by rw [upd_ne (ne_of_none hT3.l nk)]; exact hT3.l⟩
    generalize L2.upd H3 k (.lst []) = H4 at *
    refine ⟨N, k, _, rfl, rfl, hN4, ek, _, rfl, ?_⟩
    cases hns : ns with
    | nil =>
      refine iteT ?_
      have hp5 := hp4
      have s05 := s04
      have hT5 := hT4
      refine ⟨_, rfl, _, rfl, _, rfl, _, rfl, d.L, _, rfl, .inl (SqL.of hT5.l), p, _, rfl, hp5, by rw [List.length_map]; have := hG.l0; omega, by rw [List.length_map]; have := hG.l2; omega, fun g2 H6 g20 g21 hp6 s6 => ?_⟩
      obtain ⟨v, hv, ev⟩ := at_any g20 g21
      obtain ⟨z, hz, rfl⟩ := List.mem_map.mp hv
      have hT6 := hT5.look hp5 s6
      refine ⟨d.L, _, g2, .str z, rfl, rfl, SqL.of hT6.l, ev, _, rfl, by show 4 ≤ sizeLine; decide, fun M nM => ?_⟩
      have s06 := s05.trans s6
      exact q M (false, d.base + g, z, day) _ (s06.none hp6 nM) upd_same ⟨by show d.base ≤ d.base + g; omega, by show d.base + g ≤ d.base + 4; omega, day0, day1, fun _ => hz, nofun⟩ (hp6.upd (hp6.ne nM)) (SameB.new (s06.none hp6 nM) s06)
    | cons n0 nr =>
      rw [← hns]
      have e : (ns.map V.str).isEmpty = false := by rw [hns]; rfl
      rw [e]
      refine iteF ⟨_, rfl, p, 3, rfl, hp4, by decide, by decide, fun c2 H5 c20 c21 hp5 s5 => ⟨rfl, _, rfl, ?_⟩⟩
      have s05 := s04.trans s5
      have hT5 := hT4.look hp4 s5
      have hN5 := s5 _ _ (ne_of_pot hp4 hN4 strs_no_pot) hN4
      refine ite2 (fun _ => ?_) (fun _ => ?_)
      · skip
        refine ⟨_, rfl, _, rfl, _, rfl, _, rfl, d.L, _, rfl, .inl (SqL.of hT5.l), p, _, rfl, hp5, by rw [List.length_map]; have := hG.l0; omega, by rw [List.length_map]; have := hG.l2; omega, fun g2 H6 g20 g21 hp6 s6 => ?_⟩
        obtain ⟨v, hv, ev⟩ := at_any g20 g21
        obtain ⟨z, hz, rfl⟩ := List.mem_map.mp hv
        have hT6 := hT5.look hp5 s6
        refine ⟨d.L, _, g2, .str z, rfl, rfl, SqL.of hT6.l, ev, _, rfl, by show 4 ≤ sizeLine; decide, fun M nM => ?_⟩
        have s06 := s05.trans s6
        exact q M (false, d.base + g, z, day) _ (s06.none hp6 nM) upd_same ⟨by show d.base ≤ d.base + g; omega, by show d.base + g ≤ d.base + 4; omega, day0, day1, fun _ => hz, nofun⟩ (hp6.upd (hp6.ne nM)) (SameB.new (s06.none hp6 nM) s06)
      · refine ⟨_, rfl, _, rfl, _, rfl, _, rfl, N, _, rfl, .inl (SqL.of hN5), p, _, rfl, hp5, by rw [List.length_map, hns]; exact Int.natCast_pos.mpr (Nat.succ_pos _), by rw [List.length_map]; omega, fun g2 H6 g20 g21 hp6 s6 => ?_⟩
        obtain ⟨v, hv, ev⟩ := at_any g20 g21
        obtain ⟨z, hz, rfl⟩ := List.mem_map.mp hv
        have hN6 := s6 _ _ (ne_of_pot hp5 hN5 strs_no_pot) hN5
        refine ⟨N, _, g2, .str z, rfl, rfl, SqL.of hN6, ev, _, rfl, by show 4 ≤ sizeLine; decide, fun M nM => ?_⟩
        have s06 := s05.trans s6
        exact q M (true, d.base + g, z, day) _ (s06.none hp6 nM) upd_same ⟨by show d.base ≤ d.base + g; omega, by show d.base + g ≤ d.base + 4; omega, day0, day1, nofun, fun _ => hz⟩ (hp6.upd (hp6.ne nM)) (SameB.new (s06.none hp6 nM) s06)
theorem sc__law_worth : FnScope ["_law_pot_here", "_law_plan_here", "_law_mark", "_law_lights", "_law_far_here", "_law_base"] ["_law_pot_here", "_law_plan_here", "_law_mark"] (defScope s__law_worth) := ⟨rfl, rfl, rfl, by decide +kernel, rfl, by decide +kernel, by decide +kernel⟩
theorem ok__law_worth (D : All K P mg) : FnOk P w K mg base CX0 2 D.f__law_worth D.d__law_worth ["_law_pot_here", "_law_plan_here", "_law_mark"] spWorth9 := by
  refine D.h__law_worth.fn.ok sc__law_worth (fun vs H Q E h => ?_) (fun cdv A outer s H vs Q E hr h => ?_)
  · first | (obtain ⟨_, rfl, _⟩ := h; rfl) | (obtain ⟨_, _, rfl, _⟩ := h; rfl) | (obtain ⟨_, _, _, rfl, _⟩ := h; rfl) | (obtain ⟨_, _, _, _, rfl, _⟩ := h; rfl) | (obtain ⟨_, _, _, _, _, rfl, _⟩ := h; rfl) | (obtain ⟨_, _, _, _, _, _, rfl, _⟩ := h; rfl) | (obtain ⟨_, _, _, _, _, _, _, rfl, _⟩ := h; rfl) | (obtain ⟨_, _, _, _, _, _, _, _, rfl, _⟩ := h; rfl) | (obtain ⟨_, _, _, _, _, _, _, _, _, rfl, _⟩ := h; rfl) | (obtain ⟨_, _, _, _, _, _, _, _, _, _, rfl, _⟩ := h; rfl) | (obtain ⟨_, _, _, _, _, _, _, _, _, _, _, rfl, _⟩ := h; rfl) | (obtain ⟨_, _, _, _, _, _, _, _, _, _, _, _, rfl, _⟩ := h; rfl) | (obtain ⟨_, _, _, _, _, _, _, _, _, _, _, _, _, rfl, _⟩ := h; rfl) | (obtain ⟨_, _, _, _, _, _, _, _, _, _, _, _, _, _, rfl, _⟩ := h; rfl) | (obtain ⟨_, _, _, _, _, _, _, _, _, _, _, _, _, _, _, rfl, _⟩ := h; rfl)
  · have T := D.T
    have nd := sc__law_worth.nd
    have hu := hr.units
    have hu1 := hu_of hr
    have hu0 := hr.units0
    obtain ⟨p, PT, M, d, k, rfl, hp, hT, hG, hM, q⟩ := h
    refine ⟨_, pss_cons (ps_asg (pv 1) (pg_tup rfl (pgs_cons (pg_name (i := 3) nd rfl (Or.inl rfl)) (pgs_cons (pg_name (i := 4) nd rfl (Or.inl rfl)) (pgs_cons (pg_name (i := 5) nd rfl (Or.inl rfl)) pgs_nil)))))
      (pss_cons (ps_if (pt_cmpR op_eq (pe_ix ix_tup (pv 2) pe_int (fun _ _ => rfl)) pe_str (nomark _)) (pss_one (ps_ret (pe_ix ix_list (pe_lst (pa_cons pe_int (pa_cons (pe_call (ok__law_take D) (hr.mono (by decide)) (by rfl) D.h__law_take.gl D.h__law_take.fn.kp D.h__law_take.bd .nil pass0 (pa_cons (pv 0) (pa_cons pe_int pa_nil))) (pa_cons (pe_op op_add (pv 4) (pe_call (ok__law_take D) (hr.mono (by decide)) (by rfl) D.h__law_take.gl D.h__law_take.fn.kp D.h__law_take.bd .nil pass0 (pa_cons (pv 0) (pa_cons pe_int pa_nil)))) pa_nil)))) (pe_call (ok__law_take D) (hr.mono (by decide)) (by rfl) D.h__law_take.gl D.h__law_take.fn.kp D.h__law_take.bd .nil pass0 (pa_cons (pv 0) (pa_cons pe_int pa_nil))) (fun _ _ => rfl)))) pss_nil)
      (pss_one (ps_ret (pe_ix ix_list (pe_lst (pa_cons (pe_ix ix_list (pv 3) pe_int (fun _ _ => rfl)) (pa_cons (pe_ix ix_list (pv 3) (pe_un un_neg pe_int) (fun _ _ => rfl)) (pa_cons pe_str (pa_cons pe_non pa_nil))))) (pe_call (ok__law_take D) (hr.mono (by decide)) (by rfl) D.h__law_take.gl D.h__law_take.fn.kp D.h__law_take.bd .nil pass0 (pa_cons (pv 0) (pa_cons pe_int pa_nil))) (fun _ _ => rfl))))), ?_⟩
    refine ⟨_, rfl, PT, _, rfl, SqT.of hT.t, rfl, _, _, rfl, _, _, rfl, _, _, rfl, rfl, ?_⟩
    refine ⟨_, rfl, M, _, 0, .str (kindS k.1), rfl, rfl, SqT.of hM, atI_nat (j := 0) rfl, ?_⟩
    refine ⟨rfl, _, rfl, ?_⟩
    rw [kind_land]
    have f0 := hG.f0
    have f1 := hG.f1
    obtain ⟨mv, kn, who, day⟩ := k
    cases mv with
    | false =>
      refine iteT ⟨_, rfl, p, 30, rfl, hp, by decide, by decide, fun a H1 a0 a1 hp1 s1 => ?_⟩
      refine ⟨_, rfl, _, rfl, p, 9, rfl, hp1, by decide, by decide, fun c H2 c0 c1 hp2 s2 => ⟨_, _, rfl, rfl, ?_⟩⟩
      refine ⟨by show 3 ≤ sizeLine; decide, fun x nx => ?_⟩
      have nxp := hp2.ne nx
      have ex := upd_same (H := H2) (a := x) (o := .lst [V.int 0, .int a, .int (d.far + c)])
      have hp3 := hp2.upd (o := .lst [V.int 0, .int a, .int (d.far + c)]) nxp
      have s3 := SameB.new (o := .lst [V.int 0, .int a, .int (d.far + c)]) ((s1.trans s2).none hp2 nx) (s1.trans s2)
      generalize L2.upd H2 x (.lst [V.int 0, .int a, .int (d.far + c)]) = H3 at *
      refine ⟨_, rfl, p, 3, rfl, hp3, by decide, by decide, fun e H4 e0 e1 hp4 s4 => ?_⟩
      obtain ⟨v, hv, ev⟩ := at_any (xs := [V.int 0, .int a, .int (d.far + c)]) e0 e1
      have ok : ∃ n : Int, v = .int n ∧ 0 ≤ n ∧ n < 10 ^ 55 := by
        simp only [List.mem_cons, List.not_mem_nil, or_false] at hv
        rcases hv with rfl | rfl | rfl
        · exact ⟨0, rfl, by decide, by decide⟩
        · exact ⟨a, rfl, a0, by omega⟩
        · exact ⟨d.far + c, rfl, by omega, by omega⟩
      obtain ⟨n, rfl, n0, n1⟩ := ok
      exact ⟨x, _, e, _, rfl, rfl, SqL.of (s4 _ _ nxp ex), ev, q _ H4 ⟨⟨n, rfl, n0, by omega⟩, fun m h => by cases h; exact n1⟩ hp4 (s3.trans s4)⟩
    | true =>
      have l0 := hG.l0
      obtain ⟨z0, hz0⟩ : ∃ z, d.ls[0]? = some z := ⟨_, List.getElem?_eq_getElem l0⟩
      obtain ⟨z1, hz1⟩ : ∃ z, d.ls[d.ls.length - 1]? = some z := ⟨_, List.getElem?_eq_getElem (by omega)⟩
      have a0 : atI (d.ls.map V.str) 0 = some (.str z0) := atI_nat (j := 0) (by rw [List.getElem?_map, hz0]; rfl)
      have a1 : atI (d.ls.map V.str) (-1) = some (.str z1) := atI_end63 (by rw [List.length_map, List.getElem?_map, hz1]; rfl)
      have m0 := hG.ls.nm z0 (List.mem_of_getElem? hz0)
      have m1 := hG.ls.nm z1 (List.mem_of_getElem? hz1)
      refine iteF ⟨_, rfl, d.L, _, 0, .str z0, rfl, rfl, SqL.of hT.l, a0, _, rfl, _, rfl, d.L, _, -1, .str z1, rfl, rfl, SqL.of hT.l, a1, by show 4 ≤ sizeLine; decide, fun x nx => ?_⟩
      have nxp := hp.ne nx
      have ex := upd_same (H := H) (a := x) (o := .lst [V.str z0, .str z1, .str (Str.ofString ""), .non])
      have hp3 := hp.upd (o := .lst [V.str z0, .str z1, .str (Str.ofString ""), .non]) nxp
      have s3 : SameB p H _ := SameB.of (same_upd (o := .lst [V.str z0, .str z1, .str (Str.ofString ""), .non]) nx)
      generalize L2.upd H x (.lst [V.str z0, .str z1, .str (Str.ofString ""), .non]) = H3 at *
      refine ⟨_, rfl, p, 4, rfl, hp3, by decide, by decide, fun e H4 e0 e1 hp4 s4 => ?_⟩
      obtain ⟨v, hv, ev⟩ := at_any (xs := [V.str z0, .str z1, .str (Str.ofString ""), .non]) e0 e1
      refine ⟨x, _, e, v, rfl, rfl, SqL.of (s4 _ _ nxp ex), ev, q v H4 ⟨?_, fun n h => ?_⟩ hp4 (s3.trans s4)⟩
      · show v = .non ∨ ∃ z, v = .str z ∧ Pl z
        simp only [List.mem_cons, List.not_mem_nil, or_false] at hv
        rcases hv with rfl | rfl | rfl | rfl
        · exact .inr ⟨_, rfl, .inr m0⟩
        · exact .inr ⟨_, rfl, .inr m1⟩
        · exact .inr ⟨_, rfl, .inl rfl⟩
        · exact .inl rfl
      · simp only [List.mem_cons, List.not_mem_nil, or_false] at hv
        rcases hv with rfl | rfl | rfl | rfl <;> cases h
end
end K91
set_option Elab.async false
set_option linter.all false
set_option maxRecDepth 100000
set_option maxHeartbeats 1600000
set_option pp.maxSteps 300
namespace K91
open PySem PySem.Spec PyProof.Rows L2 LT NdefX LamX
section
variable {P : Program} {w : World} {K : PySem.W.Frag} {mg : Str → Option Value} {base : Heap}
theorem sc__law_book : FnScope ["_law_ranks", "_law_entries", "_law_book_here", "_law_mark"] ["_law_ranks", "_law_entries"] (defScope s__law_book) := ⟨rfl, rfl, rfl, by decide +kernel, rfl, by decide +kernel, by decide +kernel⟩
theorem ok__law_book (D : All K P mg) (TB : TBs D base) : FnOk P w K mg base CX0 9 D.f__law_book D.d__law_book ["_law_ranks", "_law_entries"] (spBook9 D.C_Book D.C_History (TLs D)) := by
  refine D.L__law_book.ok sc__law_book (fun vs H Q E h => ?_) (fun A outer s H vs Q E hr h => ?_)
  · first | (obtain ⟨_, rfl, _⟩ := h; rfl) | (obtain ⟨_, _, rfl, _⟩ := h; rfl) | (obtain ⟨_, _, _, rfl, _⟩ := h; rfl) | (obtain ⟨_, _, _, _, rfl, _⟩ := h; rfl) | (obtain ⟨_, _, _, _, _, rfl, _⟩ := h; rfl) | (obtain ⟨_, _, _, _, _, _, rfl, _⟩ := h; rfl) | (obtain ⟨_, _, _, _, _, _, _, rfl, _⟩ := h; rfl) | (obtain ⟨_, _, _, _, _, _, _, _, rfl, _⟩ := h; rfl) | (obtain ⟨_, _, _, _, _, _, _, _, _, rfl, _⟩ := h; rfl) | (obtain ⟨_, _, _, _, _, _, _, _, _, _, rfl, _⟩ := h; rfl) | (obtain ⟨_, _, _, _, _, _, _, _, _, _, _, rfl, _⟩ := h; rfl) | (obtain ⟨_, _, _, _, _, _, _, _, _, _, _, _, rfl, _⟩ := h; rfl) | (obtain ⟨_, _, _, _, _, _, _, _, _, _, _, _, _, rfl, _⟩ := h; rfl) | (obtain ⟨_, _, _, _, _, _, _, _, _, _, _, _, _, _, rfl, _⟩ := h; rfl) | (obtain ⟨_, _, _, _, _, _, _, _, _, _, _, _, _, _, _, rfl, _⟩ := h; rfl)
  · have T := D.T
    have nd := sc__law_book.nd
    have hu := hr.units
    have hu1 := hu_of hr
    have hu0 := hr.units0
    obtain ⟨r, E1, rk, t, rfl, hr', k, hE, ndt, lt, okt, hT, q⟩ := h
    refine ⟨_, pss_cons (ps_set (i := 2) nd rfl (.inl rfl) (pe_make D.M_Book (ok_Book___init__ D) (hr.mono (by decide)) (by rfl) D.Z_Book.gl D.h_Book___init__.bd .nil pass0 (pa_cons (pe_callTy call_dictD (by rfl) T.dict (by decide +kernel) (pa_cons (pv 0) pa_nil)) pa_nil)))
      (pss_cons (ps_for PassesOwn.never rfl (pi_list (pe_sortedLamD (T := TLs D) (x := "_law_row") (k := 0) (by rfl) T.sorted (pa_cons (pv 1) pa_nil) rfl rfl rfl TB.t__law_book rfl D.mem__law_book (fun p hp e => D.uq__law_book p hp e) (show LamP (defScope s__law_book) _ _ from lamP_by (by decide +kernel)) (show ("_law_row" : Str) ∉ (["_law_ranks", "_law_entries", "_law_book_here", "_law_mark"] : List Str) by decide) rfl (fun _ _ _ _ _ _ => rfl) (hr.mono (by decide)) (fun A outer s H f c' hr3 => pe_ix (r := rIxT K) ix_tup (pv 0) pe_int (fun _ _ => rfl)) (by decide +kernel))) (pg_name (i := 3) nd rfl (Or.inl rfl)) (pss_one (ps_if (pt_cmpR op_eq (pe_ix ix_tup (pv 3) pe_int (fun _ _ => rfl)) pe_str (nomark _)) (pss_one (ps_expr (pe_meth (pv 2) D.Z_Book.cl D.h_Book_tell.me (ok_Book_tell D) (hr.mono (by decide)) D.h_Book_tell.bd .nil pass0 (pa_cons (pe_ix ix_tup (pv 3) pe_int (fun _ _ => rfl)) (pa_cons (pe_ix ix_tup (pv 3) pe_int (fun _ _ => rfl)) (pa_cons (pe_ix ix_tup (pv 3) pe_int (fun _ _ => rfl)) (pa_cons (pe_dget hu1 (pv 1) (pv 3) (fun _ _ => rfl)) pa_nil))))))) (pss_one (ps_expr (pe_meth (pv 2) D.Z_Book.cl D.h_Book_land.me (ok_Book_land D) (hr.mono (by decide)) D.h_Book_land.bd .nil pass0 (pa_cons (pe_ix ix_tup (pv 3) pe_int (fun _ _ => rfl)) (pa_cons (pe_ix ix_tup (pv 3) pe_int (fun _ _ => rfl)) (pa_cons (pe_ix ix_tup (pv 3) pe_int (fun _ _ => rfl)) (pa_cons (pe_dget hu1 (pv 1) (pv 3) (fun _ _ => rfl)) pa_nil))))))))))
      (pss_one (ps_ret (pv 2)))), ?_⟩
    refine ⟨_, rfl, r, _, rfl, Rd.of hr', fun r2 nr2 => ?_⟩
    have s0 := same_upd (o := .dK (sd rk)) nr2
    have er2 := upd_same (H := H) (a := r2) (o := .dK (sd rk))
    generalize L2.upd H r2 (.dK (sd rk)) = H0 at *
    refine fun b dx nb ndb nex => ?_
    have sm := same_made (C := D.C_Book) (o := .ins D.C_Book dx []) nb ndb
    refine ⟨b, dx, r2, rk, rfl, upd_same, sm _ _ er2, k, fun fp H1 bk fr sb => ⟨rfl, ?_⟩⟩
    have s01 : Same H0 H1 := sameB_new nb sm sb
    have s1 := s0.trans s01
    have frN : ∀ a ∈ fp, H a = none := fun a ha => by
      rcases fr a ha with h | h
      · rw [h]
        exact s0.free nb
      · exact s0.free (sm.free h)
    refine ⟨_, rfl, hT.ext s1, E1, enT t, rfl, s1 _ _ hE, fun H2 e2 T2 bs hbs => ⟨knOfV H2, fun v hv Q' hQ' => ?_, fun l2 nl => ⟨l2, rfl, ⟨_, SqL.of upd_same⟩, ?_⟩⟩⟩
    · obtain ⟨i, hi⟩ := List.getElem?_of_mem hv
      have hk := keys_at hbs
      rw [List.getElem?_map, Option.map_eq_some_iff] at hi
      obtain ⟨b0, hb0, rfl⟩ := hi
      have il := (List.getElem?_eq_some_iff.mp hb0).1
      have hl := Paired.length hk
      obtain ⟨p0, hp0⟩ : ∃ p, t[i]? = some p := ⟨_, List.getElem?_eq_getElem (by omega)⟩
      obtain ⟨b', hb', kb⟩ := L2.paired_get hk hp0
      rw [hb0] at hb'
      cases hb'
      rw [knOf_is kb] at hQ'
      exact ⟨_, rfl, b0, _, 1, _, rfl, rfl, SqT.of kb, atI_nat (j := 1) rfl, hQ'⟩
    obtain ⟨t', bs', e1, hk', pm, up⟩ := keys_kn (keys_at hbs)
    have ok' : ∀ p ∈ t', EvOK rk (evOfK p) := fun p hp => okt p (pm.mem_iff.mp hp)
    have lt' : t'.length ≤ 60 := by rw [pm.length_eq]; exact lt
    rw [show ((bs.map V.ref).mergeSort fun a b => decide (knOfV H2 a ≤ knOfV H2 b)) = bs'.map V.ref from e1]
    have s2 := same_upd (o := .lst (bs'.map V.ref)) nl
    have el2 := upd_same (H := H2) (a := l2) (o := .lst (bs'.map V.ref))
    have nl2 : l2 ∉ fp := fun h => by
      obtain ⟨o, ho⟩ := (bk.extN e2).ex _ h
      rw [nl] at ho
      cases ho
    generalize L2.upd H2 l2 (.lst (bs'.map V.ref)) = H3 at *
    have e13 : ExtN H1 H3 := e2.trans (extN_same s2)
    have e03 : ExtN H H3 := (extN_same s1).trans e13
    have T3 := T2.ext s2
    have hk3 : Paired (KeyAt H3) t' bs' := paired_imp (fun _ _ h => s2 _ _ h) hk'
    have tl : bs'.length = t'.length := (Paired.length hk').symm
    show ∃ W : Nat → Nat → L2.St → Hp → Prop, _
    refine for_list (xs := bs'.map V.ref) (fun i σ H' => ∃ (x3 : Option V) (fp' : List Addr), σ = [some (.ref r), some (.ref E1), some (.ref b), x3] ∧ Bk D.C_Book D.C_History H' b rk ((t'.take i).map evOfK) fp' ∧ (∀ c ∈ fp', NewN H c) ∧ l2 ∉ fp' ∧ H' l2 = some (.lst (bs'.map V.ref)) ∧ Paired (KeyAt H') t' bs' ∧ ExtN H H' ∧ Tabs (TLs D) H')
      ⟨none, fp, rfl, bk.extN e13, fun c hc => newN_none (frN c hc), nl2, el2, hk3, e03, T3⟩ (fun i σ H' _ ⟨_, _, _, _, _, _, h, _⟩ => SqL.of h) ?_ ?_
    · rintro i v σ H4 hv ⟨x3, fp4, rfl, bk4, n4, nl4, el4, hk4, e4, T4⟩
      rw [List.getElem?_map, Option.map_eq_some_iff] at hv
      obtain ⟨b0, hb0, rfl⟩ := hv
      have il := (List.getElem?_eq_some_iff.mp hb0).1
      obtain ⟨p0, hp0⟩ : ∃ p, t'[i]? = some p := ⟨_, List.getElem?_eq_getElem (by omega)⟩
      obtain ⟨b', hb', kb⟩ := L2.paired_get hk4 hp0
      rw [hb0] at hb'
      cases hb'
      have hE4 := e4 _ _ hE nofun
      have oke := ok' p0 (List.mem_of_getElem? hp0)
      have hv : valV (enT t) (kT p0.1) = some p0.2 := by
        rw [val_enT]
        exact getA_of_mem ndt (pm.mem_iff.mp (List.mem_of_getElem? hp0))
      have dg : DGet H4 E1 (.ref b0) (some p0.2) := by
        rw [← hv]
        exact DGet.t hE4 kb
      have kle : ∀ x ∈ (t'.take i).map evOfK, x.kn ≤ (evOfK p0).kn := fun x hx => by
        obtain ⟨y, hy, rfl⟩ := List.mem_map.mp hx
        obtain ⟨j, hj⟩ := List.getElem?_of_mem hy
        rw [List.getElem?_take] at hj
        split at hj
        · have h1 := List.getElem?_eq_some_iff.mp hj
          have h2 := List.getElem?_eq_some_iff.mp hp0
          have := List.pairwise_iff_getElem.mp up j i h1.1 h2.1 (by omega)
          rw [h1.2, h2.2] at this
          exact this
        · cases hj
      have tl4 : ((t'.take i).map evOfK).length < 60 := by
        rw [List.length_map, List.length_take]
        omega
      have after : ∀ (fp' : List Addr) (H' : Hp), Bk D.C_Book D.C_History H' b rk ((t'.take i).map evOfK ++ [evOfK p0]) fp' → (∀ c ∈ fp', c ∈ fp4 ∨ H4 c = none) → SameL fp4 H4 H' →
          Bk D.C_Book D.C_History H' b rk ((t'.take (i + 1)).map evOfK) fp' ∧ (∀ c ∈ fp', NewN H c) ∧ l2 ∉ fp' ∧ H' l2 = some (.lst (bs'.map V.ref)) ∧ Paired (KeyAt H') t' bs' ∧ ExtN H H' ∧ Tabs (TLs D) H' := fun fp' H' W' fr s => by
        refine ⟨by rw [take_snoc hp0, List.map_append]; exact W', fun c hc => ?_, fun h => ?_, s _ _ nl4 el4, paired_imp (fun _ _ h => s _ _ (bk4.nt h) h) hk4, extN_L e4 n4 s, tabs_L T4 bk4.pl s⟩
        · rcases fr c hc with h | h
          · exact n4 c h
          · exact newN_of e4 h
        · rcases fr _ h with h | h
          · exact nl4 h
          · rw [el4] at h
            cases h
      obtain ⟨dxb, Rb, Mb, Lb, vb, ix⟩ := bk4.ix
      refine ⟨_, rfl, b0, _, 0, .str (kindS p0.1.1), rfl, rfl, SqT.of kb, atI_nat (j := 0) rfl, rfl, _, rfl, ?_⟩
      rw [kind_move]
      obtain ⟨⟨mv, kn, z, d⟩, w⟩ := p0
      have a1 : atI (keyK (mv, kn, z, d)) 1 = some (.int kn) := atI_nat (j := 1) rfl
      have a2 : atI (keyK (mv, kn, z, d)) 2 = some (.str z) := atI_nat (j := 2) rfl
      have a3 : atI (keyK (mv, kn, z, d)) 3 = some (.int d) := atI_nat (j := 3) rfl
      cases mv with
      | true =>
        refine iteT ⟨_, rfl, b, dxb, _, rfl, ix, rfl, _, rfl, b0, _, 1, _, rfl, rfl, SqT.of kb, a1, _, rfl, b0, _, 2, _, rfl, rfl, SqT.of kb, a2, _, rfl, b0, _, 3, _, rfl, rfl, SqT.of kb, a3, _, rfl, _, rfl, E1, _, rfl, dg, b, rk, _, fp4, kn, d, z, w, rfl, bk4, oke, kle, tl4, fun fp' H' W' fr s => ?_⟩
        exact ⟨_, fp', rfl, after fp' H' W' fr s⟩
      | false =>
        refine iteF ⟨_, rfl, b, dxb, _, rfl, ix, rfl, _, rfl, b0, _, 1, _, rfl, rfl, SqT.of kb, a1, _, rfl, b0, _, 2, _, rfl, rfl, SqT.of kb, a2, _, rfl, b0, _, 3, _, rfl, rfl, SqT.of kb, a3, _, rfl, _, rfl, E1, _, rfl, dg, b, rk, _, fp4, kn, d, z, w, rfl, bk4, oke, kle, tl4, fun fp' H' W' fr s => ?_⟩
        exact ⟨_, fp', rfl, after fp' H' W' fr s⟩
    · rintro σ H4 ⟨x3, fp4, rfl, bk4, n4, nl4, el4, hk4, e4, T4⟩
      rw [List.length_map, tl, List.take_length] at bk4
      exact ⟨_, rfl, q b _ fp4 H4 bk4 (pm.map _) n4 e4 T4⟩
end
end K91
set_option Elab.async false
set_option linter.all false
set_option maxRecDepth 100000
set_option maxHeartbeats 1600000
set_option pp.maxSteps 300
namespace K91
open PySem PySem.Spec PyProof.Rows L2 LT NdefX LamX
section
variable {P : Program} {w : World} {K : PySem.W.Frag} {mg : Str → Option Value} {base : Heap}
theorem sc__law_pair : FnScope ["_law_pot_here", "_law_plan_here", "_law_names", "_law_ranks", "_law_name", "_law_way", "_law_rank", "_law_entries", "_law_turn", "_law_which", "_law_mark"] ["_law_pot_here", "_law_plan_here"] (defScope s__law_pair) := ⟨rfl, rfl, rfl, by decide +kernel, rfl, by decide +kernel, by decide +kernel⟩
theorem ok__law_pair (D : All K P mg) : FnOk P w K mg base CX0 5 D.f__law_pair D.d__law_pair ["_law_pot_here", "_law_plan_here"] (spPair9 31) := by
  refine D.h__law_pair.fn.ok sc__law_pair (fun vs H Q E h => ?_) (fun cdv A outer s H vs Q E hr h => ?_)
  · first | (obtain ⟨_, rfl, _⟩ := h; rfl) | (obtain ⟨_, _, rfl, _⟩ := h; rfl) | (obtain ⟨_, _, _, rfl, _⟩ := h; rfl) | (obtain ⟨_, _, _, _, rfl, _⟩ := h; rfl) | (obtain ⟨_, _, _, _, _, rfl, _⟩ := h; rfl) | (obtain ⟨_, _, _, _, _, _, rfl, _⟩ := h; rfl) | (obtain ⟨_, _, _, _, _, _, _, rfl, _⟩ := h; rfl) | (obtain ⟨_, _, _, _, _, _, _, _, rfl, _⟩ := h; rfl) | (obtain ⟨_, _, _, _, _, _, _, _, _, rfl, _⟩ := h; rfl) | (obtain ⟨_, _, _, _, _, _, _, _, _, _, rfl, _⟩ := h; rfl) | (obtain ⟨_, _, _, _, _, _, _, _, _, _, _, rfl, _⟩ := h; rfl) | (obtain ⟨_, _, _, _, _, _, _, _, _, _, _, _, rfl, _⟩ := h; rfl) | (obtain ⟨_, _, _, _, _, _, _, _, _, _, _, _, _, rfl, _⟩ := h; rfl) | (obtain ⟨_, _, _, _, _, _, _, _, _, _, _, _, _, _, rfl, _⟩ := h; rfl) | (obtain ⟨_, _, _, _, _, _, _, _, _, _, _, _, _, _, _, rfl, _⟩ := h; rfl)
  · have T := D.T
    have nd := sc__law_pair.nd
    have hu := hr.units
    have hu1 := hu_of hr
    have hu0 := hr.units0
    obtain ⟨p, PT, d, rfl, hp, hT, hG, q⟩ := h
    refine ⟨_, pss_cons (ps_set (i := 2) nd rfl (.inl rfl) (pe_call (ok__law_unlike D) (hr.mono (by decide)) (by rfl) D.h__law_unlike.gl D.h__law_unlike.fn.kp D.h__law_unlike.bd .nil pass0 (pa_cons (pv 0) (pa_cons (pe_op op_add pe_int (pe_call (ok__law_take D) (hr.mono (by decide)) (by rfl) D.h__law_take.gl D.h__law_take.fn.kp D.h__law_take.bd .nil pass0 (pa_cons (pv 0) (pa_cons pe_int pa_nil)))) pa_nil))))
      (pss_cons (ps_set (i := 3) nd rfl (.inl rfl) (pe_lst (pa_cons pe_dnewK (pa_cons pe_dnewK pa_nil))))
      (pss_cons (ps_for PassesOwn.never rfl (pi_list (pv 2)) (pg_name (i := 4) nd rfl (Or.inl rfl)) (pss_cons (ps_set (i := 5) nd rfl (.inl rfl) (pe_call (ok__law_take D) (hr.mono (by decide)) (by rfl) D.h__law_take.gl D.h__law_take.fn.kp D.h__law_take.bd .nil pass0 (pa_cons (pv 0) (pa_cons pe_int pa_nil))))
      (pss_cons (ps_set (i := 6) nd rfl (.inl rfl) (pe_op op_add pe_int (pe_call (ok__law_take D) (hr.mono (by decide)) (by rfl) D.h__law_take.gl D.h__law_take.fn.kp D.h__law_take.bd .nil pass0 (pa_cons (pv 0) (pa_cons pe_int pa_nil)))))
      (pss_cons (ps_if (pt_cmpR op_ne (pv 5) pe_int (nomark _)) (pss_one (ps_dput hu1 (pe_ix ix_list (pv 3) pe_int (fun _ _ => rfl)) (pv 4) (pv 6) rfl)) pss_nil)
      (pss_one (ps_if (pt_cmpR op_ne (pv 5) pe_int (nomark _)) (pss_one (ps_dput hu1 (pe_ix ix_list (pv 3) pe_int (fun _ _ => rfl)) (pv 4) (pe_ix ix_list (pe_lst (pa_cons (pv 6) (pa_cons (pe_op op_add pe_int (pe_call (ok__law_take D) (hr.mono (by decide)) (by rfl) D.h__law_take.gl D.h__law_take.fn.kp D.h__law_take.bd .nil pass0 (pa_cons (pv 0) (pa_cons pe_int pa_nil)))) pa_nil))) (pe_callTy call_int1 (by rfl) T.int (by decide +kernel) (pa_cons (pe_cmpR op_eq (pv 5) pe_int (nomark _)) pa_nil)) (fun _ _ => rfl)) rfl)) pss_nil))))))
      (pss_cons (ps_set (i := 7) nd rfl (.inl rfl) (pe_lst (pa_cons pe_dnewT (pa_cons pe_dnewT pa_nil))))
      (pss_cons (ps_for PassesOwn.never rfl (pi_range1 (by rfl) T.range (pa_cons (pe_call (ok__law_take D) (hr.mono (by decide)) (by rfl) D.h__law_take.gl D.h__law_take.fn.kp D.h__law_take.bd .nil pass0 (pa_cons (pv 0) (pa_cons pe_int pa_nil))) pa_nil)) (pg_name (i := 8) nd rfl (Or.inl rfl)) (pss_cons (ps_set (i := 9) nd rfl (.inl rfl) (pe_call (ok__law_take D) (hr.mono (by decide)) (by rfl) D.h__law_take.gl D.h__law_take.fn.kp D.h__law_take.bd .nil pass0 (pa_cons (pv 0) (pa_cons pe_int pa_nil))))
      (pss_cons (ps_set (i := 10) nd rfl (.inl rfl) (pe_call (ok__law_key D) (hr.mono (by decide)) (by rfl) D.h__law_key.gl D.h__law_key.fn.kp D.h__law_key.bd .nil pass0 (pa_cons (pv 0) (pa_cons (pv 1) (pa_cons (pe_callB (call_sortedD rfl) (by rfl) T.sorted (by decide +kernel) (pa_cons (pe_ix ix_list (pv 3) (pv 9) (fun _ _ => rfl)) pa_nil)) pa_nil)))))
      (pss_one (ps_dput hu1 (pe_ix ix_list (pv 7) (pv 9) (fun _ _ => rfl)) (pv 10) (pe_call (ok__law_worth D) (hr.mono (by decide)) (by rfl) D.h__law_worth.gl D.h__law_worth.fn.kp D.h__law_worth.bd .nil pass0 (pa_cons (pv 0) (pa_cons (pv 1) (pa_cons (pv 10) pa_nil)))) rfl)))))
      (pss_cons (ps_for PassesOwn.never rfl (pi_list (pe_callTy (call_list_dT rfl) (by rfl) T.list (by decide +kernel) (pa_cons (pe_ix ix_list (pv 7) pe_int (fun _ _ => rfl)) pa_nil))) (pg_name (i := 10) nd rfl (Or.inl rfl)) (pss_cons (ps_set (i := 5) nd rfl (.inl rfl) (pe_call (ok__law_take D) (hr.mono (by decide)) (by rfl) D.h__law_take.gl D.h__law_take.fn.kp D.h__law_take.bd .nil pass0 (pa_cons (pv 0) (pa_cons pe_int pa_nil))))
      (pss_one (ps_if (PW.pt (pw_and (pt_cmpR op_gt (pv 5) pe_int (nomark _)) (pw_and1 (PW.pt (pw_or (pt_cmpR op_eq (pe_ix ix_tup (pv 10) pe_int (fun _ _ => rfl)) pe_str (nomark _)) (pw_or1 (pt_cmp (pc_din hu1 (pe_ix ix_tup (pv 10) pe_int (fun _ _ => rfl)) (pe_ix ix_list (pv 3) pe_int (fun _ _ => rfl)))))))))) (pss_one (ps_dput hu1 (pe_ix ix_list (pv 7) pe_int (fun _ _ => rfl)) (pv 10) (pe_ix ix_list (pe_lst (pa_cons (pe_dget hu1 (pe_ix ix_list (pv 7) pe_int (fun _ _ => rfl)) (pv 10) (fun _ _ => rfl)) (pa_cons (pe_call (ok__law_worth D) (hr.mono (by decide)) (by rfl) D.h__law_worth.gl D.h__law_worth.fn.kp D.h__law_worth.bd .nil pass0 (pa_cons (pv 0) (pa_cons (pv 1) (pa_cons (pv 10) pa_nil)))) pa_nil))) (pe_callTy call_int1 (by rfl) T.int (by decide +kernel) (pa_cons (pe_cmpR op_eq (pv 5) pe_int (nomark _)) pa_nil)) (fun _ _ => rfl)) rfl)) pss_nil))))
      (pss_one (ps_ret (pe_tup (pa_cons (pv 3) (pa_cons (pv 7) pa_nil)))))))))), ?_⟩
    refine ⟨_, rfl, _, rfl, p, 7, rfl, hp, by decide, by decide, fun m H1 m0 m1 hp1 s1 => ?_⟩
    refine ⟨_, _, rfl, rfl, p, 1 + m, rfl, hp1, by omega, by omega, fun N zs H2 nN eN hzs hzl hp2 s2 => ?_⟩
    have s12 := s1.trans s2
    have hT2 := hT.look hp s12
    have nNp := hp1.ne nN
    have nN0 := s1.none hp1 nN
    refine fun r0 nr0 => fun r1 nr1 => ⟨by show 2 ≤ sizeLine; decide, fun R nR => ?_⟩
    have n01 : r0 ≠ r1 := fun e => by rw [e, upd_same] at nr1; cases nr1
    have sN : Same H2 (L2.upd (L2.upd (L2.upd H2 r0 (.dK [])) r1 (.dK [])) R (.lst [.ref r0, .ref r1])) := (same_upd nr0).trans ((same_upd nr1).trans (same_upd nR))
    have hr0 := (same_upd (o := .dK []) nr1).trans (same_upd (o := .lst [.ref r0, .ref r1]) nR) _ _ (upd_same (H := H2) (a := r0) (o := .dK []))
    have hr1 := (same_upd (o := .lst [.ref r0, .ref r1]) nR) _ _ (upd_same (H := L2.upd H2 r0 (.dK [])) (a := r1) (o := .dK []))
    have hR := upd_same (H := L2.upd (L2.upd H2 r0 (.dK [])) r1 (.dK [])) (a := R) (o := .lst [V.ref r0, .ref r1])
    generalize L2.upd (L2.upd (L2.upd H2 r0 (.dK [])) r1 (.dK [])) R (.lst [V.ref r0, .ref r1]) = H3 at *
    have s03 : SameB p H H3 := s12.trans (SameB.of sN)
    have hp3 := hp2.mono sN
    have n0 : ∀ {x : Addr}, H2 x = none → H x = none := fun h => s12.none hp2 h
    have nR0 : H R = none := n0 (((same_upd nr0).trans (same_upd nr1)).free nR)
    have nr00 : H r0 = none := n0 nr0
    have nr10 : H r1 = none := n0 ((same_upd nr0).free nr1)
    obtain ⟨r, rf, rt⟩ : ∃ r : Bool → Addr, r false = r0 ∧ r true = r1 := ⟨fun i => cond i r1 r0, rfl, rfl⟩
    subst rf rt
    have nri : ∀ i, H (r i) = none := fun i => by cases i <;> assumption
    have D3 : TwoD H3 R r (oK fun _ => []) := ⟨hR, fun i => by cases i <;> assumption, nofun, n01⟩
    have eN3 := sN _ _ eN
    refine ⟨_, rfl, N, rfl, ⟨_, SqL.of eN3⟩, for_list (xs := zs.map V.str) (fun i σ H' => ∃ (rk : Bool → List (Str × Int)) (x4 x5 x6 : Option V), σ = [some (.ref p), some (.ref PT), some (.ref N), some (.ref R), x4, x5, x6, none, none, none, none] ∧ (∀ j, LK zs i (rk j)) ∧ TwoD H' R r (oK rk) ∧ H' N = some (.lst (zs.map V.str)) ∧ Pot H' p ∧ SameB p H H')
      ⟨fun _ => [], none, none, none, rfl, fun _ => ⟨List.nodup_nil, nofun, nofun, Nat.zero_le _⟩, D3, eN3, hp3, s03⟩ (fun i σ H' _ ⟨_, _, _, _, _, _, _, e, _⟩ => SqL.of e) ?_ ?_⟩
    · rintro i v σ H4 hv ⟨rk, x4, x5, x6, rfl, hk, D4, eN4, hp4, s4⟩
      rw [List.getElem?_map, Option.map_eq_some_iff] at hv
      obtain ⟨z, hz, rfl⟩ := hv
      have il := (List.getElem?_eq_some_iff.mp hz).1
      refine ⟨_, rfl, p, 5, rfl, hp4, by decide, by decide, fun wy H5 w0 w1 hp5 s5 => ?_⟩
      refine ⟨_, rfl, p, 9, rfl, hp5, by decide, by decide, fun g H6 g0 g1 hp6 s6 => ⟨_, _, rfl, rfl, ?_⟩⟩
      have s46 := s5.trans s6
      have D6 := D4.look hp4 s46
      have eN6 := s46 _ _ (ne_of_pot hp4 eN4 strs_no_pot) eN4
      have s06 := s4.trans s46
      dsimp (config := { proj := false, iota := false }) only
      generalize hn : (1 + g : Int) = n
      have n1 : 1 ≤ n := by omega
      have n9 : n ≤ 9 := by omega
      -- one rank put
      have putr : ∀ (j : Bool) (rk : Bool → List (Str × Int)) (y : Int) (Hx : Hp), 1 ≤ y → y ≤ 9 → LK zs i (rk j) → TwoD Hx R r (oK rk) → Hx N = some (.lst (zs.map V.str)) → Pot Hx p → SameB p H Hx →
          DPut Hx (r j) (.str z) (.int y) (L2.upd Hx (r j) (.dK (sd (rk j ++ [(z, y)])))) ∧ LK zs (i + 1) (rk j ++ [(z, y)]) ∧ TwoD (L2.upd Hx (r j) (.dK (sd (rk j ++ [(z, y)])))) R r (oK (setB rk j (rk j ++ [(z, y)]))) ∧ L2.upd Hx (r j) (.dK (sd (rk j ++ [(z, y)]))) N = some (.lst (zs.map V.str)) ∧ Pot (L2.upd Hx (r j) (.dK (sd (rk j ++ [(z, y)])))) p ∧ SameB p H (L2.upd Hx (r j) (.dK (sd (rk j ++ [(z, y)])))) := fun j rk y Hx y1 y9 hk Dx eNx hpx sx => by
        have e := Dx.hr j
        have fr := hk.fresh hzs.nd hz
        have eput : putK (sd (rk j)) (Sum.inr z) (.int y) = sd (rk j ++ [(z, y)]) := by
          rw [putK_new _ (sd_no fr)]
          unfold sd
          rw [List.map_append]
          rfl
        refine ⟨?_, hk.add hzs.nd hz y1 y9, ?_, ?_, ?_, SameB.new (nri j) sx⟩
        · have := DPut.k (k := Sum.inr z) (v := .int y) e (small2k (by rw [sd_len]; have := hk.ln; omega))
          rw [eput] at this
          exact this
        · rw [← oK_set]
          exact Dx.put j nofun
        · rw [upd_ne (ne_of eNx e (by intro q; cases q))]
          exact eNx
        · exact hpx.upd (fun q => by
            obtain ⟨a, b, k, _⟩ := hpx
            rw [← q, e] at k
            cases k)
      apply joinA (α := Bool → List (Str × Int)) (J := fun rk' Hx => LK zs (i + 1) (rk' false) ∧ LK zs i (rk' true) ∧ TwoD Hx R r (oK rk') ∧ Hx N = some (.lst (zs.map V.str)) ∧ Pot Hx p ∧ SameB p H Hx)
        (sl := fun _ => [some (.ref p), some (.ref PT), some (.ref N), some (.ref R), some (.str z), some (.int wy), some (.int n), none, none, none, none])
      · intro h
        refine ⟨_, rfl, rfl, _, rfl, ite2 (fun _ => ?_) (fun _ => h rk H6 ⟨(hk false).skip, hk true, D6, eN6, hp6, s06⟩)⟩
        obtain ⟨dp, l1, D7, eN7, hp7, s7⟩ := putr false rk n H6 n1 n9 (hk false) D6 eN6 hp6 s06
        refine ⟨_, rfl, _, rfl, R, _, 0, _, rfl, rfl, SqL.of D6.hR, D6.at (w := 0) (by decide) (by decide), _, rfl, r false, _, rfl, dp, h (setB rk false (rk false ++ [(z, n)])) _ ⟨?_, ?_, D7, eN7, hp7, s7⟩⟩
        · rw [setB_same]
          exact l1
        · rw [setB_ne _ _ (by decide)]
          exact hk true
      rintro rk' H7 ⟨l1, l2, D7, eN7, hp7, s7⟩
      refine ⟨_, rfl, rfl, _, rfl, ite2 (fun _ => ?_) (fun _ => ⟨rk', _, _, _, rfl, fun j => by cases j; exact l1; exact l2.skip, D7, eN7, hp7, s7⟩)⟩
      refine ⟨_, rfl, _, rfl, p, 9, rfl, hp7, by decide, by decide, fun g2 H8 g20 g21 hp8 s8 => ⟨_, _, rfl, rfl, by show 2 ≤ sizeLine; decide, fun F nF => ?_⟩⟩
      have D8 := D7.look hp7 s8
      have eN8 := s8 _ _ (ne_of_pot hp7 eN7 strs_no_pot) eN7
      have s08 := s7.trans s8
      have D9 := D8.new (v := .lst [V.int n, .int (1 + g2)]) nF
      have eN9 : L2.upd H8 F (.lst [V.int n, .int (1 + g2)]) N = some (.lst (zs.map V.str)) := by rw [upd_ne (ne_of_none eN8 nF)]; exact eN8
      have eF9 := upd_same (H := H8) (a := F) (o := .lst [V.int n, .int (1 + g2)])
      have hp9 := hp8.upd (o := .lst [V.int n, .int (1 + g2)]) (hp8.ne nF)
      have s09 : SameB p H _ := SameB.new (o := .lst [V.int n, .int (1 + g2)]) (s08.none hp8 nF) s08
      dsimp (config := { proj := false, iota := false }) only
      generalize L2.upd H8 F (.lst [V.int n, .int (1 + g2)]) = H9 at *
      have pick : ∀ b : Bool, ∃ y : Int, 1 ≤ y ∧ y ≤ 9 ∧ atI [V.int n, .int (1 + g2)] (if b = true then 1 else 0) = some (.int y) := fun b => by
        cases b
        · exact ⟨n, n1, n9, atI_nat (j := 0) rfl⟩
        · exact ⟨1 + g2, by omega, by omega, atI_nat (j := 1) rfl⟩
      obtain ⟨y, y1, y9, ey⟩ := pick (decide (V.int wy = V.int 4))
      obtain ⟨dp, l3, D10, eN10, hp10, s10⟩ := putr true rk' y H9 y1 y9 l2 D9 eN9 hp9 s09
      refine ⟨_, rfl, rfl, .inr ⟨_, rfl, F, _, _, .int y, rfl, rfl, SqL.of eF9, ey, ?_⟩⟩
      refine ⟨_, rfl, R, _, 1, _, rfl, rfl, SqL.of D9.hR, D9.at (w := 1) (by decide) (by decide), _, rfl, r true, _, rfl, dp, setB rk' true (rk' true ++ [(z, y)]), _, _, _, rfl, fun j => ?_, D10, eN10, hp10, s10⟩
      cases j
      · rw [setB_ne _ _ (by decide)]
        exact l1
      · rw [setB_same]
        exact l3
    · rintro σ H4 ⟨rk, x4, x5, x6, rfl, hk, D4, eN4, hp4, s4⟩
      have hkr : ∀ j, Rk (rk j) := fun j => (hk j).rk hzs (by rw [List.length_map]; omega)
      have kl : ∀ j, (rk j).length ≤ 7 := fun j => by have := (hk j).ln; rw [List.length_map] at this; omega
      clear hk
      refine fun e0 ne0 => fun e1 ne1 => ⟨by show 2 ≤ sizeLine; decide, fun E1 nE1 => ?_⟩
      have n01 : e0 ≠ e1 := fun e => by rw [e, upd_same] at ne1; cases ne1
      have sN : Same H4 (L2.upd (L2.upd (L2.upd H4 e0 (.dT [])) e1 (.dT [])) E1 (.lst [.ref e0, .ref e1])) := (same_upd ne0).trans ((same_upd ne1).trans (same_upd nE1))
      have he0 := (same_upd (o := .dT []) ne1).trans (same_upd (o := .lst [.ref e0, .ref e1]) nE1) _ _ (upd_same (H := H4) (a := e0) (o := .dT []))
      have he1 := (same_upd (o := .lst [.ref e0, .ref e1]) nE1) _ _ (upd_same (H := L2.upd H4 e0 (.dT [])) (a := e1) (o := .dT []))
      have hE := upd_same (H := L2.upd (L2.upd H4 e0 (.dT [])) e1 (.dT [])) (a := E1) (o := .lst [V.ref e0, .ref e1])
      generalize L2.upd (L2.upd (L2.upd H4 e0 (.dT [])) e1 (.dT [])) E1 (.lst [V.ref e0, .ref e1]) = H5 at *
      have s5 : SameB p H H5 := s4.trans (SameB.of sN)
      have hp5 := hp4.mono sN
      have n0 : ∀ {x : Addr}, H4 x = none → H x = none := fun h => s4.none hp4 h
      have nE0 : H E1 = none := n0 (((same_upd ne0).trans (same_upd ne1)).free nE1)
      have ne00 : H e0 = none := n0 ne0
      have ne10 : H e1 = none := n0 ((same_upd ne0).free ne1)
      obtain ⟨e, ef, et⟩ : ∃ e : Bool → Addr, e false = e0 ∧ e true = e1 := ⟨fun i => cond i e1 e0, rfl, rfl⟩
      subst ef et
      have nei : ∀ i, H (e i) = none := fun i => by cases i <;> assumption
      have PP : PrT H5 ⟨R, E1, r, e⟩ rk (fun _ => []) := ⟨D4.mono sN, ⟨hE, fun i => by cases i <;> assumption, nofun, n01⟩⟩
      have PG0 : PrG d 0 rk (fun _ => []) := ⟨hkr, fun _ => List.nodup_nil, fun _ => Nat.zero_le _, nofun, nofun⟩
      refine ⟨_, rfl, p, 16, rfl, hp5, by decide, by decide, fun n H6 n0 n1 hp6 s6 => ⟨n, rfl, by omega, by omega, ?_⟩⟩
      refine for_range (lo := 0) (n := n.toNat) (fun i σ H' => ∃ (t : Bool → List (EvK × V)) (x8 x9 x10 : Option V), σ = [some (.ref p), some (.ref PT), some (.ref N), some (.ref R), x4, x5, x6, some (.ref E1), x8, x9, x10] ∧ PrG d i rk t ∧ PrT H' ⟨R, E1, r, e⟩ rk t ∧ Pot H' p ∧ SameB p H H')
        ⟨fun _ => [], none, none, none, rfl, PG0, PP.look hp5 s6, hp6, s5.trans s6⟩ ?_ ?_
      · rintro i σ H7 hi ⟨t, x8, x9, x10, rfl, G7, P7, hp7, s7⟩
        refine ⟨_, rfl, p, 2, rfl, hp7, by decide, by decide, fun wh H8 w0 w1 hp8 s8 => ?_⟩
        have P8 := P7.look hp7 s8
        have s08 := s7.trans s8
        have kk : (sd (rk (decide (wh = 1)))).map (·.1) = ((rk (decide (wh = 1))).map (·.1)).map Sum.inr := by
          unfold sd
          rw [List.map_map, List.map_map]
          rfl
        refine ⟨_, rfl, _, rfl, _, rfl, _, rfl, R, _, wh, _, rfl, rfl, SqL.of P8.k.hR, P8.k.at w0 w1, r (decide (wh = 1)), _, _, rfl, Rd.of (P8.k.hr _), kk, by rw [List.length_map]; have := kl (decide (wh = 1)); omega, fun ys L pm _ nL => ?_⟩
        generalize hj : decide (wh = 1) = j at *
        have P9 := P8.mono (same_upd (o := .lst (ys.map V.str)) nL)
        have eL9 := upd_same (H := H8) (a := L) (o := .lst (ys.map V.str))
        have hp9 := hp8.upd (o := .lst (ys.map V.str)) (hp8.ne nL)
        have s09 : SameB p H _ := SameB.new (o := .lst (ys.map V.str)) (s08.none hp8 nL) s08
        generalize L2.upd H8 L (.lst (ys.map V.str)) = H9 at *
        have yl : ys.length ≤ 600 := by rw [pm.length_eq, List.length_map]; have := kl j; omega
        refine ⟨p, PT, L, d, ys, rfl, hp9, hT.look hp s09, hG, eL9, yl, fun M k H10 nM eM okk hp10 s10 => ?_⟩
        have P10 := P9.look hp9 s10
        have s010 := s09.trans s10
        refine ⟨_, rfl, _, rfl, _, rfl, p, PT, M, d, k, rfl, hp10, hT.look hp s010, hG, eM, fun wv H11 okw hp11 s11 => ?_⟩
        have P11 := P10.look hp10 s11
        have s011 := s010.trans s11
        have eM11 := s11 _ _ (ne_of_pot hp10 eM (by intro a b; cases k; nofun)) eM
        have ok2 := okk.ev hG (rk := rk j) (fun z hz => pm.mem_iff.mp hz) okw
        have dp := DPut.t (k := kT k) (v := wv) (P11.e.hr j) eM11 (small2k (by unfold enT; rw [List.length_map]; have := G7.ln j; omega))
        rw [put_enT] at dp
        refine ⟨_, rfl, _, rfl, E1, _, wh, _, rfl, rfl, SqL.of P11.e.hR, by rw [← hj]; exact P11.e.at w0 w1, _, rfl, e j, _, rfl, dp, ?_⟩
        refine ⟨setB t j (putA (t j) k wv), _, _, _, rfl, G7.put j ok2 okk.k1, P11.put j _, hp11.upd (fun z => ?_), SameB.new (nei j) s011⟩
        obtain ⟨a, b, kq, _⟩ := hp11
        rw [← z, P11.e.hr j] at kq
        cases kq
      · rintro σ H7 ⟨t, x8, x9, x10, rfl, G7, P7, hp7, s7⟩
        have G15 : PrG d 15 rk t := ⟨G7.kr, G7.nd, fun i => Nat.le_trans (G7.ln i) (by omega), G7.ok, G7.kb⟩
        clear G7
        refine ⟨_, rfl, E1, _, 0, _, rfl, rfl, SqL.of P7.e.hR, P7.e.at (w := 0) (by decide) (by decide), e false, _, rfl, Rd.of (P7.e.hr false), fun L bs nL hbs => ⟨L, rfl, ⟨_, SqL.of upd_same⟩, ?_⟩⟩
        have hka := keys_at hbs
        have hkl := Paired.length hka
        have sL := same_upd (o := .lst (bs.map V.ref)) nL
        have P8 := P7.mono sL
        have eL8 := upd_same (H := H7) (a := L) (o := .lst (bs.map V.ref))
        have hk8 : Paired (KeyAt (L2.upd H7 L (.lst (bs.map V.ref)))) (t false) bs := paired_imp (fun _ _ h => sL _ _ h) hka
        have hp8 := hp7.upd (o := .lst (bs.map V.ref)) (hp7.ne nL)
        have s8 : SameB p H _ := SameB.new (o := .lst (bs.map V.ref)) (s7.none hp7 nL) s7
        have nL0 : H L = none := s7.none hp7 nL
        generalize L2.upd H7 L (.lst (bs.map V.ref)) = H8 at *
        have l15 := G15.ln false
        have nd0 := G15.nd false
        refine for_list (xs := bs.map V.ref) (fun i σ H' => ∃ (t' : Bool → List (EvK × V)) (x5' x10' : Option V), σ = [some (.ref p), some (.ref PT), some (.ref N), some (.ref R), x4, x5', x6, some (.ref E1), x8, x9, x10'] ∧ t' false = t false ∧ PrG d (15 + i) rk t' ∧ PrT H' ⟨R, E1, r, e⟩ rk t' ∧ Paired (KeyAt H') (t false) bs ∧ H' L = some (.lst (bs.map V.ref)) ∧ Pot H' p ∧ SameB p H H')
          ⟨t, _, _, rfl, rfl, G15, P8, hk8, eL8, hp8, s8⟩ (fun i σ H' _ ⟨_, _, _, _, _, _, _, _, e, _⟩ => SqL.of e) ?_ ?_
        · rintro i v σ H9 hv ⟨t', x5', x10', rfl, ef, G9, P9, hk9, eL9, hp9, s9⟩
          rw [List.getElem?_map, Option.map_eq_some_iff] at hv
          obtain ⟨M, hM, rfl⟩ := hv
          have il := (List.getElem?_eq_some_iff.mp hM).1
          obtain ⟨p0, hp0⟩ : ∃ q, (t false)[i]? = some q := ⟨_, List.getElem?_eq_getElem (by omega)⟩
          obtain ⟨b', hb', kb⟩ := L2.paired_get hk9 hp0
          rw [hM] at hb'
          cases hb'
          refine ⟨_, rfl, p, 3, rfl, hp9, by decide, by decide, fun wy H10 w0 w1 hp10 s10 => ?_⟩
          have P10 := P9.look hp9 s10
          have s010 := s9.trans s10
          have noM : ∀ {Hx : Hp}, Pot Hx p → KeyAt Hx p0 M → M ≠ p := fun hpx kx => ne_of_pot hpx kx (by intro a b; nofun)
          have keyB : ∀ {Hx Hy : Hp}, Pot Hx p → SameB p Hx Hy → Paired (KeyAt Hx) (t false) bs → Paired (KeyAt Hy) (t false) bs := fun hpx sx hk => paired_imp (fun _ _ h => sx _ _ (ne_of_pot hpx h (by intro a b; nofun)) h) hk
          have hk10 := keyB hp9 s10 hk9
          have kb10 := s10 _ _ (noM hp9 kb) kb
          have eL10 := s10 _ _ (ne_of_pot hp9 eL9 refs_not_pot) eL9
          have G10 : PrG d (15 + (i + 1)) rk t' := ⟨G9.kr, G9.nd, fun i => Nat.le_trans (G9.ln i) (by omega), G9.ok, G9.kb⟩
          refine ⟨_, rfl, _, _, rfl, rfl, _, rfl, ite2 (fun _ => ?_) (fun _ => ⟨t', _, _, rfl, ef, G10, P10, hk10, eL10, hp10, s010⟩)⟩
          have ok0 : EvOK (rk false) (evOfK p0) := G9.ok false p0 (by rw [ef]; exact List.mem_of_getElem? hp0)
          have kb0 : p0.1.2.1 ≤ d.base + 4 := G9.kb false p0 (by rw [ef]; exact List.mem_of_getElem? hp0)
          have ix0 : getA (t false) p0.1 = some p0.2 := getA_of_mem nd0 (List.mem_of_getElem? hp0)
          obtain ⟨⟨mv, kn, z, day⟩, wv⟩ := p0
          apply joinA (α := Unit) (J := fun _ Hx => Hx = H10 ∧ EvOK (rk true) ⟨mv, kn, z, day, wv⟩) (sl := fun _ => [some (.ref p), some (.ref PT), some (.ref N), some (.ref R), x4, some (.int wy), x6, some (.ref E1), x8, x9, some (.ref M)])
          · intro h
            refine ⟨_, rfl, M, _, 0, .str (kindS mv), rfl, rfl, SqT.of kb10, atI_nat (j := 0) rfl, rfl, _, rfl, ?_⟩
            rw [kind_land]
            by_cases hm : mv = false
            · rw [show (!mv) = true by rw [hm]; rfl]
              exact iteT (iteT (h () H10 ⟨rfl, ok0.k0, ok0.d0, ok0.d1, fun q => absurd (hm.symm.trans q) nofun, ok0.lw⟩))
            · have hm : mv = true := by cases mv <;> first | rfl | exact absurd rfl hm
              rw [show (!mv) = false by rw [hm]; rfl]
              have dg : DGet H10 (r true) (.str z) ((getA (rk true) z).map V.int) := by
                have h := DGet.k (k := Sum.inr z) (P10.k.hr true)
                rw [show valV (sd (rk true)) (Sum.inr z) = (getA (rk true) z).map V.int from val_en inr_inj z (rk true)] at h
                exact h
              refine iteF ⟨_, rfl, M, _, 2, .str z, rfl, rfl, SqT.of kb10, atI_nat (j := 2) rfl, ?_⟩
              refine ⟨_, rfl, R, _, 1, _, rfl, rfl, SqL.of P10.k.hR, P10.k.at (w := 1) (by decide) (by decide), r true, _, rfl, dg, _, rfl, ?_⟩
              by_cases hz : z ∈ (rk true).map (·.1)
              · have e : ((getA (rk true) z).map V.int).isSome = true := by
                  cases hg : getA (rk true) z with
                  | none => exact absurd hz (getA_none_iff.mp hg)
                  | some n => rfl
                rw [e]
                exact iteT (h () H10 ⟨rfl, ok0.k0, ok0.d0, ok0.d1, fun q => ⟨hz, (ok0.mw q).2⟩, ok0.lw⟩)
              · have e : ((getA (rk true) z).map V.int).isSome = false := by
                  rw [getA_none_iff.mpr hz]
                  rfl
                rw [e]
                exact iteF ⟨t', _, _, rfl, ef, G10, P10, hk10, eL10, hp10, s010⟩
          rintro _ Hx ⟨rfl, okT⟩
          have dg0 : DGet Hx (e false) (.ref M) (some wv) := by
            have h := DGet.t (k := kT (mv, kn, z, day)) (P10.e.hr false) kb10
            rw [show valV (enT (t' false)) (kT (mv, kn, z, day)) = some wv by rw [val_enT, ef]; exact ix0] at h
            exact h
          refine ⟨_, rfl, E1, _, 0, _, rfl, rfl, SqL.of P10.e.hR, P10.e.at (w := 0) (by decide) (by decide), _, rfl, e false, _, rfl, dg0, ?_⟩
          refine ⟨_, rfl, _, rfl, _, rfl, p, PT, M, d, (mv, kn, z, day), rfl, hp10, hT.look hp s010, hG, kb10, fun w2 H11 okw hp11 s11 => ⟨by show 2 ≤ sizeLine; decide, fun F nF => ?_⟩⟩
          have P11 := P10.look hp10 s11
          have s011 := s010.trans s11
          have hk11 := keyB hp10 s11 hk10
          have kb11 := s11 _ _ (noM hp10 kb10) kb10
          have eL11 := s11 _ _ (ne_of_pot hp10 eL10 refs_not_pot) eL10
          have sF := same_upd (o := .lst [wv, w2]) nF
          have P12 := P11.mono sF
          have hk12 : Paired (KeyAt (L2.upd H11 F (.lst [wv, w2]))) (t false) bs := paired_imp (fun _ _ h => sF _ _ h) hk11
          have kb12 := sF _ _ kb11
          have eL12 := sF _ _ eL11
          have eF12 := upd_same (H := H11) (a := F) (o := .lst [wv, w2])
          have hp12 := hp11.upd (o := .lst [wv, w2]) (hp11.ne nF)
          have s012 : SameB p H _ := SameB.new (o := .lst [wv, w2]) (s011.none hp11 nF) s011
          generalize L2.upd H11 F (.lst [wv, w2]) = H12 at *
          have ok2 : EvOK (rk true) ⟨mv, kn, z, day, w2⟩ := ⟨okT.k0, okT.d0, okT.d1, fun hm => ⟨(okT.mw hm).1, by
            have hm : mv = true := hm
            subst hm
            exact okw.1⟩, fun hm => ⟨(okT.lw hm).1, by
            have hm : mv = false := hm
            subst hm
            exact okw.1⟩⟩
          have pick : ∀ b : Bool, ∃ y : V, EvOK (rk true) ⟨mv, kn, z, day, y⟩ ∧ atI [wv, w2] (if b = true then 1 else 0) = some y := fun b => by
            cases b
            · exact ⟨wv, okT, atI_nat (j := 0) rfl⟩
            · exact ⟨w2, ok2, atI_nat (j := 1) rfl⟩
          obtain ⟨y, oky, ey⟩ := pick (decide (V.int wy = V.int 2))
          have dp := DPut.t (k := kT (mv, kn, z, day)) (v := y) (P12.e.hr true) kb12 (small2k (by unfold enT; rw [List.length_map]; have := G9.ln true; omega))
          rw [put_enT] at dp
          refine ⟨_, rfl, rfl, .inr ⟨_, rfl, F, _, _, y, rfl, rfl, SqL.of eF12, ey, ?_⟩⟩
          refine ⟨_, rfl, E1, _, 1, _, rfl, rfl, SqL.of P12.e.hR, P12.e.at (w := 1) (by decide) (by decide), _, rfl, e true, _, rfl, dp, ?_⟩
          have ne_ : ∀ {x : Addr} {o : HO}, H12 x = some o → (∀ q, o ≠ .dT q) → x ≠ e true := fun hx n q => by
            rw [q, P12.e.hr true] at hx
            exact n _ (Option.some.inj hx).symm
          refine ⟨setB t' true (putA (t' true) (mv, kn, z, day) y), _, _, rfl, by rw [setB_ne _ _ (by decide)]; exact ef, G9.put true oky kb0, P12.put true _, paired_imp (fun q b h => ?_) hk12, ?_, hp12.upd (fun q => ?_), SameB.new (nei true) s012⟩
          · show L2.upd H12 (e true) _ b = _
            rw [upd_ne (ne_ h nofun)]
            exact h
          · rw [upd_ne (ne_ eL12 nofun)]
            exact eL12
          · obtain ⟨a, b, kq, _⟩ := hp12
            rw [← q, P12.e.hr true] at kq
            cases kq
        · rintro σ H9 ⟨t', x5', x10', rfl, ef, G9, P9, hk9, eL9, hp9, s9⟩
          have G31 : PrG d 31 rk t' := ⟨G9.kr, G9.nd, fun i => Nat.le_trans (G9.ln i) (by rw [List.length_map]; omega), G9.ok, G9.kb⟩
          refine ⟨_, rfl, _, rfl, by show 2 ≤ sizeLine; decide, fun W nW => ?_⟩
          exact q W ⟨R, E1, r, e⟩ rk t' _ G31 upd_same (P9.mono (same_upd nW)) ⟨nR0, nE0, nri, nei⟩ (hp9.upd (hp9.ne nW)) (SameB.new (s9.none hp9 nW) s9)
end
end K91
set_option Elab.async false
set_option linter.all false
set_option maxRecDepth 100000
set_option maxHeartbeats 1600000
/-! Own layer: calls by keywords alone, in any order, defaults among the rest. -/
namespace LT
open PySem PySem.Spec PyProof.Rows L2
/-- those at these places -/
def pick {α : Type} (is : List Nat) (l : List α) : List α := is.filterMap (l[·]?)
theorem vals_get : ∀ {vs : List V} {us : List Value}, Vals vs us → ∀ i : Nat, (vs[i]? = none ∧ us[i]? = none) ∨ ∃ v u, vs[i]? = some v ∧ us[i]? = some u ∧ RelV v u
  | _, _, .nil, i => .inl ⟨rfl, rfl⟩
  | _, _, .cons h _, 0 => .inr ⟨_, _, rfl, rfl, h⟩
  | _, _, .cons _ t, i + 1 => vals_get t i
theorem pick_vals {vs : List V} {us : List Value} (h : Vals vs us) : ∀ is : List Nat, Vals (pick is vs) (pick is us)
  | [] => .nil
  | i :: is => by
    have ih := pick_vals h is
    unfold pick at ih ⊢
    rcases vals_get h i with ⟨a, b⟩ | ⟨v, u, a, b, r⟩
    · rw [List.filterMap_cons, List.filterMap_cons, a, b]
      exact ih
    · rw [List.filterMap_cons, List.filterMap_cons, a, b]
      exact .cons r ih
section
variable {X : Cx} {CX : CXT} {k : Nat} {f C : Addr} {fd : FuncData} {ps ks : List Str} {sp : Sp} {E : XK} {m x : Str} {apos pos p : Pos} {o : Expr} {kws : List Keyword} {ta : TE} {tk : TA}
  {g : List Value → List Value → List Value} {gV : List V → List V → List V}
def tCallKn (j : Nat) (sp : Sp) (gV : List V → List V → List V) (E : XK) (tk : TA) : TE := fun σ H Q => tk σ H fun zs H1 => zs.length = j ∧ sp (gV [] zs) H1 Q E
theorem pe_callKn (F : FnOk X.prog X.w X.K X.mg X.base CX k f fd ps sp) (hr : Room k X.A) (hg : Gl X x) (hm : X.mg x = some (.ref f))
    (hk : PySem.W.keepIn X.K (.ref f) = true) (hb : KBn X.K fd ps 0 ks g gV) (hx : Passes CX X E) (hkw : PK X kws tk)
    (hall : (backToKw pos (keywordEach kws X.env)).all (·.1.isSome) = true := by rfl)
    (hks : (backToKw pos (keywordEach kws X.env)).filterMap (·.1) = ks := by rfl)
    (hdb : (x == ("__debug__" : Str)) = false := by decide)
    (hpl : ((backTo pos (starEach [] X.env)).any (·.1) || (backToKw pos (keywordEach kws X.env)).any (·.1.isNone)) = false := by rfl) :
    PE X (.Call (.Name x p) [] kws pos) (tCallKn ks.length sp gV E tk) := by
  refine ⟨fun pins s σ H Q I h => wpAny_Call_Name_kw (ld_glob I hg hm ?_ hdb)⟩
  refine PySem.W.callWith_KW0 (h₀ := X.base) I.ok.mod.kin hk hall ?_ hpl
  refine thn (hkw.run pos pins s σ H _ I h) fun ws s2 ⟨zs, H2, I2, rz, l2, q2⟩ => ⟨I2.kIn, ?_⟩
  rw [hks]
  exact run_fnN (us := []) (vs := []) F hr hb hx I2 .nil rz rfl l2 q2
end
end LT
set_option Elab.async false
set_option linter.all false
set_option maxRecDepth 100000
set_option maxHeartbeats 1600000
set_option pp.maxSteps 300
namespace K91
open PySem PySem.Spec PyProof.Rows L2 LT NdefX LamX
section
variable {P : Program} {w : World} {K : PySem.W.Frag} {mg : Str → Option Value} {base : Heap}
theorem sc__law_due : FnScope ["_law_ranks", "_law_entries", "_law_found", "_law_mark", "_law_name"] ["_law_ranks", "_law_entries"] (defScope s__law_due) := ⟨rfl, rfl, rfl, by decide +kernel, rfl, by decide +kernel, by decide +kernel⟩
theorem ok__law_due (D : All K P mg) : FnG P w K mg base CX0 6 D.f__law_due D.d__law_due ["_law_ranks", "_law_entries"] spDue9 := by
  refine okG D.h__law_due.fn sc__law_due (fun h => ?_) (fun cdv A outer s H vs Q E hG hr h => ?_)
  · first | (obtain ⟨_, rfl, _⟩ := h; rfl) | (obtain ⟨_, _, rfl, _⟩ := h; rfl) | (obtain ⟨_, _, _, rfl, _⟩ := h; rfl) | (obtain ⟨_, _, _, _, rfl, _⟩ := h; rfl) | (obtain ⟨_, _, _, _, _, rfl, _⟩ := h; rfl) | (obtain ⟨_, _, _, _, _, _, rfl, _⟩ := h; rfl) | (obtain ⟨_, _, _, _, _, _, _, rfl, _⟩ := h; rfl) | (obtain ⟨_, _, _, _, _, _, _, _, rfl, _⟩ := h; rfl) | (obtain ⟨_, _, _, _, _, _, _, _, _, rfl, _⟩ := h; rfl) | (obtain ⟨_, _, _, _, _, _, _, _, _, _, rfl, _⟩ := h; rfl) | (obtain ⟨_, _, _, _, _, _, _, _, _, _, _, rfl, _⟩ := h; rfl) | (obtain ⟨_, _, _, _, _, _, _, _, _, _, _, _, rfl, _⟩ := h; rfl) | (obtain ⟨_, _, _, _, _, _, _, _, _, _, _, _, _, rfl, _⟩ := h; rfl) | (obtain ⟨_, _, _, _, _, _, _, _, _, _, _, _, _, _, rfl, _⟩ := h; rfl) | (obtain ⟨_, _, _, _, _, _, _, _, _, _, _, _, _, _, _, rfl, _⟩ := h; rfl)
  · have T := D.T
    have nd := sc__law_due.nd
    have hu := hr.units
    have hu1 := hu_of hr
    have hu0 := hr.units0
    have hG2 : (cxOf CX0 P w K mg base ["_law_ranks", "_law_entries", "_law_found", "_law_mark", "_law_name"] "_law_due" (defScope s__law_due) D.f__law_due cdv A outer s H E).nox.A.guards = some [] := hG
    obtain ⟨a, d, m, rk, t, rfl, PP, kr, ndt, ln, ok, q⟩ := h
    refine ⟨_, pss_cons (ps_lock (ps_setLc (i := 2) (own := [("_law_name", 4)]) (g := gName 4) rfl nd rfl rfl (sw_true rfl rfl rfl (by decide +kernel)) (pi_keys (pe_ix ix_list (pv 0) pe_int (fun _ _ => rfl))) (blkOk_by (N := ["_law_ranks", "_law_entries", "_law_found", "_law_mark", "_law_name"]) (sc := defScope s__law_due) (by decide +kernel)) (fun _ _ _ _ _ => (pg_name (i := 4) nd rfl (Or.inl rfl))) (fun _ _ _ _ _ => pts_one (pt_cmpR op_ne (pe_dget2 hu1 (pe_ix (show IxR _ (rIxL K) from ix_list) (pv 0) pe_int (fun _ _ => rfl)) (pv 4) (pe_dget hu1 (pe_ix (show IxR _ (rIxL K) from ix_list) (pv 0) pe_int (fun _ _ => rfl)) (pv 4) (fun _ _ => rfl)) ⟨rfl, rfl, rfl, rfl⟩) (pe_dget hu1 (pe_ix (show IxR _ (rIxL K) from ix_list) (pv 0) pe_int (fun _ _ => rfl)) (pv 4) (fun _ _ => rfl)) (nomark _))) (fun _ _ _ _ _ => (pe_tup (pa_cons pe_str (pa_cons (pv 4) pa_nil))))))
      (pss_cons (ps_lock (ps_for PassesOwn.never rfl (pi_keys (pe_ix ix_list (pv 1) pe_int (fun _ _ => rfl))) (pg_name (i := 3) nd rfl (Or.inl rfl)) (pss_one (ps_if (PW.pt (pw_and (pt_cmp (pc_din hu1 (pv 3) (pe_ix ix_list (pv 1) pe_int (fun _ _ => rfl)))) (pw_and1 (pt_cmpR op_ne (pe_callB (call_reprSh hG2 hu) (by rfl) T.repr (by decide +kernel) (pa_cons (pe_dget hu1 (pe_ix ix_list (pv 1) pe_int (fun _ _ => rfl)) (pv 3) (fun _ _ => rfl)) pa_nil)) (pe_callB (call_reprSh hG2 hu) (by rfl) T.repr (by decide +kernel) (pa_cons (pe_dget hu1 (pe_ix ix_list (pv 1) pe_int (fun _ _ => rfl)) (pv 3) (fun _ _ => rfl)) pa_nil)) (nomark _))))) (pss_one (ps_expr (pe_bm PySem.F.plainAttrs_list PySem.F.slot_list_append PySem.F.type_list_append mt_append (pv 2) (pa_cons (pv 3) pa_nil)))) pss_nil))))
      (pss_one (ps_ret (pe_callB (cr_sortedMx hr.units) (by rfl) T.sorted (by decide +kernel) (pa_cons (pv 2) pa_nil))))), ?_⟩
    obtain ⟨R, E1, r, e⟩ := a
    obtain ⟨⟨hR0, hr0, _, nr⟩, ⟨hE0, he0, _, ne⟩⟩ := PP
    have er0 : H (r false) = some (.dK (sd (rk false))) := hr0 false
    have er1 : H (r true) = some (.dK (sd (rk true))) := hr0 true
    have ee0 : H (e false) = some (.dT (enT (t false))) := he0 false
    have ee1 : H (e true) = some (.dT (enT (t true))) := he0 true
    have hR0 : H R = some (.lst [.ref (r false), .ref (r true)]) := hR0
    have hE0 : H E1 = some (.lst [.ref (e false), .ref (e true)]) := hE0
    have nr : r false ≠ r true := nr
    have ne : e false ≠ e true := ne
    have two_at : ∀ {x y : Addr}, atI [V.ref x, .ref y] 0 = some (.ref x) ∧ atI [V.ref x, .ref y] 1 = some (.ref y) := ⟨atI_nat (j := 0) rfl, atI_nat (j := 1) rfl⟩
    refine ⟨r false, _, er0, trivial, fun od => ?_⟩
    have ef := upd_same (H := H) (a := r false) (o := .frz od (.dK (sd (rk false))))
    have up : ∀ {x : Addr} {o : HO}, H x = some o → o ≠ .dK (sd (rk false)) → L2.upd H (r false) (.frz od (.dK (sd (rk false)))) x = some o := fun h n => by
      rw [upd_ne (fun z => n (Option.some.inj (h.symm.trans (by rw [z]; exact er0))))]
      exact h
    have hRl := up hR0 nofun
    have h1l : L2.upd H (r false) (.frz od (.dK (sd (rk false)))) (r true) = some (.dK (sd (rk true))) := by
      rw [upd_ne (Ne.symm nr)]
      exact er1
    refine ⟨_, rfl, R, _, 0, _, rfl, rfl, SqL.of hRl, two_at.1, r false, od, rfl, .inl ⟨_, ef, fun F nF => ?_⟩⟩
    have nF1 : F ≠ r false := fun z => by rw [z, ef] at nF; cases nF
    have kn0 := (kr false)
    refine lc_it (walk_enk (gk := Sum.inr) (f := V.int) (r := rk false)) (fun i H' => Same (L2.upd H (r false) (.frz od (.dK (sd (rk false))))) H' ∧ ∃ ts : List Addr, H' F = some (.lst (ts.map V.ref)) ∧ Paired (LT.TupIs H') ts (unlikeK ((rk false).take i) (rk true))) ⟨same_upd nF, [], upd_same, .nil⟩ (fun i H' _ ⟨s, _⟩ => s _ _ ef) ?_ ?_
    · rintro i x H3 H4 hi ⟨s3, ts, eF, hts⟩ ⟨rfl, p, hp, rfl⟩
      have g1 : DGet H4 (r false) (.str p.1) (some (.int p.2)) := by
        have h := dget_frz (k := Sum.inr p.1) (s3 _ _ ef)
        rw [sd_val (rk false) kn0.nd (List.mem_of_getElem? hp)] at h
        exact h
      have g2 : DGet H4 (r true) (.str p.1) ((getA (rk true) p.1).map V.int) := by
        have h := DGet.k (k := Sum.inr p.1) (s3 _ _ h1l)
        rw [show valV (sd (rk true)) (Sum.inr p.1) = (getA (rk true) p.1).map V.int from val_en inr_inj p.1 (rk true)] at h
        exact h
      have hR4 := s3 _ _ hRl
      have ln' : (ts.map V.ref).length < sizeLine := by
        rw [List.length_map, Paired.length hts]
        have h1 := unlikeK_le ((rk false).take i) (rk true)
        rw [List.length_take] at h1
        have := kn0.ln
        exact small2k (by omega)
      rw [take_snoc hp, unlikeK_snoc]
      have ga : ∀ {P : V → Hp → Prop}, P (.int p.2) H4 → True := fun _ => trivial
      have stay : tstK (rk true) p = false → Paired (LT.TupIs H4) ts (unlikeK ((rk false).take i) (rk true) ++ if tstK (rk true) p = true then [[.str (Str.ofString "keeper"), .str p.1]] else []) := fun h => by
        rw [h, if_neg nofun, List.append_nil]
        exact hts
      refine ⟨rfl, _, rfl, R, _, 1, _, rfl, rfl, SqL.of hR4, two_at.2, r true, rfl, .inl ⟨_, .inl (s3 _ _ h1l)⟩, _, rfl, _, rfl, R, _, 0, _, rfl, rfl, SqL.of hR4, two_at.1, _, rfl, r false, _, rfl, g1, _, g2, ?_⟩
      refine ⟨_, rfl, R, _, 0, _, rfl, rfl, SqL.of hR4, two_at.1, _, rfl, r false, _, rfl, g1, ?_⟩
      have et : ((getA (rk true) p.1).map V.int).getD (.int p.2) = .int ((getA (rk true) p.1).getD p.2) := by cases getA (rk true) p.1 <;> rfl
      have etst : tstK (rk true) p = decide ((getA (rk true) p.1).getD p.2 ≠ p.2) := by
        unfold tstK
        cases getA (rk true) p.1 with
        | none => exact (decide_eq_false (fun h => h rfl)).symm
        | some v =>
          show decide (p.2 ≠ v) = decide (v ≠ p.2)
          exact decide_eq_decide.mpr ⟨fun k e => k e.symm, fun k e => k e.symm⟩
      rw [et]
      generalize (getA (rk true) p.1).getD p.2 = v at etst
      refine ⟨rfl, _, rfl, ?_⟩
      by_cases hv : v = p.2
      · rw [show decide (V.int v = V.int p.2) = true from decide_eq_true (by rw [hv])]
        exact iteF ⟨s3, ts, eF, stay (by rw [etst]; exact decide_eq_false (fun h => h hv))⟩
      · rw [show decide (V.int v = V.int p.2) = false from decide_eq_false (fun h => hv (V.int.inj h))]
        refine iteT ⟨_, rfl, by show 2 ≤ sizeLine; decide, fun x nx => ?_⟩
        rw [show (kV (Sum.inr p.1) : V) = .str p.1 from rfl]
        have sT := same_upd (o := .tup [.str (Str.ofString "keeper"), .str p.1]) nx
        have ex := upd_same (H := H4) (a := x) (o := .tup [.str (Str.ofString "keeper"), .str p.1])
        have nFx : F ≠ x := ne_of_none eF nx
        have s5 := s3.trans sT
        have eF5 := sT _ _ eF
        have hts5 : Paired (LT.TupIs (L2.upd H4 x (.tup [.str (Str.ofString "keeper"), .str p.1]))) ts (unlikeK ((rk false).take i) (rk true)) := paired_imp (fun _ _ h => sT _ _ h) hts
        generalize L2.upd H4 x (.tup [.str (Str.ofString "keeper"), .str p.1]) = H5 at *
        refine ⟨_, eF5, ln', same_app nF s5, ts ++ [x], by rw [upd_same, List.map_append]; rfl, ?_⟩
        rw [if_pos (show tstK (rk true) p = true by rw [etst]; exact decide_eq_true hv)]
        exact paired_snoc' (paired_imp (fun _ _ h => by
          show L2.upd H5 F _ _ = _
          rw [upd_ne (ne_of h eF5 (by intro z; cases z))]
          exact h) hts5) (by
          show L2.upd H5 F _ x = _
          rw [upd_ne (Ne.symm nFx)]
          exact ex)
    · rintro H3 ⟨s3, ts, eF, hts⟩
      rw [List.take_length] at hts
      refine ⟨s3 _ _ ef, ?_⟩
      have s4 : Same H (L2.upd H3 (r false) (.dK (sd (rk false)))) := lock_back er0 s3
      have eF4 : L2.upd H3 (r false) (.dK (sd (rk false))) F = some (.lst (ts.map V.ref)) := by rw [upd_ne nF1]; exact eF
      have hts4 : Paired (LT.TupIs (L2.upd H3 (r false) (.dK (sd (rk false))))) ts (unlikeK (rk false) (rk true)) := paired_imp (fun x _ h => by
        show L2.upd H3 (r false) _ x = _
        rw [upd_ne (ne_of h (s3 _ _ ef) (by intro z; cases z))]
        exact h) hts
      have nF2 : H F = none := by
        rw [upd_ne nF1] at nF
        exact nF
      generalize L2.upd H3 (r false) (.dK (sd (rk false))) = H4 at *
      clear s3 eF hts ef up hRl h1l nF
      refine ⟨e false, _, s4 _ _ ee0, trivial, fun od2 => ?_⟩
      have ef := upd_same (H := H4) (a := e false) (o := .frz od2 (.dT (enT (t false))))
      have up : ∀ {x : Addr} {o : HO}, H4 x = some o → o ≠ .dT (enT (t false)) → L2.upd H4 (e false) (.frz od2 (.dT (enT (t false)))) x = some o := fun h n => by
        rw [upd_ne (fun z => n (Option.some.inj (h.symm.trans (by rw [z]; exact s4 _ _ ee0))))]
        exact h
      have hEl := up (s4 _ _ hE0) nofun
      have e1l : L2.upd H4 (e false) (.frz od2 (.dT (enT (t false)))) (e true) = some (.dT (enT (t true))) := by
        rw [upd_ne (Ne.symm ne)]
        exact s4 _ _ ee1
      have eFl := up eF4 nofun
      have htsl : Paired (LT.TupIs (L2.upd H4 (e false) (.frz od2 (.dT (enT (t false)))))) ts (unlikeK (rk false) (rk true)) := paired_imp (fun x xs (h : H4 x = some (.tup xs)) => (up h nofun : L2.upd H4 (e false) _ x = some (.tup xs))) hts4
      refine ⟨_, rfl, E1, _, 0, _, rfl, rfl, SqL.of hEl, two_at.1, e false, od2, rfl, .inr ⟨_, ef, ?_⟩⟩
      have ndt0 := ndt false
      have tl0 := ln false
      have ul := unlikeK_le (rk false) (rk true)
      have tsl := Paired.length hts4
      have kl0 := kn0.ln
      generalize hHl : L2.upd H4 (e false) (.frz od2 (.dT (enT (t false)))) = Hl at *
      have nFe : F ≠ e false := fun z => by rw [z, ef] at eFl; cases eFl
      have nFe1 : F ≠ e true := fun z => by rw [z, e1l] at eFl; cases eFl
      have nFE : F ≠ E1 := fun z => by rw [z, hE0] at nF2; cases nF2
      refine for_it (walk_keysT (d := e false) (o := od2) (kvs := enT (t false))) (fun i σ H' => (∃ x3 : Option V, σ = [some (.ref R), some (.ref E1), some (.ref F), x3, none]) ∧ SameB F Hl H' ∧ ∃ ts2 : List Addr, H' F = some (.lst ((ts ++ ts2).map V.ref)) ∧ Paired (LT.TupIs H') (ts ++ ts2) (unlikeK (rk false) (rk true) ++ (((t false).take i).filter (tstT (t true))).map fun p => keyK p.1)) ⟨⟨none, rfl⟩, SameB.of (Same.refl _), [], by rw [List.append_nil]; exact eFl, by rw [List.append_nil, List.take_zero, List.filter_nil, List.map_nil, List.append_nil]; exact htsl⟩ (fun i σ H' _ ⟨_, s, _⟩ => s _ _ (Ne.symm nFe) ef) ?_ ?_
      · rintro i x σ H5 H6 hi ⟨⟨x3, rfl⟩, s5, ts2, eF5, hts5⟩ ⟨rfl, kk, vv, M, hkv, rfl, hM⟩
        unfold enT at hkv
        rw [List.getElem?_map, Option.map_eq_some_iff] at hkv
        obtain ⟨p, hp, epk⟩ := hkv
        have ek : kT p.1 = kk := congrArg Prod.fst epk
        have ev : p.2 = vv := congrArg Prod.snd epk
        subst ek ev
        have il := (List.getElem?_eq_some_iff.mp hp).1
        have ef5 := s5 _ _ (Ne.symm nFe) ef
        have e15 := s5 _ _ (Ne.symm nFe1) e1l
        have hE5 := s5 _ _ (Ne.symm nFE) hEl
        have dg1 : DGet H6 (e true) (.ref M) (getA (t true) p.1) := by
          have h := DGet.t (k := kT p.1) e15 hM
          rw [val_enT] at h
          exact h
        have dg0 : DGet H6 (e false) (.ref M) (some p.2) := by
          refine .inr ⟨enT (t false), kT p.1, M, .inr ⟨od2, ef5⟩, rfl, hM, ?_⟩
          rw [val_enT]
          exact (getA_of_mem ndt0 (List.mem_of_getElem? hp)).symm
        rw [take_snoc hp, dueE_snoc]
        have stay : tstT (t true) p = false → Paired (LT.TupIs H6) (ts ++ ts2) (unlikeK (rk false) (rk true) ++ ((((t false).take i).filter (tstT (t true))).map (fun p => keyK p.1) ++ if tstT (t true) p = true then [keyK p.1] else [])) := fun h => by
          rw [h, if_neg nofun, List.append_nil]
          exact hts5
        refine ⟨_, rfl, _, rfl, E1, _, 1, _, rfl, rfl, SqL.of hE5, two_at.2, e true, _, rfl, dg1, _, rfl, ?_⟩
        cases hg : getA (t true) p.1 with
        | none => exact iteF (iteF ⟨⟨_, rfl⟩, s5, ts2, eF5, stay (by unfold tstT; rw [hg])⟩)
        | some w' =>
          rw [hg] at dg1
          have wk0 : WkOK p.1.1 p.2 := (ok false p (List.mem_of_getElem? hp)).wk
          have wk1 : WkOK p.1.1 w' := (ok true (p.1, w') (getA_mem hg)).wk
          obtain ⟨a1, a2, a3, a4⟩ := wk_show wk0
          obtain ⟨b1, b2, b3, b4⟩ := wk_show wk1
          refine iteT ⟨_, rfl, E1, _, 0, _, rfl, rfl, SqL.of hE5, two_at.1, _, rfl, e false, _, rfl, dg0, p.2, _, rfl, .dp (wD_dp (wk_wok wk0)) a2, a1, by omega, by rw [sizeLine_eq]; omega, ?_⟩
          refine ⟨_, rfl, E1, _, 1, _, rfl, rfl, SqL.of hE5, two_at.2, _, rfl, e true, _, rfl, dg1, w', _, rfl, .dp (wD_dp (wk_wok wk1)) b2, b1, by omega, by rw [sizeLine_eq]; omega, rfl, _, rfl, ?_⟩
          by_cases hw : p.2 = w'
          · rw [show decide (V.str (wD p.2).shown = V.str (wD w').shown) = true from decide_eq_true (by rw [hw])]
            exact iteF ⟨⟨_, rfl⟩, s5, ts2, eF5, stay (by unfold tstT; rw [hg]; exact decide_eq_false (fun h => h hw))⟩
          · rw [show decide (V.str (wD p.2).shown = V.str (wD w').shown) = false from decide_eq_false (fun h => hw (wk_inj wk0 wk1 (V.str.inj h)))]
            refine iteT ⟨_, rfl, .inl ⟨rfl, _, SqL.of eF5⟩, _, rfl, F, _, _, rfl, rfl, eF5, ?_, ⟨_, rfl⟩, SameB.upd s5, ts2 ++ [M], ?_, ?_⟩
            · have h1 := Paired.length hts5
              rw [List.length_append, List.length_append, List.length_map] at h1
              have h2 := List.length_filter_le (tstT (t true)) ((t false).take i)
              rw [List.length_take] at h2
              rw [List.length_map, List.length_append]
              exact small2k (by omega)
            · rw [upd_same, ← List.append_assoc, List.map_append (l₂ := [M])]
              rfl
            · rw [if_pos (show tstT (t true) p = true by unfold tstT; rw [hg]; exact decide_eq_true hw), ← List.append_assoc, ← List.append_assoc]
              have nM : M ≠ F := ne_of hM eF5 (by intro z; cases z)
              exact paired_snoc' (paired_imp (fun _ _ h => by
                show L2.upd H6 F _ _ = _
                rw [upd_ne (ne_of h eF5 (by intro z; cases z))]
                exact h) hts5) (by
                show L2.upd H6 F _ M = _
                rw [upd_ne nM]
                exact hM)
      · rintro σ H5 ⟨⟨x3, rfl⟩, s5, ts2, eF5, hts5⟩
        have etl : (enT (t false)).length = (t false).length := by unfold enT; rw [List.length_map]
        rw [etl, List.take_length] at hts5
        have hts5 : Paired (LT.TupIs H5) (ts ++ ts2) (unlikeK (rk false) (rk true) ++ dueE (t false) (t true)) := hts5
        generalize ts ++ ts2 = us at *
        refine ⟨s5 _ _ (Ne.symm nFe) ef, ?_⟩
        have s6 : Same H (L2.upd H5 (e false) (.dT (enT (t false)))) := fun x o h => by
          by_cases hx : x = e false
          · subst hx
            rw [ee0] at h
            cases h
            exact upd_same
          · rw [upd_ne hx]
            refine s5 _ _ (fun z => by rw [z, nF2] at h; cases h) ?_
            rw [← hHl, upd_ne hx]
            exact s4 _ _ h
        have eF6 : L2.upd H5 (e false) (.dT (enT (t false))) F = some (.lst (us.map V.ref)) := by rw [upd_ne nFe]; exact eF5
        have hall : Paired (LT.TupIs (L2.upd H5 (e false) (.dT (enT (t false))))) us (unlikeK (rk false) (rk true) ++ dueE (t false) (t true)) := paired_imp (fun x xs h => by
          show L2.upd H5 (e false) _ x = _
          rw [upd_ne (ne_of h (s5 _ _ (Ne.symm nFe) ef) (by intro z; cases z))]
          exact h) hts5
        generalize L2.upd H5 (e false) (.dT (enT (t false))) = H9 at *
        have cls : ∀ xs ∈ unlikeK (rk false) (rk true) ++ dueE (t false) (t true), ClsK xs := by
          intro xs hx
          rcases List.mem_append.mp hx with hx | hx
          · obtain ⟨p, _, rfl⟩ := List.mem_map.mp hx
            exact .inl ⟨_, rfl⟩
          · unfold dueE at hx
            obtain ⟨p, _, rfl⟩ := List.mem_map.mp hx
            exact .inr ⟨evOfK p, rfl⟩
        have kk : ∀ v ∈ us.map V.ref, ∃ x xs, v = .ref x ∧ LT.TupIs H9 x xs ∧ xs ∈ unlikeK (rk false) (rk true) ++ dueE (t false) (t true) := fun v hv => by
          obtain ⟨i, hi⟩ := List.getElem?_of_mem hv
          obtain ⟨x, xs, rfl, hx, ht⟩ := pick_at hall hi
          exact ⟨x, xs, rfl, ht, List.mem_of_getElem? hx⟩
        have emap : (us.map V.ref).map (fun v => keyD (keyOfV H9 v)) = (unlikeK (rk false) (rk true) ++ dueE (t false) (t true)).map keyD := by
          obtain ⟨l, h1, h2, h3⟩ := pairs_of hall
          rw [← h1, ← h2, List.map_map, List.map_map, List.map_map]
          refine List.map_congr_left fun p hp => ?_
          show keyD (keyOfV H9 (.ref p.1)) = keyD p.2
          rw [keyOf_is (h3 p hp)]
        refine ⟨_, rfl, F, _, keyOfV H9, rfl, SqL.of eF6, fun v hv => ?_, fun v hv y hy => ?_, ?_, ?_, ?_, fun o no => ?_⟩
        · obtain ⟨t, xs, rfl, ht, _⟩ := kk v hv
          exact ⟨t, rfl, by rw [keyOf_is ht]; exact ht⟩
        · obtain ⟨t, xs, rfl, ht, hm⟩ := kk v hv
          rw [keyOf_is ht] at hy
          exact (clsK_tp (cls xs hm)).2.2 y hy
        · rw [emap]
          intro d hd
          obtain ⟨xs, hm, rfl⟩ := List.mem_map.mp hd
          exact (clsK_tp (cls xs hm)).1
        · rw [emap]
          exact clsK_mix cls
        · rw [emap]
          intro d hd
          obtain ⟨xs, hm, rfl⟩ := List.mem_map.mp hd
          exact (clsK_tp (cls xs hm)).2.1
        · obtain ⟨ts', e', hts'⟩ := tup_sorted hall
          rw [e']
          have sO := same_upd (o := .lst (ts'.map V.ref)) no
          exact q o ts' _ (s6.trans sO) (s6.free no) upd_same (paired_imp (fun _ _ h => sO _ _ h) hts')
theorem sc__law_right : FnScope ["_law_mine", "_law_theirs", "_law_due_here", "_law_first", "_law_second"] ["_law_mine", "_law_theirs", "_law_due_here"] (defScope s__law_right) := ⟨rfl, rfl, rfl, by decide +kernel, rfl, by decide +kernel, by decide +kernel⟩
theorem ok__law_right (D : All K P mg) (TB : TBs D base) : FnG P w K mg base CX0 12 D.f__law_right D.d__law_right ["_law_mine", "_law_theirs", "_law_due_here"] (spRight9 D.C_Book D.C_History (TLs D)) := by
  refine okG D.h__law_right.fn sc__law_right (fun h => ?_) (fun cdv A outer s H vs Q E hG hr h => ?_)
  · first | (obtain ⟨_, rfl, _⟩ := h; rfl) | (obtain ⟨_, _, rfl, _⟩ := h; rfl) | (obtain ⟨_, _, _, rfl, _⟩ := h; rfl) | (obtain ⟨_, _, _, _, rfl, _⟩ := h; rfl) | (obtain ⟨_, _, _, _, _, rfl, _⟩ := h; rfl) | (obtain ⟨_, _, _, _, _, _, rfl, _⟩ := h; rfl) | (obtain ⟨_, _, _, _, _, _, _, rfl, _⟩ := h; rfl) | (obtain ⟨_, _, _, _, _, _, _, _, rfl, _⟩ := h; rfl) | (obtain ⟨_, _, _, _, _, _, _, _, _, rfl, _⟩ := h; rfl) | (obtain ⟨_, _, _, _, _, _, _, _, _, _, rfl, _⟩ := h; rfl) | (obtain ⟨_, _, _, _, _, _, _, _, _, _, _, rfl, _⟩ := h; rfl) | (obtain ⟨_, _, _, _, _, _, _, _, _, _, _, _, rfl, _⟩ := h; rfl) | (obtain ⟨_, _, _, _, _, _, _, _, _, _, _, _, _, rfl, _⟩ := h; rfl) | (obtain ⟨_, _, _, _, _, _, _, _, _, _, _, _, _, _, rfl, _⟩ := h; rfl) | (obtain ⟨_, _, _, _, _, _, _, _, _, _, _, _, _, _, _, rfl, _⟩ := h; rfl)
  · have T := D.T
    have nd := sc__law_right.nd
    have hu := hr.units
    have hu1 := hu_of hr
    have hu0 := hr.units0
    have hG2 : (cxOf CX0 P w K mg base ["_law_mine", "_law_theirs", "_law_due_here", "_law_first", "_law_second"] "_law_right" (defScope s__law_right) D.f__law_right cdv A outer s H E).nox.A.guards = some [] := hG
    obtain ⟨b, c, l, rk, rk', es, es', fp, fp', ts, rfl, W, W', l1, l2, k1, k2, el, hts, TT, q⟩ := h
    have kw0_clashes_other_one := kbn_of (ps := ["one", "other"]) D.h_clashes.fn 0 ["other", "one"] (fun us ws => us ++ pick [1, 0] ws) (fun r1 r3 => (r1).append (pick_vals r3 [1, 0])) (fun _ _ _ _ _ _ us ws h1 h2 => match us, ws, h1, h2 with | [], [_, _], _, _ => rfl)
    refine ⟨_, pss_cons (ps_par (i := 3) (j := 4) (by rfl) nd rfl rfl (by decide) rfl rfl (pa_cons (pe_call (ok_clashes D TB) (hr.mono (by decide)) (by rfl) D.h_clashes.gl D.h_clashes.fn.kp D.h_clashes.bd .nil pass0 (pa_cons (pv 0) (pa_cons (pv 1) pa_nil))) (pa_cons (pe_callKn (ok_clashes D TB) (hr.mono (by decide)) (by rfl) D.h_clashes.gl D.h_clashes.fn.kp kw0_clashes_other_one pass0 (pk_cons (pv 0) (pk_cons (pv 1) pk_nil))) pa_nil)) (by rfl))
      (pss_cons (ps_if (PW.pt (pw_or (pt_not (pt_val (pe_callB call_isi (by rfl) T.isi (by decide +kernel) (pa_cons (pv 3) (pa_cons (pe_bltn (v := .ty "list") (by rfl) T.list (by decide +kernel) rfl) pa_nil))))) (pw_or (pt_cmpR op_ne (pe_callB (call_reprSd hG2 hu) (by rfl) T.repr (by decide +kernel) (pa_cons (pv 3) pa_nil)) (pe_callB (call_reprSd hG2 hu) (by rfl) T.repr (by decide +kernel) (pa_cons (pv 2) pa_nil)) (nomark _)) (pw_or1 (pt_cmpR op_ne (pe_callB (call_reprSd hG2 hu) (by rfl) T.repr (by decide +kernel) (pa_cons (pv 4) pa_nil)) (pe_callB (call_reprSd hG2 hu) (by rfl) T.repr (by decide +kernel) (pa_cons (pv 2) pa_nil)) (nomark _)))))) (pss_one (ps_ret pe_bl)) pss_nil)
      (pss_cons (ps_expr (pe_bm PySem.F.plainAttrs_list PySem.F.slot_list_append PySem.F.type_list_append mt_append (pv 3) (pa_cons pe_non pa_nil)))
      (pss_one (ps_ret (pe_and (pe_cmpR op_eq (pe_callB (call_reprSd hG2 hu) (by rfl) T.repr (by decide +kernel) (pa_cons (pv 4) pa_nil)) (pe_callB (call_reprSd hG2 hu) (by rfl) T.repr (by decide +kernel) (pa_cons (pv 2) pa_nil)) (nomark _)) (pe_one (pe_cmpR op_eq (pe_callB (call_reprSd hG2 hu) (by rfl) T.repr (by decide +kernel) (pa_cons (pe_call (ok_clashes D TB) (hr.mono (by decide)) (by rfl) D.h_clashes.gl D.h_clashes.fn.kp D.h_clashes.bd .nil pass0 (pa_cons (pv 0) (pa_cons (pv 1) pa_nil))) pa_nil)) (pe_callB (call_reprSd hG2 hu) (by rfl) T.repr (by decide +kernel) (pa_cons (pv 2) pa_nil)) (nomark _)))))))), ?_⟩
    obtain ⟨dxb, Rb, Mb, Lb, vb, ix⟩ := W.ix
    obtain ⟨dxc, Rc, Mc, Lc, vc, ix'⟩ := W'.ix
    have kr := W.ev.1
    have kr' := W'.ev.1
    refine ⟨_, rfl, _, rfl, b, c, rk, rk', es, es', fp, fp', rfl, W, W', l1, l2, TT, fun F ts1 H1 nF x1 T1 eF hts1 => ?_⟩
    refine ⟨_, rfl, _, rfl, rfl, c, b, rk', rk, es', es, fp', fp, rfl, W'.extN x1, W.extN x1, l2, l1, T1, fun G ts2 H2 nG x2 T2 eG hts2 => ?_⟩
    rw [clash_sym kr.nd kr'.nd] at hts2
    have cB := clash_B (es := es) kr kr' W'.ev.2.2 k2
    have cl := clash_len rk rk' es es'
    have cl : (clashW rk rk' es es').length ≤ 100 := by have := kr.ln; omega
    generalize hCW : clashW rk rk' es es' = CW at *
    have x02 := x1.trans x2
    have el2 := x02 _ _ el nofun
    have eF2 := x2 _ _ eF nofun
    have up : ∀ {Hx Hy : Hp} {us : List Addr}, ExtN Hx Hy → Paired (LT.TupIs Hx) us CW → Paired (LT.TupIs Hy) us CW := fun x h => paired_imp (fun _ xs (h : _ = some (.tup xs)) => x _ _ h (fun _ z => nomatch z)) h
    have hts02 := up x02 hts
    have hts12 := up x2 hts1
    obtain ⟨sd0, sh0, dp0, ln0⟩ := clash_shows (K := K) cB cl hts02
    obtain ⟨sd1, _⟩ := clash_shows (K := K) cB cl hts12
    obtain ⟨sd2, _⟩ := clash_shows (K := K) cB cl hts2
    refine ⟨_, _, rfl, ?_⟩
    refine ⟨_, rfl, _, _, .type "list", .type "list", true, rfl, .ty _, .base (.lst eF2), ?_, _, rfl, ?_⟩
    · first | rfl | trivial
    refine iteF ⟨_, rfl, F, _, _, rfl, SqL.of eF2, sd1, sh0, dp0, ln0, _, rfl, l, _, _, rfl, SqL.of el2, sd0, sh0, dp0, ln0, rfl, _, rfl, ?_⟩
    have dself : ∀ x : V, decide (x = x) = true := fun x => decide_eq_true rfl
    rw [dself]
    refine iteF ⟨_, rfl, G, _, _, rfl, SqL.of eG, sd2, sh0, dp0, ln0, _, rfl, l, _, _, rfl, SqL.of el2, sd0, sh0, dp0, ln0, rfl, _, rfl, ?_⟩
    rw [dself]
    refine iteF ⟨_, rfl, .inl ⟨rfl, _, SqL.of eF2⟩, F, _, _, rfl, rfl, eF2, by rw [List.length_map, Paired.length hts12]; exact small2k (by omega), ?_⟩
    have nFH : NewN H F := nF
    have nlF : l ≠ F := fun z => by
      obtain ⟨ps, h⟩ := nF _ (by rw [← z]; exact el)
      cases h
    have nGF : G ≠ F := fun z => by
      obtain ⟨ps, h⟩ := nG _ (by rw [z]; exact eF)
      cases h
    have x03 : ExtN H (L2.upd H2 F (.lst (ts1.map V.ref ++ [.non]))) := LT.ExtN.over x02 nF
    have T3 : Tabs (TLs D) (L2.upd H2 F (.lst (ts1.map V.ref ++ [.non]))) := tabs_updG T2 eF2
    have tu : ∀ {us : List Addr}, Paired (LT.TupIs H2) us CW → Paired (LT.TupIs (L2.upd H2 F (.lst (ts1.map V.ref ++ [.non])))) us CW := fun h => paired_imp (fun x xs h => by
      show L2.upd H2 F _ x = _
      rw [upd_ne (ne_of h eF2 (by intro z; cases z))]
      exact h) h
    have hts03 := tu hts02
    have hts23 := tu hts2
    have el3 : L2.upd H2 F (.lst (ts1.map V.ref ++ [.non])) l = some (.lst (ts.map V.ref)) := by rw [upd_ne nlF]; exact el2
    have eG3 : L2.upd H2 F (.lst (ts1.map V.ref ++ [.non])) G = some (.lst (ts2.map V.ref)) := by rw [upd_ne nGF]; exact eG
    generalize L2.upd H2 F (.lst (ts1.map V.ref ++ [.non])) = H3 at *
    obtain ⟨sd03, _⟩ := clash_shows (K := K) cB cl hts03
    obtain ⟨sd23, _⟩ := clash_shows (K := K) cB cl hts23
    refine ⟨_, rfl, G, _, _, rfl, SqL.of eG3, sd23, sh0, dp0, ln0, _, rfl, l, _, _, rfl, SqL.of el3, sd03, sh0, dp0, ln0, rfl, ?_⟩
    rw [dself]
    have W3 := W.extN x03
    have W3' := W'.extN x03
    refine ⟨_, rfl, iteT ⟨_, rfl, _, rfl, b, c, rk, rk', es, es', fp, fp', rfl, W3, W3', l1, l2, T3, fun F4 ts4 H4 nF4 x4 T4 eF4 hts4 => ?_⟩⟩
    rw [hCW] at hts4
    have el4 := x4 _ _ el3 nofun
    obtain ⟨sd4, _⟩ := clash_shows (K := K) cB cl hts4
    obtain ⟨sd04, _⟩ := clash_shows (K := K) cB cl (up x4 hts03)
    refine ⟨F4, _, _, rfl, SqL.of eF4, sd4, sh0, dp0, ln0, _, rfl, l, _, _, rfl, SqL.of el4, sd04, sh0, dp0, ln0, rfl, ?_⟩
    rw [dself]
    exact q H4 (x03.trans x4) T4
end
end K91
set_option Elab.async false
set_option linter.all false
set_option maxRecDepth 100000
set_option maxHeartbeats 1600000
set_option pp.maxSteps 300
namespace K91
open PySem PySem.Spec PyProof.Rows L2 LT NdefX LamX
section
variable {P : Program} {w : World} {K : PySem.W.Frag} {mg : Str → Option Value} {base : Heap}
theorem sc__law_stay : FnScope ["_law_books", "_law_ranks", "_law_entries", "_law_k", "_law_due_here", "_law_mark"] ["_law_books", "_law_ranks", "_law_entries"] (defScope s__law_stay) := ⟨rfl, rfl, rfl, by decide +kernel, rfl, by decide +kernel, by decide +kernel⟩
theorem ok__law_stay (D : All K P mg) (TB : TBs D base) : FnG P w K mg base CX0 12 D.f__law_stay D.d__law_stay ["_law_books", "_law_ranks", "_law_entries"] (spStay9 D.C_Book D.C_History (TLs D)) := by
  refine okG D.h__law_stay.fn sc__law_stay (fun h => ?_) (fun cdv A outer s H vs Q E hG hr h => ?_)
  · first | (obtain ⟨_, rfl, _⟩ := h; rfl) | (obtain ⟨_, _, rfl, _⟩ := h; rfl) | (obtain ⟨_, _, _, rfl, _⟩ := h; rfl) | (obtain ⟨_, _, _, _, rfl, _⟩ := h; rfl) | (obtain ⟨_, _, _, _, _, rfl, _⟩ := h; rfl) | (obtain ⟨_, _, _, _, _, _, rfl, _⟩ := h; rfl) | (obtain ⟨_, _, _, _, _, _, _, rfl, _⟩ := h; rfl) | (obtain ⟨_, _, _, _, _, _, _, _, rfl, _⟩ := h; rfl) | (obtain ⟨_, _, _, _, _, _, _, _, _, rfl, _⟩ := h; rfl) | (obtain ⟨_, _, _, _, _, _, _, _, _, _, rfl, _⟩ := h; rfl) | (obtain ⟨_, _, _, _, _, _, _, _, _, _, _, rfl, _⟩ := h; rfl) | (obtain ⟨_, _, _, _, _, _, _, _, _, _, _, _, rfl, _⟩ := h; rfl) | (obtain ⟨_, _, _, _, _, _, _, _, _, _, _, _, _, rfl, _⟩ := h; rfl) | (obtain ⟨_, _, _, _, _, _, _, _, _, _, _, _, _, _, rfl, _⟩ := h; rfl) | (obtain ⟨_, _, _, _, _, _, _, _, _, _, _, _, _, _, _, rfl, _⟩ := h; rfl)
  · have T := D.T
    have nd := sc__law_stay.nd
    have hu := hr.units
    have hu1 := hu_of hr
    have hu0 := hr.units0
    have hG2 : (cxOf CX0 P w K mg base ["_law_books", "_law_ranks", "_law_entries", "_law_k", "_law_due_here", "_law_mark"] "_law_stay" (defScope s__law_stay) D.f__law_stay cdv A outer s H E).nox.A.guards = some [] := hG
    obtain ⟨B, b, a, rk, t, es, fp, rfl, eB, PP, W, RR, l1, l2, kb, TT, q⟩ := h
    refine ⟨_, pss_cons (ps_for PassesOwn.never rfl (pi_range1 (by rfl) T.range (pa_cons pe_int pa_nil)) (pg_name (i := 3) nd rfl (Or.inr rfl)) (pss_cons (ps_setLc (i := 4) (own := [("_law_mark", 5)]) (g := gName 5) (tt := tYes) rfl nd rfl rfl (sw_true rfl rfl rfl (by decide +kernel)) (pi_list (pe_callB (cr_sortedTD rfl hr.units) (by rfl) T.sorted (by decide +kernel) (pa_cons (pe_ix ix_list (pv 2) (pv 3) (fun _ _ => rfl)) pa_nil))) (blkOk_by (N := ["_law_books", "_law_ranks", "_law_entries", "_law_k", "_law_due_here", "_law_mark"]) (sc := defScope s__law_stay) (by decide +kernel)) (fun _ _ _ _ _ => (pg_name (i := 5) nd rfl (Or.inl rfl))) (fun _ _ _ _ _ => pts_nil) (fun _ _ _ _ _ => (pe_op (show OpR _ (binaryOp .Add) (rCatT K) from op_catT) (pv 5) (pe_tup (pa_cons (pe_dget hu1 (pe_ix (show IxR _ (rIxL K) from ix_list) (pv 2) (pv 3) (fun _ _ => rfl)) (pv 5) (fun _ _ => rfl)) pa_nil)))))
      (pss_one (ps_if (PW.pt (pw_or (pt_cmpR (op_neDG hr.units0) (pe_meth0 (pe_ix ix_list (pv 0) (pv 3) (fun _ _ => rfl)) D.Z_Book.cl D.h_Book_ranks.me (ok_Book_ranks D) (hr.mono (by decide)) D.h_Book_ranks.bd .nil pass0) (pe_ix ix_list (pv 1) (pv 3) (fun _ _ => rfl)) (nomark _)) (pw_or1 (pt_cmpR op_ne (pe_callB (call_reprSd hG2 hu) (by rfl) T.repr (by decide +kernel) (pa_cons (pe_meth0 (pe_ix ix_list (pv 0) (pv 3) (fun _ _ => rfl)) D.Z_Book.cl D.me_Book_entries (ok_Book_entries D TB) (hr.mono (by decide)) D.lb_Book_entries .nil pass0) pa_nil)) (pe_callB (call_reprSd hG2 hu) (by rfl) T.repr (by decide +kernel) (pa_cons (pv 4) pa_nil)) (nomark _))))) (pss_one (ps_ret pe_bl)) pss_nil))))
      (pss_one (ps_ret pe_bl)), ?_⟩
    obtain ⟨R, E1, r, e⟩ := a
    refine ⟨_, rfl, by decide, by decide, for_range (lo := 0) (n := 2) (fun i σ H' => (∃ x3 x4 : Option V, σ = [some (.ref B), some (.ref R), some (.ref E1), x3, x4, none]) ∧ ExtN H H' ∧ Tabs (TLs D) H') ⟨⟨none, none, rfl⟩, fun _ _ h _ => h, TT⟩ ?_ ?_⟩
    · rintro i σ H1 hi ⟨⟨x3, x4, rfl⟩, x1, T1⟩
      obtain ⟨j, hj⟩ : ∃ j : Bool, (0 : Int) + ((i : Nat) : Int) = (if j = true then 1 else 0) := by
        have : i = 0 ∨ i = 1 := by omega
        rcases this with rfl | rfl
        · exact ⟨false, rfl⟩
        · exact ⟨true, rfl⟩
      rw [hj]
      have two_at : ∀ (f : Bool → Addr), atI [V.ref (f false), .ref (f true)] (if j = true then 1 else 0) = some (.ref (f j)) := fun f => by
        cases j
        · exact atI_nat (j := 0) rfl
        · exact atI_nat (j := 1) rfl
      generalize (if j = true then (1 : Int) else 0) = ii at *
      have PP1 := PP.extN x1
      have hE1 : H1 E1 = some (.lst [.ref (e false), .ref (e true)]) := PP1.e.hR
      have hR1 : H1 R = some (.lst [.ref (r false), .ref (r true)]) := PP1.k.hR
      have he1 : H1 (e j) = some (.dT (enT (t j))) := PP1.e.hr j
      have hr1 : H1 (r j) = some (.dK (sd (rk j))) := PP1.k.hr j
      have eB1 := x1 _ _ eB nofun
      have W1 := (W j).extN x1
      have Rj := RR j
      have etd : tellD ((t j).map evOfK) = t j := by
        have e2 : ((t j).map evOfK).map evK = (t j).map (·.1) := by rw [List.map_map]; rfl
        rw [tellD_of_nd _ (by rw [e2]; exact Rj.nd), List.map_map]
        exact List.map_id _
      have eew : entW ((t j).map evOfK) = entW (es j) := by
        rw [Rj.entW]
        show ((tellD ((t j).map evOfK)).map evOfK).mergeSort evLe = _
        rw [etd]
      obtain ⟨al, so⟩ := keys_alike ((t j).map evOfK)
      rw [etd] at al so
      refine ⟨_, rfl, _, rfl, E1, _, ii, _, rfl, rfl, SqL.of hE1, two_at e, ?_⟩
      refine ⟨e j, _, fun v => evKey (fK ((t j).map evOfK) H1 v), rfl, .inl he1, fun b0 k hb ⟨p, hp, hk⟩ => ?_, al, so, fun P bs nP hbs => ?_⟩
      · obtain ⟨p', _, rfl⟩ := List.mem_map.mp hp
        have hk : kT p'.1 = k := hk
        subst hk
        show evKey (fK ((t j).map evOfK) H1 (.ref b0)) = _
        rw [fK_is hb]
        rfl
      rw [← etd] at hbs
      obtain ⟨cs, ecs, hcs⟩ := keys_sorted hbs
      rw [ecs]
      have s3 := same_upd (o := .lst (cs.map V.ref)) nP
      have eP := upd_same (H := H1) (a := P) (o := .lst (cs.map V.ref))
      generalize L2.upd H1 P (.lst (cs.map V.ref)) = H3 at *
      have cl : cs.length = (entW ((t j).map evOfK)).length := Paired.length hcs
      have wl := entW_len ((t j).map evOfK)
      rw [List.length_map] at wl
      have tl := l2 j
      refine ⟨P, rfl, ⟨_, SqL.of eP⟩, fun L nL => ?_⟩
      refine lc_list (K := K) (a := P) (xs := cs.map V.ref) (fun i H' => Same H3 H' ∧ ∃ us : List Addr, H' L = some (.lst (us.map V.ref)) ∧ Paired (EvT (new H3 H')) us ((entW ((t j).map evOfK)).take i)) ⟨same_upd nL, [], upd_same, .nil⟩ (fun j H' _ ⟨s, _⟩ => SqL.of (s _ _ eP)) ?_ ?_
      · rintro i2 x H4 hx ⟨s4, us, eL, hus⟩
        obtain ⟨b0, ev, rfl, he, hb⟩ := pick_at hcs hx
        have ul : us.length = i2 := by
          have h1 := Paired.length hus
          have h2 := (List.getElem?_eq_some_iff.mp he).1
          rw [List.length_take] at h1
          omega
        have jl := (List.getElem?_eq_some_iff.mp he).1
        have hb4 : H4 b0 = some (.tup (evKey ev)) := s4 _ _ (s3 _ _ hb)
        have he4 := s4 _ _ (s3 _ _ he1)
        have hE4 := s4 _ _ (s3 _ _ hE1)
        have hv : valV (enT (t j)) (kT (evK ev)) = some ev.w := by
          rw [val_enT, Rj.ev]
          have := ((entW_is (es j)).mem ev).mp (by rw [← eew]; exact List.mem_of_getElem? he)
          exact this
        have dg : DGet H4 (e j) (.ref b0) (some ev.w) := by
          rw [← hv]
          exact DGet.t he4 hb4
        refine ⟨rfl, _, rfl, _, rfl, _, rfl, E1, _, ii, _, rfl, rfl, SqL.of hE4, two_at e, _, rfl, e j, _, rfl, dg, by show 1 ≤ sizeLine; decide, fun Tt nT => ?_⟩
        have s5 := same_upd (o := .tup [ev.w]) nT
        have eT := upd_same (H := H4) (a := Tt) (o := .tup [ev.w])
        generalize L2.upd H4 Tt (.tup [ev.w]) = H5 at *
        refine ⟨b0, Tt, _, _, rfl, rfl, SqT.of (s5 _ _ hb4), SqT.of eT, nofun, by show 4 + 1 ≤ sizeLine; decide, nofun, fun _ Rr nR => ?_⟩
        have s6 := same_upd (o := .tup (evKey ev ++ [ev.w])) nR
        have eR := upd_same (H := H5) (a := Rr) (o := .tup (evKey ev ++ [ev.w]))
        generalize L2.upd H5 Rr (.tup (evKey ev ++ [ev.w])) = H6 at *
        have s46 := s5.trans s6
        have eL6 := s46 _ _ eL
        refine ⟨_, eL6, by rw [List.length_map]; exact small2k (by omega), same_put nL (s4.trans s46), us ++ [Rr], ?_, ?_⟩
        · rw [upd_same, List.map_append]
          rfl
        · rw [take_snoc he]
          have nR3 : H3 Rr = none := (s4.trans s5).free nR
          have nRL : Rr ≠ L := (ne_of_none (s5 _ _ eL) nR).symm
          refine paired_snoc' (paired_imp (fun t e' k => by
            have k : new H3 H4 t = some (.tup _) := k
            obtain ⟨k0, k1⟩ := new_iff.mp k
            exact new_iff.mpr ⟨k0, by rw [upd_ne (ne_of k1 eL (by intro z; cases z))]; exact s46 _ _ k1⟩) hus) (new_iff.mpr ⟨nR3, ?_⟩)
          rw [upd_ne nRL]
          exact eR
      · rintro H4 ⟨s4, us, eL, hus⟩
        rw [List.length_map, cl, List.take_length] at hus
        have hus : Paired (EvT H4) us (entW (es j)) := by rw [← eew]; exact paired_imp (fun _ _ k => (new_iff.mp k).2) hus
        have s14 := s3.trans s4
        clear hcs hbs
        have x04 : ExtN H H4 := x1.trans (ExtN.of s14)
        have W4 := W1.mono s14
        obtain ⟨dxb, Rb, Mb, Lb, vb, ix⟩ := W4.ix
        have kr := W4.ev.1
        have okL : ∀ e ∈ entW (es j), EvOK (rk j) e ∧ e.kn < 10 ^ 55 := fun e he => ⟨W4.ev.2.2 e ((entW_is (es j)).sub e he), kb j e ((entW_is (es j)).sub e he)⟩
        have lL : (entW (es j)).length ≤ 60 := Nat.le_trans (entW_len (es j)) (l1 j)
        refine ⟨_, rfl, _, rfl, B, _, ii, _, rfl, rfl, SqL.of (s14 _ _ eB1), two_at b, b j, dxb, _, rfl, ix, rfl, b j, rk j, es j, fp j, rfl, W4, fun o H5 no eo s5 => ?_⟩
        refine ⟨_, rfl, _, rfl, R, _, ii, _, rfl, rfl, SqL.of (s5 _ _ (s14 _ _ hR1)), two_at r, o, r j, _, _, rfl, rfl, eo, s5 _ _ (s14 _ _ hr1), sd_flat _, sd_flat _, ?_⟩
        rw [show dkEq (sd (rk j)) (sd (rk j)) = true from rkEq_refl kr]
        refine ⟨_, rfl, iteF ?_⟩
        have W5 := W4.mono s5
        refine ⟨_, rfl, _, rfl, B, _, ii, _, rfl, rfl, SqL.of (s5 _ _ (s14 _ _ eB1)), two_at b, b j, dxb, _, rfl, s5 _ _ ix, rfl, b j, rk j, es j, fp j, rfl, W5, l1 j, T1.ext (s14.trans s5), fun l7 ts7 L7 H7 nl7 e7 T7 el7 hts7 hL7 => ?_⟩
        obtain rfl : L7 = entW (es j) := hL7.uniq (entW_is (es j))
        obtain ⟨P1, _⟩ := ents63 (K := K) kr okL lL hts7
        obtain ⟨Q1, _⟩ := ents63 (K := K) kr okL lL (paired_imp (fun _ _ h => evT_extN e7 (s5 _ _ h)) hus)
        refine ⟨l7, _, _, rfl, SqL.of el7, P1.1, P1.2.1, P1.2.2.1, P1.2.2.2, _, rfl, L, _, _, rfl, SqL.of (e7 _ _ (s5 _ _ eL) nofun), Q1.1, Q1.2.1, Q1.2.2.1, Q1.2.2.2, rfl, _, rfl, ?_⟩
        rw [show decide (V.str (PyData.list (List.map evD (entW (es j)))).shown = V.str (PyData.list (List.map evD (entW (es j)))).shown) = true from decide_eq_true rfl]
        exact iteF ⟨⟨_, _, rfl⟩, x04.trans ((ExtN.of s5).trans e7), T7⟩
    · rintro σ H1 ⟨⟨x3, x4, rfl⟩, x1, T1⟩
      exact q H1 x1 T1
end
end K91
set_option Elab.async false
set_option linter.all false
set_option maxRecDepth 100000
set_option maxHeartbeats 1600000
/-! Own layer: two books that go their own ways over one plan, and the lists of what they were told. -/
namespace LT
open PySem PySem.Spec PyProof.Rows L2 NdefX LamX
def SLN (S : List Addr) (H H' : Hp) : Prop := ∀ a o, a ∉ S → H a = some o → (∀ ps, o ≠ .tbl ps) → H' a = some o
theorem SLN.of {S : List Addr} {H H' : Hp} (s : SameL S H H') : SLN S H H' := fun a o n e _ => s a o n e
theorem SLN.ext {S : List Addr} {H H' : Hp} (s : ExtN H H') : SLN S H H' := fun a o _ e t => s a o e t
def mm (p P E1 : Addr) (oth : Option Addr) (fp f2 : List Addr) : List Addr := p :: P :: E1 :: (oth.toList ++ (fp ++ f2))
theorem mm_iff {p P E1 a : Addr} {oth : Option Addr} {fp f2 : List Addr} : a ∈ mm p P E1 oth fp f2 ↔ a = p ∨ a = P ∨ a = E1 ∨ oth = some a ∨ a ∈ fp ∨ a ∈ f2 := by
  unfold mm
  simp only [List.mem_cons, List.mem_append, Option.mem_toList]
theorem sln_step {S M M' : List Addr} {H H' : Hp} (s : SLN S H H') (hs : ∀ a ∈ S, a ∈ M) (hm : ∀ a ∈ M', a ∈ M ∨ NewN H a) {a : Addr} {o : HO} (e : Ho M H a = some o) (t : ∀ ps, o ≠ .tbl ps) : Ho M' H' a = some o := by
  obtain ⟨n, e⟩ := ho_iff.mp e
  refine ho_in (fun h => ?_) (s a o (fun h => n (hs a h)) e t)
  rcases hm a h with h | h
  · exact n h
  · obtain ⟨ps, z⟩ := h o e
    exact t ps z
structure T63 (CB CH : Addr) (H : Hp) (p P la E1 b b2 : Addr) (D : PlanD) (kn : Int) (oth : Option Addr) (fp f2 : List Addr) (ev evO es1 es2 : List Evt) (ts us : List Addr) : Prop where
  pot : Pot H p
  hP : H P = some (.dK (planK D kn la))
  e1 : H E1 = some (.lst (ts.map V.ref))
  e2 : ∀ E, oth = some E → H E = some (.lst (us.map V.ref))
  bk : Bk CB CH H b D.rk es1 fp
  bv : Bk CB CH H b2 D.rk es2 f2
  hI : PlanI (Ho (mm p P E1 oth fp f2) H) D
  la : LastOK (Ho (mm p P E1 oth fp f2) H) la D.rk
  h1 : Paired (EvT (Ho (mm p P E1 oth fp f2) H)) ts ev
  h2 : Paired (EvT (Ho (mm p P E1 oth fp f2) H)) us evO
  hG : PlanG D
  k0 : 0 ≤ kn
  Pf : P ∉ fp
  Pf2 : P ∉ f2
  dj : ∀ a ∈ f2, a ∉ fp
  nE : oth ≠ some E1
section
variable {CB CH : Addr} {H H' : Hp} {p P la E1 b b2 : Addr} {D : PlanD} {kn : Int} {oth : Option Addr} {fp f2 : List Addr} {ev evO es1 es2 : List Evt} {ts us : List Addr}
theorem T63.ex (h : T63 CB CH H p P la E1 b b2 D kn oth fp f2 ev evO es1 es2 ts us) : ∀ a ∈ mm p P E1 oth fp f2, ∃ o, H a = some o ∧ ∀ ps, o ≠ .tbl ps := fun a ha => by
  rcases mm_iff.mp ha with rfl | rfl | rfl | ho | hf | hf
  · obtain ⟨x, y, e, _⟩ := h.pot
    exact ⟨_, e, nofun⟩
  · exact ⟨_, h.hP, nofun⟩
  · exact ⟨_, h.e1, nofun⟩
  · exact ⟨_, h.e2 _ ho, nofun⟩
  · obtain ⟨o, e⟩ := h.bk.ex a hf
    exact ⟨o, e, (h.bk.pl a hf o e).1⟩
  · obtain ⟨o, e⟩ := h.bv.ex a hf
    exact ⟨o, e, (h.bv.pl a hf o e).1⟩
theorem T63.still {S M' : List Addr} (h : T63 CB CH H p P la E1 b b2 D kn oth fp f2 ev evO es1 es2 ts us) (s : SLN S H H') (hs : ∀ a ∈ S, a ∈ mm p P E1 oth fp f2) (hm : ∀ a ∈ M', a ∈ mm p P E1 oth fp f2 ∨ NewN H a) :
    PlanI (Ho M' H') D ∧ LastOK (Ho M' H') la D.rk ∧ Paired (EvT (Ho M' H')) ts ev ∧ Paired (EvT (Ho M' H')) us evO := by
  have k := fun {a : Addr} {o : HO} (e : Ho (mm p P E1 oth fp f2) H a = some o) (t : ∀ ps, o ≠ .tbl ps) => sln_step s hs hm e t
  refine ⟨⟨k h.hI.hn nofun, k h.hI.hr nofun, k h.hI.hl nofun⟩, ?_, paired_imp (fun _ x e => k (o := .tup [.str (kindS x.mv), .int x.kn, .str x.who, .int x.day, x.w]) e nofun) h.h1, paired_imp (fun _ x e => k (o := .tup [.str (kindS x.mv), .int x.kn, .str x.who, .int x.day, x.w]) e nofun) h.h2⟩
  obtain ⟨o, ho, hk⟩ := h.la
  refine ⟨o, ?_, hk⟩
  cases o with
  | none => exact k ho nofun
  | some e =>
    obtain ⟨t, a, b⟩ := ho
    exact ⟨t, k a nofun, k b nofun⟩
theorem pot_ne {H : Hp} {p E : Addr} {ts : List Addr} (h : Pot H p) (e : H E = some (.lst (ts.map V.ref))) : E ≠ p := fun z => by
  obtain ⟨x, y, e2, _⟩ := h
  rw [z, e2] at e
  cases ts with
  | nil => cases e
  | cons a r => cases e
theorem T63.nots (h : T63 CB CH H p P la E1 b b2 D kn oth fp f2 ev evO es1 es2 ts us) : p ∉ fp ∧ p ∉ f2 ∧ E1 ∉ fp ∧ E1 ∉ f2 ∧ P ≠ p ∧ P ≠ E1 ∧ E1 ≠ p ∧ (∀ E, oth = some E → E ∉ fp ∧ E ∉ f2 ∧ P ≠ E ∧ E ≠ p ∧ E ≠ E1) := by
  obtain ⟨x, y, e, _⟩ := id h.pot
  refine ⟨h.bk.nl e, h.bv.nl e, h.bk.nl h.e1, h.bv.nl h.e1, ne_of_pot h.pot h.hP, fun z => ?_, pot_ne h.pot h.e1, fun E hE => ⟨h.bk.nl (h.e2 E hE), h.bv.nl (h.e2 E hE), fun z => ?_, pot_ne h.pot (h.e2 E hE), fun z => h.nE (by rw [← z]; exact hE)⟩⟩
  · have := h.hP
    rw [z, h.e1] at this
    cases this
  · have := h.hP
    rw [z, h.e2 E hE] at this
    cases this
/-- what only makes new things -/
theorem T63.extN (h : T63 CB CH H p P la E1 b b2 D kn oth fp f2 ev evO es1 es2 ts us) (e : ExtN H H') : T63 CB CH H' p P la E1 b b2 D kn oth fp f2 ev evO es1 es2 ts us := by
  obtain ⟨i1, i2, i3, i4⟩ := h.still (S := []) (M' := mm p P E1 oth fp f2) (.ext e) nofun fun a ha => .inl ha
  have pot : Pot H' p := by
    obtain ⟨x, y, e', k⟩ := h.pot
    exact ⟨x, y, e _ _ e' nofun, k⟩
  exact ⟨pot, e _ _ h.hP nofun, e _ _ h.e1 nofun, fun E hE => e _ _ (h.e2 E hE) nofun, h.bk.extN e, h.bv.extN e, i1, i2, i3, i4, h.hG, h.k0, h.Pf, h.Pf2, h.dj, h.nE⟩
/-- an event, and what is drawn -/
theorem T63.event {kn' : Int} {la' : Addr} {o : Option Evt} (h : T63 CB CH H p P la E1 b b2 D kn oth fp f2 ev evO es1 es2 ts us) (s : SameL [p, P] H H') (hp : Pot H' p) (hP : H' P = some (.dK (planK D kn' la'))) (k0 : 0 ≤ kn')
    (hl : la' = la ∨ ∃ e, LastAt (new H H') la' (some e) ∧ EvOK D.rk e) : T63 CB CH H' p P la' E1 b b2 D kn' oth fp f2 ev evO es1 es2 ts us := by
  obtain ⟨n1, n2, n3, n4, n5, n6, n7, n8⟩ := h.nots
  have sub : ∀ a ∈ [p, P], a ∈ mm p P E1 oth fp f2 := fun a ha => mm_iff.mpr (by
    rcases List.mem_cons.mp ha with z | z
    · exact .inl z
    · exact .inr (.inl (List.mem_singleton.mp z)))
  obtain ⟨i1, i2, i3, i4⟩ := h.still (S := [p, P]) (M' := mm p P E1 oth fp f2) (.of s) sub fun a ha => .inl ha
  have nin : ∀ {a : Addr}, a ≠ p → P ≠ a → a ∉ [p, P] := fun {a} x y m => by
    rcases List.mem_cons.mp m with z | z
    · exact x z
    · exact y (List.mem_singleton.mp z).symm
  have nf : ∀ {f : List Addr}, p ∉ f → P ∉ f → ∀ c ∈ f, c ∉ [p, P] := fun {f} x y c hc m => by
    rcases List.mem_cons.mp m with z | z
    · exact x (by rw [← z]; exact hc)
    · exact y (by rw [← List.mem_singleton.mp z]; exact hc)
  refine ⟨hp, hP, s _ _ (nin n7 n6) h.e1, fun E hE => s _ _ (nin (n8 E hE).2.2.2.1 (n8 E hE).2.2.1) (h.e2 E hE), h.bk.monoL s (nf n1 h.Pf), h.bv.monoL s (nf n2 h.Pf2), i1, ?_, i3, i4, h.hG, k0, h.Pf, h.Pf2, h.dj, h.nE⟩
  rcases hl with rfl | ⟨e, ⟨t, a, b⟩, ok⟩
  · exact i2
  · have fr : ∀ {c : Addr} {o : HO}, new H H' c = some o → Ho (mm p P E1 oth fp f2) H' c = some o := fun {c o} q => by
      obtain ⟨q1, q2⟩ := new_iff.mp q
      refine ho_in (fun m => ?_) q2
      obtain ⟨o', ho, _⟩ := h.ex c m
      rw [q1] at ho
      cases ho
    exact ⟨some e, ⟨t, fr a, fr b⟩, fun e' he => by cases he; exact ok⟩
theorem T63.look (h : T63 CB CH H p P la E1 b b2 D kn oth fp f2 ev evO es1 es2 ts us) (hp : Pot H' p) (s : SameB p H H') : T63 CB CH H' p P la E1 b b2 D kn oth fp f2 ev evO es1 es2 ts us :=
  h.event (o := none) (SameL.ofB List.mem_cons_self s) hp (s _ _ h.nots.2.2.2.2.1 h.hP) h.k0 (.inl rfl)
/-- another twin, and another list of what it was told -/
theorem T63.again {b' : Addr} {oth' : Option Addr} {es' evO' : List Evt} {fp' us' : List Addr} (h : T63 CB CH H p P la E1 b b2 D kn oth fp f2 ev evO es1 es2 ts us) (x : ExtN H H') (bv : Bk CB CH H' b' D.rk es' fp') (nw : ∀ c ∈ fp', NewN H c)
    (ho : ∀ E, oth' = some E → NewN H E ∧ H' E = some (.lst (us'.map V.ref))) (hu : ∀ M', Paired (EvT (Ho M' H')) ts ev → Paired (EvT (Ho M' H')) us' evO') : T63 CB CH H' p P la E1 b b' D kn oth' fp fp' ev evO' es1 es' ts us' := by
  obtain ⟨n1, n2, n3, n4, n5, n6, n7, n8⟩ := h.nots
  have h' := h.extN x
  obtain ⟨i1, i2, i3, i4⟩ := h.still (S := []) (M' := mm p P E1 oth' fp fp') (.ext x) nofun fun a ha => by
    rcases mm_iff.mp ha with z | z | z | z | z | z
    · exact .inl (mm_iff.mpr (.inl z))
    · exact .inl (mm_iff.mpr (.inr (.inl z)))
    · exact .inl (mm_iff.mpr (.inr (.inr (.inl z))))
    · exact .inr (ho a z).1
    · exact .inl (mm_iff.mpr (.inr (.inr (.inr (.inr (.inl z))))))
    · exact .inr (nw a z)
  have no : ∀ {a : Addr} {o : HO}, H a = some o → (∀ ps, o ≠ .tbl ps) → NewN H a → False := fun {a o} e t n => by
    obtain ⟨ps, z⟩ := n o e
    exact t ps z
  exact ⟨h'.pot, h'.hP, h'.e1, fun E hE => (ho E hE).2, h'.bk, bv, i1, i2, i3, hu _ i3, h.hG, h.k0, h.Pf, fun m => no h.hP nofun (nw _ m), fun a ha m => by
    obtain ⟨o, e⟩ := h.bk.ex a m
    exact no e (h.bk.pl a m o e).1 (nw a ha), fun e => no h.e1 nofun (ho _ e).1⟩
end
end LT
set_option Elab.async false
set_option linter.all false
set_option maxRecDepth 100000
set_option maxHeartbeats 1600000
/-! Own layer: two books with their dicts of entries. -/
namespace LT
open PySem PySem.Spec PyProof.Rows L2 NdefX LamX
structure S91 (CB CH : Addr) (T : List (Addr × Str)) (H0 : Hp) (p PT B : Addr) (a : PrA) (d : Pl9) (b : Bool → Addr) (m : Nat) (rk : Bool → List (Str × Int)) (t : Bool → List (EvK × V)) (es : Bool → List Evt) (fp : Bool → List Addr) (H : Hp) : Prop where
  pot : Pot H p
  pl : PlT H PT d
  pr : PrT H a rk t
  hB : H B = some (.lst [.ref (b false), .ref (b true)])
  bk : ∀ i, Bk CB CH H (b i) (rk i) (es i) (fp i)
  rel : ∀ i, RelT (t i) (es i)
  ok : ∀ i, ∀ q ∈ t i, EvOK (rk i) (evOfK q)
  lt : ∀ i, (t i).length ≤ m
  le : ∀ i, (es i).length ≤ m
  kk : ∀ i, ∀ e ∈ es i, e.kn ≤ d.base + 9
  df : ∀ c ∈ fp false, c ∉ fp true
  nr : ∀ i j, a.r i ∉ fp j
  tab : Tabs T H
  x0 : ExtN H0 H
  nwp : NewN H0 p
  nwe : ∀ i, NewN H0 (a.e i)
  nwf : ∀ i, ∀ c ∈ fp i, NewN H0 c
section
variable {CB CH : Addr} {T : List (Addr × Str)} {H0 H H' : Hp} {p PT B : Addr} {a : PrA} {d : Pl9} {b : Bool → Addr} {m : Nat} {rk : Bool → List (Str × Int)} {t : Bool → List (EvK × V)} {es : Bool → List Evt} {fp : Bool → List Addr}
theorem S91.ext (S : S91 CB CH T H0 p PT B a d b m rk t es fp H) (x : ExtN H H') (tb : Tabs T H') : S91 CB CH T H0 p PT B a d b m rk t es fp H' :=
  ⟨pot_extN S.pot x, S.pl.extN x, S.pr.extN x, x _ _ S.hB nofun, fun i => (S.bk i).extN x, S.rel, S.ok, S.lt, S.le, S.kk, S.df, S.nr, tb, S.x0.trans x, S.nwp, S.nwe, S.nwf⟩
theorem S91.pf (S : S91 CB CH T H0 p PT B a d b m rk t es fp H) (i : Bool) : p ∉ fp i := by
  obtain ⟨x, y, e, _⟩ := S.pot
  exact (S.bk i).nl e
theorem S91.look (S : S91 CB CH T H0 p PT B a d b m rk t es fp H) (hp : Pot H' p) (s : SameB p H H') : S91 CB CH T H0 p PT B a d b m rk t es fp H' :=
  ⟨hp, S.pl.look S.pot s, S.pr.look S.pot s, s _ _ (ne_of_pot S.pot S.hB two_no_pot) S.hB, fun i => (S.bk i).by fun c hc o e => s c o (fun z => S.pf i (by rw [← z]; exact hc)) e, S.rel, S.ok, S.lt, S.le, S.kk, S.df, S.nr, tabs_pot S.tab S.pot s,
    extN_L (fp := [p]) S.x0 (fun c hc => by rw [List.mem_singleton.mp hc]; exact S.nwp) (SameL.ofB List.mem_cons_self s), S.nwp, S.nwe, S.nwf⟩
theorem S91.kb (S : S91 CB CH T H0 p PT B a d b m rk t es fp H) (g : PlG d) : ∀ i, ∀ e ∈ es i, e.kn < 10 ^ 55 := fun i e he => by
  have h1 := S.kk i e he
  have h2 := g.b1
  omega
theorem disj_ne {f : Bool → List Addr} (h : ∀ c ∈ f false, c ∉ f true) {i j : Bool} (n : j ≠ i) : ∀ c ∈ f j, c ∉ f i := by
  cases i <;> cases j
  · exact absurd rfl n
  · exact fun c hc k => h c k hc
  · exact h
  · exact absurd rfl n
theorem Bk.ndT {H : Hp} {b : Addr} {rk : List (Str × Int)} {es : List Evt} {fp : List Addr} (k : Bk CB CH H b rk es fp) {x : Addr} {ts : List (List Key × V)} (e : H x = some (.dT ts)) : x ∉ fp := fun h => by
  rcases k.own x h _ e with ⟨_, _, _, z⟩ | ⟨_, z⟩ <;> cases z
/-- a mark put into a dict of entries -/
theorem S91.put (S : S91 CB CH T H0 p PT B a d b m rk t es fp H) (i : Bool) (v : List (EvK × V)) :
    Pot (L2.upd H (a.e i) (.dT (enT v))) p ∧ PlT (L2.upd H (a.e i) (.dT (enT v))) PT d ∧ PrT (L2.upd H (a.e i) (.dT (enT v))) a rk (setB t i v) ∧ L2.upd H (a.e i) (.dT (enT v)) B = some (.lst [.ref (b false), .ref (b true)]) ∧ (∀ j, Bk CB CH (L2.upd H (a.e i) (.dT (enT v))) (b j) (rk j) (es j) (fp j)) ∧
    Tabs T (L2.upd H (a.e i) (.dT (enT v))) ∧ ExtN H0 (L2.upd H (a.e i) (.dT (enT v))) := by
  have e := S.pr.e.hr i
  have ne : ∀ {x : Addr} {o : HO}, H x = some o → (∀ q, o ≠ .dT q) → x ≠ a.e i := fun hx n q => by
    rw [q, e] at hx
    exact n _ (Option.some.inj hx).symm
  refine ⟨S.pot.upd (fun q => ?_), ⟨by rw [upd_ne (ne S.pl.t nofun)]; exact S.pl.t, by rw [upd_ne (ne S.pl.l nofun)]; exact S.pl.l⟩, S.pr.put i v, by rw [upd_ne (ne S.hB nofun)]; exact S.hB, fun j => (S.bk j).by fun c hc o h => ?_, ?_, ?_⟩
  · obtain ⟨x, y, k, _⟩ := S.pot
    rw [← q, e] at k
    cases k
  · rw [upd_ne (fun q => (S.bk j).ndT e (by rw [← q]; exact hc))]
    exact h
  · exact tabs_L (fp := [a.e i]) S.tab (fun c hc o h => by
      rw [List.mem_singleton.mp hc, e] at h
      cases h
      exact ⟨nofun, fun c q z => by unfold CodeO at z; cases z⟩) (SameL.upd List.mem_cons_self (.of (Same.refl _)))
  · exact LT.ExtN.over S.x0 (S.nwe i)
/-- and told to its book -/
theorem S91.told (S : S91 CB CH T H0 p PT B a d b m rk t es fp H) (i : Bool) {e : Evt} (ok : EvOK (rk i) e) (kl : e.kn ≤ d.base + 9) {fp' : List Addr} {H2 : Hp} (W : Bk CB CH H2 (b i) (rk i) (es i ++ [e]) fp') (fr : ∀ c ∈ fp', c ∈ fp i ∨ L2.upd H (a.e i) (.dT (enT (putA (t i) (evK e) e.w))) c = none) (s : SameL (fp i) (L2.upd H (a.e i) (.dT (enT (putA (t i) (evK e) e.w)))) H2) :
    S91 CB CH T H0 p PT B a d b (m + 1) rk (setB t i (putA (t i) (evK e) e.w)) (setB es i (es i ++ [e])) (setB fp i fp') H2 := by
  obtain ⟨q1, q2, q3, q4, q5, q6, q7⟩ := S.put i (putA (t i) (evK e) e.w)
  generalize L2.upd H (a.e i) (.dT (enT (putA (t i) (evK e) e.w))) = H1 at *
  have nl : ∀ {x : Addr} {o : HO}, H1 x = some o → (¬ ∃ C dx fs, o = HO.ins C dx fs) → (¬ ∃ r, o = HO.dK r) → x ∉ fp i := fun h n1 n2 hm => by
    rcases (q5 i).own _ hm _ h with ⟨C, dx, fs, z⟩ | ⟨r, z⟩
    · exact n1 ⟨C, dx, fs, z⟩
    · exact n2 ⟨r, z⟩
  have up : ∀ {x : Addr} {o : HO}, H1 x = some o → x ∉ fp i → H2 x = some o := fun h n => s _ _ n h
  have ff : ∀ j c, c ∈ setB fp i fp' j → c ∈ fp j ∨ (j = i ∧ H1 c = none) := fun j c hc => by
    by_cases e : j = i
    · subst e
      rw [setB_same] at hc
      rcases fr c hc with h | h
      · exact .inl h
      · exact .inr ⟨rfl, h⟩
    · rw [setB_ne _ _ e] at hc
      exact .inl hc
  have there : ∀ {j : Bool} {c : Addr}, c ∈ fp j → H1 c ≠ none := fun hc n => by
    obtain ⟨o, ho⟩ := (q5 _).ex _ hc
    rw [n] at ho
    cases ho
  refine ⟨?_, ⟨up q2.t (nl q2.t nofun nofun), up q2.l (nl q2.l nofun nofun)⟩, ⟨⟨up q3.k.hR (nl q3.k.hR nofun nofun), fun j => up (q3.k.hr j) (S.nr j i), q3.k.nl, q3.k.ne⟩, ⟨up q3.e.hR (nl q3.e.hR nofun nofun), fun j => up (q3.e.hr j) ((q5 i).ndT (q3.e.hr j)), q3.e.nl, q3.e.ne⟩⟩, up q4 (nl q4 nofun nofun), fun j => ?_, fun j => ?_, fun j x hx => ?_, fun j => ?_, fun j => ?_, fun j x hx => ?_, ?_, fun j k hm => ?_, tabs_L q6 (q5 i).pl s, extN_L q7 (S.nwf i) s, S.nwp, S.nwe, fun j c hc => ?_⟩
  · obtain ⟨x, y, h, k⟩ := q1
    exact ⟨x, y, up h (nl h nofun nofun), k⟩
  · by_cases e : j = i
    · subst e
      rw [setB_same, setB_same]
      exact W
    · rw [setB_ne _ _ e, setB_ne _ _ e]
      exact (q5 j).monoL s (disj_ne S.df e)
  · by_cases e : j = i
    · subst e
      rw [setB_same, setB_same]
      exact (S.rel j).put _
    · rw [setB_ne _ _ e, setB_ne _ _ e]
      exact S.rel j
  · by_cases e : j = i
    · subst e
      rw [setB_same] at hx
      rcases mem_put hx with rfl | hx
      · exact ok
      · exact S.ok j x hx
    · rw [setB_ne _ _ e] at hx
      exact S.ok j x hx
  · by_cases he : j = i
    · subst he
      rw [setB_same]
      have h1 := putA_len (kvs := t j) (k := evK e) (v := e.w)
      have h2 := S.lt j
      omega
    · rw [setB_ne _ _ he]
      exact Nat.le_succ_of_le (S.lt j)
  · by_cases he : j = i
    · subst he
      rw [setB_same, List.length_append]
      exact Nat.succ_le_succ (S.le j)
    · rw [setB_ne _ _ he]
      exact Nat.le_succ_of_le (S.le j)
  · by_cases he : j = i
    · subst he
      rw [setB_same] at hx
      rcases List.mem_append.mp hx with hx | hx
      · exact S.kk j x hx
      · rw [List.mem_singleton.mp hx]
        exact kl
    · rw [setB_ne _ _ he] at hx
      exact S.kk j x hx
  · intro c hc hc'
    rcases ff false c hc with h1 | ⟨_, h1⟩ <;> rcases ff true c hc' with h2 | ⟨_, h2⟩
    · exact S.df c h1 h2
    · exact there h1 h2
    · exact there h2 h1
    · rename_i z1 z2
      rw [← z1] at z2
      cases z2
  · rcases ff k _ hm with h | ⟨_, h⟩
    · exact S.nr j k h
    · rw [q3.k.hr j] at h
      cases h
  · rcases ff j c hc with h | ⟨_, h⟩
    · exact S.nwf j c h
    · exact newN_of q7 h
end
theorem nm_ann : Nm (Str.ofString "ann") := ⟨by decide +kernel, by decide +kernel, fun c hc => by
  rw [show (Str.ofString "ann").cps.toList = [97, 110, 110] by decide +kernel] at hc
  simp only [List.mem_cons, List.not_mem_nil, or_false] at hc
  rcases hc with rfl | rfl | rfl <;> decide⟩
theorem rk_one {z : Str} {n : Int} (h : Nm z) (n1 : 1 ≤ n) (n9 : n ≤ 9) : Rk [(z, n)] := ⟨List.nodup_cons.mpr ⟨nofun, List.nodup_nil⟩, fun p hp => by rw [List.mem_singleton.mp hp]; exact h, fun p hp => by rw [List.mem_singleton.mp hp]; exact ⟨n1, n9⟩, by show 1 ≤ 30; decide⟩
theorem clash_ann : clashW [(Str.ofString "ann", 1)] [(Str.ofString "ann", 2)] [] [] = [keyN (Str.ofString "ann")] := by
  have e1 : unlikeK [(Str.ofString "ann", 1)] [(Str.ofString "ann", 2)] = [keyN (Str.ofString "ann")] := rfl
  have e2 : unlikeE [] [] = [] := List.eq_nil_iff_forall_not_mem.mpr fun x hx => by
    obtain ⟨k, w, w', _, h, _⟩ := unlikeE_mem.mp hx
    cases h
  unfold clashW
  rw [e1, e2, List.append_nil]
  exact List.mergeSort_singleton _
end LT
set_option Elab.async false
set_option linter.all false
set_option maxRecDepth 100000
set_option maxHeartbeats 1600000
set_option pp.maxSteps 300
namespace K91
open PySem PySem.Spec PyProof.Rows L2 LT NdefX LamX
section
variable {P : Program} {w : World} {K : PySem.W.Frag} {mg : Str → Option Value} {base : Heap}
def spLaw (K : PySem.W.Frag) (TL : List (Addr × Str)) : Sp := fun vs H Q _ => ∃ (a : Addr) (ns : List Int), vs = [.ref a] ∧ SqL K H a (ns.map V.int) ∧ ns.length ≤ 63 ∧ Tabs TL H ∧ ∀ H', Q (.bl true) H'
theorem sc_law : FnScope ["_law_script", "_law_k", "_law_pot_here", "_law_plan_here", "_law_ranks", "_law_entries", "_law_books", "_law_mark", "_law_which"] ["_law_script"] (defScope s_law) := ⟨rfl, rfl, rfl, by decide +kernel, rfl, by decide +kernel, by decide +kernel⟩
theorem ok_law (D : All K P mg) (TB : TBs D base) {f : Addr} {fd : FuncData} (F : Fun K "law" "law" s_law f fd) : FnG P w K mg base CX0 15 f fd ["_law_script"] (spLaw K (TLs D)) := by
  refine okG F sc_law (fun h => ?_) (fun cdv A outer s H vs Q E hG hr h => ?_)
  · first | (obtain ⟨_, rfl, _⟩ := h; rfl) | (obtain ⟨_, _, rfl, _⟩ := h; rfl) | (obtain ⟨_, _, _, rfl, _⟩ := h; rfl) | (obtain ⟨_, _, _, _, rfl, _⟩ := h; rfl) | (obtain ⟨_, _, _, _, _, rfl, _⟩ := h; rfl) | (obtain ⟨_, _, _, _, _, _, rfl, _⟩ := h; rfl) | (obtain ⟨_, _, _, _, _, _, _, rfl, _⟩ := h; rfl) | (obtain ⟨_, _, _, _, _, _, _, _, rfl, _⟩ := h; rfl) | (obtain ⟨_, _, _, _, _, _, _, _, _, rfl, _⟩ := h; rfl) | (obtain ⟨_, _, _, _, _, _, _, _, _, _, rfl, _⟩ := h; rfl) | (obtain ⟨_, _, _, _, _, _, _, _, _, _, _, rfl, _⟩ := h; rfl) | (obtain ⟨_, _, _, _, _, _, _, _, _, _, _, _, rfl, _⟩ := h; rfl) | (obtain ⟨_, _, _, _, _, _, _, _, _, _, _, _, _, rfl, _⟩ := h; rfl) | (obtain ⟨_, _, _, _, _, _, _, _, _, _, _, _, _, _, rfl, _⟩ := h; rfl) | (obtain ⟨_, _, _, _, _, _, _, _, _, _, _, _, _, _, _, rfl, _⟩ := h; rfl)
  · have T := D.T
    have nd := sc_law.nd
    have hu := hr.units
    have hu1 := hu_of hr
    have hu0 := hr.units0
    have hG2 : (cxOf CX0 P w K mg base ["_law_script", "_law_k", "_law_pot_here", "_law_plan_here", "_law_ranks", "_law_entries", "_law_books", "_law_mark", "_law_which"] "law" (defScope s_law) f cdv A outer s H E).nox.A.guards = some [] := hG
    obtain ⟨sc, ss, rfl, hS, hl, tab, q⟩ := h
    refine ⟨_, pss_cons (ps_for PassesOwn.never rfl (pi_range1 (by rfl) T.range (pa_cons (pe_callB (call_max2 rfl) (by rfl) T.max (by decide +kernel) (pa_cons pe_int (pa_cons (pe_callB (call_min2 rfl) (by rfl) T.min (by decide +kernel) (pa_cons (pe_callB call_len_seq (by rfl) T.len PySem.boot_len (pa_cons (pv 0) pa_nil)) (pa_cons pe_int pa_nil))) pa_nil))) pa_nil)) (pg_name (i := 1) nd rfl (Or.inl rfl)) (pss_cons (ps_set (i := 2) nd rfl (.inl rfl) (pe_call (ok__law_pot D) (hr.mono (by decide)) (by rfl) D.h__law_pot.gl D.h__law_pot.fn.kp D.h__law_pot.bd .nil pass0 (pa_cons (pv 0) (pa_cons (pv 1) pa_nil))))
      (pss_cons (ps_set (i := 3) nd rfl (.inl rfl) (pe_call (ok__law_plan D) (hr.mono (by decide)) (by rfl) D.h__law_plan.gl D.h__law_plan.fn.kp D.h__law_plan.bd .nil pass0 (pa_cons (pv 2) pa_nil)))
      (pss_cons (ps_asg (pe_call (ok__law_pair D) (hr.mono (by decide)) (by rfl) D.h__law_pair.gl D.h__law_pair.fn.kp D.h__law_pair.bd .nil pass0 (pa_cons (pv 2) (pa_cons (pv 3) pa_nil))) (pg_tup rfl (pgs_cons (pg_name (i := 4) nd rfl (Or.inl rfl)) (pgs_cons (pg_name (i := 5) nd rfl (Or.inl rfl)) pgs_nil))))
      (pss_cons (ps_set (i := 6) nd rfl (.inl rfl) (pe_lst (pa_cons (pe_call (ok__law_book D TB) (hr.mono (by decide)) (by rfl) D.gl__law_book D.L__law_book.kp D.lb__law_book .nil pass0 (pa_cons (pe_ix ix_list (pv 4) pe_int (fun _ _ => rfl)) (pa_cons (pe_ix ix_list (pv 5) pe_int (fun _ _ => rfl)) pa_nil))) (pa_cons (pe_call (ok__law_book D TB) (hr.mono (by decide)) (by rfl) D.gl__law_book D.L__law_book.kp D.lb__law_book .nil pass0 (pa_cons (pe_ix ix_list (pv 4) pe_int (fun _ _ => rfl)) (pa_cons (pe_ix ix_list (pv 5) pe_int (fun _ _ => rfl)) pa_nil))) pa_nil))))
      (pss_cons (ps_if (PW.pt (pw_or (pt_not (pt_val (pe_callG (ok__law_right D TB) hG2 (hr.mono (by decide)) (by rfl) D.h__law_right.gl D.h__law_right.fn.kp D.h__law_right.bd .nil pass0 (pa_cons (pe_ix ix_list (pv 6) pe_int (fun _ _ => rfl)) (pa_cons (pe_ix ix_list (pv 6) pe_int (fun _ _ => rfl)) (pa_cons (pe_callG (ok__law_due D) hG2 (hr.mono (by decide)) (by rfl) D.h__law_due.gl D.h__law_due.fn.kp D.h__law_due.bd .nil pass0 (pa_cons (pv 4) (pa_cons (pv 5) pa_nil))) pa_nil)))))) (pw_or1 (pt_not (pt_val (pe_callG (ok__law_stay D TB) hG2 (hr.mono (by decide)) (by rfl) D.h__law_stay.gl D.h__law_stay.fn.kp D.h__law_stay.bd .nil pass0 (pa_cons (pv 6) (pa_cons (pv 4) (pa_cons (pv 5) pa_nil))))))))) (pss_one (ps_ret pe_bl)) pss_nil)
      (pss_cons (ps_set (i := 7) nd rfl (.inl rfl) (pe_tup (pa_cons pe_str (pa_cons (pe_op op_add (pe_ix ix_tup (pv 3) pe_int (fun _ _ => rfl)) pe_int) (pa_cons (pe_ix ix_list (pe_ix ix_tup (pv 3) pe_int (fun _ _ => rfl)) pe_int (fun _ _ => rfl)) (pa_cons pe_int pa_nil))))))
      (pss_cons (ps_for PassesOwn.never rfl (pi_range1 (by rfl) T.range (pa_cons pe_int pa_nil)) (pg_name (i := 8) nd rfl (Or.inl rfl)) (pss_cons (ps_dput hu1 (pe_ix ix_list (pv 5) (pv 8) (fun _ _ => rfl)) (pv 7) (pe_op op_add pe_int (pe_call (ok__law_take D) (hr.mono (by decide)) (by rfl) D.h__law_take.gl D.h__law_take.fn.kp D.h__law_take.bd .nil pass0 (pa_cons (pv 2) (pa_cons pe_int pa_nil)))) rfl)
      (pss_cons (ps_expr (pe_meth (pe_ix ix_list (pv 6) (pv 8) (fun _ _ => rfl)) D.Z_Book.cl D.h_Book_land.me (ok_Book_land D) (hr.mono (by decide)) D.h_Book_land.bd .nil pass0 (pa_cons (pe_ix ix_tup (pv 7) pe_int (fun _ _ => rfl)) (pa_cons (pe_ix ix_tup (pv 7) pe_int (fun _ _ => rfl)) (pa_cons (pe_ix ix_tup (pv 7) pe_int (fun _ _ => rfl)) (pa_cons (pe_dget hu1 (pe_ix ix_list (pv 5) (pv 8) (fun _ _ => rfl)) (pv 7) (fun _ _ => rfl)) pa_nil))))))
      (pss_one (ps_if (PW.pt (pw_or (pt_not (pt_val (pe_callG (ok__law_right D TB) hG2 (hr.mono (by decide)) (by rfl) D.h__law_right.gl D.h__law_right.fn.kp D.h__law_right.bd .nil pass0 (pa_cons (pe_ix ix_list (pv 6) pe_int (fun _ _ => rfl)) (pa_cons (pe_ix ix_list (pv 6) pe_int (fun _ _ => rfl)) (pa_cons (pe_callG (ok__law_due D) hG2 (hr.mono (by decide)) (by rfl) D.h__law_due.gl D.h__law_due.fn.kp D.h__law_due.bd .nil pass0 (pa_cons (pv 4) (pa_cons (pv 5) pa_nil))) pa_nil)))))) (pw_or1 (pt_not (pt_val (pe_callG (ok__law_stay D TB) hG2 (hr.mono (by decide)) (by rfl) D.h__law_stay.gl D.h__law_stay.fn.kp D.h__law_stay.bd .nil pass0 (pa_cons (pv 6) (pa_cons (pv 4) (pa_cons (pv 5) pa_nil))))))))) (pss_one (ps_ret pe_bl)) pss_nil)))))
      (pss_one (ps_if (PW.pt (pw_or (pt_cmpR (op_neNil hu) (pe_call (ok_clashes D TB) (hr.mono (by decide)) (by rfl) D.h_clashes.gl D.h_clashes.fn.kp D.h_clashes.bd .nil pass0 (pa_cons (pe_ix ix_list (pv 6) pe_int (fun _ _ => rfl)) (pa_cons (pe_ix ix_list (pv 6) pe_int (fun _ _ => rfl)) pa_nil))) (pe_lst pa_nil) (nomark _)) (pw_or1 (pt_cmpR (op_neNil hu) (pe_call (ok_clashes D TB) (hr.mono (by decide)) (by rfl) D.h_clashes.gl D.h_clashes.fn.kp D.h_clashes.bd .nil pass0 (pa_cons (pe_ix ix_list (pv 6) pe_int (fun _ _ => rfl)) (pa_cons (pe_meth0 (pe_ix ix_list (pv 6) pe_int (fun _ _ => rfl)) D.Z_Book.cl D.h_Book_twin.me (ok_Book_twin D TB) (hr.mono (by decide)) D.h_Book_twin.bd .nil pass0) pa_nil))) (pe_lst pa_nil) (nomark _))))) (pss_one (ps_ret pe_bl)) pss_nil))))))))))
      (pss_one (ps_ret (pe_cmpR (op_eqD hr.units) (pe_call (ok_clashes D TB) (hr.mono (by decide)) (by rfl) D.h_clashes.gl D.h_clashes.fn.kp D.h_clashes.bd .nil pass0 (pa_cons (pe_make D.M_Book (ok_Book___init__ D) (hr.mono (by decide)) (by rfl) D.Z_Book.gl D.h_Book___init__.bd .nil pass0 (pa_cons (pe_disp (pps_cons pe_str pe_int pps_nil) rfl rfl (by decide) (by decide)) pa_nil)) (pa_cons (pe_make D.M_Book (ok_Book___init__ D) (hr.mono (by decide)) (by rfl) D.Z_Book.gl D.h_Book___init__.bd .nil pass0 (pa_cons (pe_disp (pps_cons pe_str pe_int pps_nil) rfl rfl (by decide) (by decide)) pa_nil)) pa_nil))) (pe_lst (pa_cons (pe_tup (pa_cons pe_str (pa_cons pe_str pa_nil))) pa_nil)) (nomark _)))), ?_⟩
    refine ⟨_, rfl, sc, _, rfl, .inl hS, _, _, rfl, _, _, rfl, ?_⟩
    generalize hN : (if (if (6 : Int) < (((ss.map V.int).length : Nat) : Int) then (6 : Int) else (((ss.map V.int).length : Nat) : Int)) > 1 then (if (6 : Int) < (((ss.map V.int).length : Nat) : Int) then (6 : Int) else (((ss.map V.int).length : Nat) : Int)) else 1) = N
    have hN6 : 1 ≤ N ∧ N ≤ 6 := by
      rw [← hN]
      split <;> (try split) <;> omega
    refine ⟨N, rfl, by omega, by omega, for_range (lo := 0) (n := N.toNat) (fun i σ H' => (∃ x1 x2 x3 x4 x5 x6 x7 x8, σ = [some (.ref sc), x1, x2, x3, x4, x5, x6, x7, x8]) ∧ ExtN H H' ∧ Tabs (TLs D) H')
      ⟨⟨none, none, none, none, none, none, none, none, rfl⟩, ExtN.of (Same.refl _), tab⟩ ?_ ?_⟩
    · rintro i σ H0 hi ⟨⟨x1, x2, x3, x4, x5, x6, x7, x8, rfl⟩, sm0, tab0⟩
      refine ⟨_, rfl, _, rfl, sc, ss, i, (by rw [Int.zero_add]; rfl), extN_seqL sm0 hS, by omega, fun p H1 np s1 hp1 => ?_⟩
      refine ⟨_, rfl, p, rfl, hp1, fun PT d H2 nPT nL hG hT2 hp2 s2 => ?_⟩
      refine ⟨_, rfl, _, rfl, p, PT, d, rfl, hp2, hT2, hG, fun W a rk t H3 G3 eW P3 ⟨nR, nE, nr, ne⟩ hp3 s3 => ?_⟩
      have s02 : Same H0 H2 := fun b o e => ((SameB.of s1).trans s2) b o (ne_of_none e np) e
      have s03 : Same H0 H3 := fun b o e => s3 b o (ne_of_none e np) (s02 b o e)
      have hT3 := hT2.look hp2 s3
      have n0 : ∀ {x : Addr}, H2 x = none → H0 x = none := fun h => s02.free h
      have tab3 := tab0.ext s03
      refine ⟨W, _, rfl, SqT.of eW, rfl, _, _, rfl, _, _, rfl, rfl, ?_⟩
      obtain ⟨R, E1, r, e⟩ := a
      have hR3 : H3 R = some (.lst [.ref (r false), .ref (r true)]) := P3.k.hR
      have hE3 : H3 E1 = some (.lst [.ref (e false), .ref (e true)]) := P3.e.hR
      have two_at : ∀ {x y : Addr}, atI [V.ref x, .ref y] 0 = some (.ref x) ∧ atI [V.ref x, .ref y] 1 = some (.ref y) := ⟨atI_nat (j := 0) rfl, atI_nat (j := 1) rfl⟩
      have l60 : ∀ i, (t i).length ≤ 60 := fun i => Nat.le_trans (G3.ln i) (by decide)
      refine ⟨_, rfl, R, _, 0, _, rfl, rfl, SqL.of hR3, two_at.1, _, rfl, E1, _, 0, _, rfl, rfl, SqL.of hE3, two_at.1, r false, e false, rk false, t false, rfl, P3.k.hr false, G3.kr false, P3.e.hr false, G3.nd false, l60 false, G3.ok false, tab3, fun b0 es0 fp0 H4 W4 pm0 n4 x4 T4 => ?_⟩
      have P4 := P3.extN x4
      refine ⟨_, rfl, R, _, 1, _, rfl, rfl, SqL.of (x4 _ _ hR3 nofun), two_at.2, _, rfl, E1, _, 1, _, rfl, rfl, SqL.of (x4 _ _ hE3 nofun), two_at.2, r true, e true, rk true, t true, rfl, P4.k.hr true, G3.kr true, P4.e.hr true, G3.nd true, l60 true, G3.ok true, T4, fun b1 es1 fp1 H5 W5 pm1 n5 x5 T5 => ?_⟩
      refine ⟨by show 2 ≤ sizeLine; decide, fun B nB => ?_⟩
      have sB := same_upd (o := .lst [V.ref b0, .ref b1]) nB
      have eB := upd_same (H := H5) (a := B) (o := .lst [V.ref b0, .ref b1])
      have x56 : ExtN H5 (L2.upd H5 B (.lst [V.ref b0, .ref b1])) := ExtN.of sB
      have T6 := T5.ext sB
      generalize L2.upd H5 B (.lst [V.ref b0, .ref b1]) = H6 at *
      have x46 := x5.trans x56
      have x36 := x4.trans x46
      have x06 : ExtN H0 H6 := (ExtN.of s03).trans x36
      obtain ⟨b, bf, bt⟩ : ∃ b : Bool → Addr, b false = b0 ∧ b true = b1 := ⟨fun i => cond i b1 b0, rfl, rfl⟩
      obtain ⟨es, ef, et⟩ : ∃ b : Bool → List Evt, b false = es0 ∧ b true = es1 := ⟨fun i => cond i es1 es0, rfl, rfl⟩
      obtain ⟨fp, ff, ft⟩ : ∃ b : Bool → List Addr, b false = fp0 ∧ b true = fp1 := ⟨fun i => cond i fp1 fp0, rfl, rfl⟩
      subst bf bt ef et ff ft
      have pmi : ∀ i, (es i).Perm ((t i).map evOfK) := fun i => by cases i <;> assumption
      have le31 : ∀ i, (es i).length ≤ 31 := fun i => by rw [(pmi i).length_eq, List.length_map]; exact G3.ln i
      have hp6 : Pot H6 p := pot_extN hp3 x36
      have nw3 : ∀ i, ∀ c ∈ fp i, NewN H3 c := fun i c hc => by
        cases i
        · exact n4 c hc
        · exact (n5 c hc).back x4
      have S6 : S91 D.C_Book D.C_History (TLs D) H0 p PT B ⟨R, E1, r, e⟩ d b 31 rk t es fp H6 := by
        refine ⟨hp6, hT3.extN x36, P3.extN x36, eB, fun i => ?_, fun i => relT_made (G3.nd i) (pmi i), G3.ok, G3.ln, le31, fun i x hx => ?_, fun c hc hc' => ?_, fun i j hm => ?_, T6, x06, newN_none np, fun i => newN_none (n0 (ne i)), fun i c hc => (nw3 i c hc).back (ExtN.of s03)⟩
        · cases i
          · exact W4.extN x46
          · exact W5.extN x56
        · obtain ⟨y, hy, rfl⟩ := List.mem_map.mp ((pmi i).mem_iff.mp hx)
          have := G3.kb i y hy
          show y.1.2.1 ≤ d.base + 9
          omega
        · obtain ⟨o, ho⟩ := W4.ex c hc
          obtain ⟨ps, z⟩ := n5 c hc' o ho
          exact (W4.pl c hc o ho).1 ps z
        · obtain ⟨ps, z⟩ := nw3 j _ hm _ (P3.k.hr i)
          cases z
      refine ⟨_, rfl, B, _, 0, _, rfl, rfl, SqL.of S6.hB, two_at.1, _, rfl, B, _, 1, _, rfl, rfl, SqL.of S6.hB, two_at.2, _, rfl, _, rfl, ⟨R, E1, r, e⟩, d, 0, rk, t, rfl, S6.pr, G3.kr, fun i => (S6.rel i).nd, fun i => Nat.le_trans (S6.lt i) (by omega), S6.ok, fun F ts H11 s11 nF eF hts => ?_⟩
      rw [due_clash (S6.rel false) (S6.rel true)] at hts
      have S11 := S6.ext (ExtN.of s11) (S6.tab.ext s11)
      have k11 := S11.kb hG
      have le11 : ∀ i, (es i).length ≤ 60 := fun i => Nat.le_trans (S11.le i) (by omega)
      have lt11 : ∀ i, (t i).length ≤ 60 := fun i => Nat.le_trans (S11.lt i) (by omega)
      refine ⟨b false, b true, F, rk false, rk true, _, _, _, _, ts, rfl, S11.bk false, S11.bk true, le11 false, le11 true, fun x hx => Int.lt_trans (k11 false x hx) (by decide), fun x hx => Int.lt_trans (k11 true x hx) (by decide), eF, hts, S11.tab, fun H12 x12 T12 => ⟨_, rfl, iteF ?_⟩⟩
      have S12 := S11.ext x12 T12
      refine ⟨_, rfl, _, rfl, _, rfl, B, b, ⟨R, E1, r, e⟩, rk, t, es, fp, rfl, S12.hB, S12.pr, S12.bk, S12.rel, le11, lt11, k11, S12.tab, fun H13 x13 T13 => ⟨_, rfl, iteF ?_⟩⟩
      have S7 := S12.ext x13 T13
      clear S11 S12
      have l0 := hG.l0
      obtain ⟨lz, hlz⟩ : ∃ z, d.ls[0]? = some z := ⟨_, List.getElem?_eq_getElem l0⟩
      have hlm := hG.ls.nm lz (List.mem_of_getElem? hlz)
      have hat : atI (d.ls.map V.str) 0 = some (.str lz) := atI_nat (j := 0) (by rw [List.getElem?_map, hlz]; rfl)
      have p0 : atI [V.ref d.L, .int d.far, .int d.base] 0 = some (.ref d.L) := atI_nat (j := 0) rfl
      have p2 : atI [V.ref d.L, .int d.far, .int d.base] 2 = some (.int d.base) := atI_nat (j := 2) rfl
      refine ⟨_, rfl, PT, _, 2, _, rfl, rfl, SqT.of S7.pl.t, p2, _, _, rfl, rfl, _, rfl, PT, _, 0, _, rfl, rfl, SqT.of S7.pl.t, p0, d.L, _, 0, .str lz, rfl, rfl, SqL.of S7.pl.l, hat, by show 4 ≤ sizeLine; decide, fun M nM => ?_⟩
      have sM := same_upd (o := .tup (keyK (false, d.base + 9, lz, 3))) nM
      have eM : L2.upd H13 M (.tup (keyK (false, d.base + 9, lz, 3))) M = some (.tup (keyK (false, d.base + 9, lz, 3))) := upd_same
      have S8 := S7.ext (ExtN.of sM) (S7.tab.ext sM)
      show tSeq _ _ _ _ (L2.upd H13 M (.tup (keyK (false, d.base + 9, lz, 3)))) 
      generalize L2.upd H13 M (.tup (keyK (false, d.base + 9, lz, 3))) = H14 at *
      have b0 := hG.b0
      have b1 := hG.b1
      refine ⟨_, rfl, by decide, by decide, for_range (lo := 0) (n := 2) (fun j σ H' => ∃ (t' : Bool → List (EvK × V)) (es' : Bool → List Evt) (fp' : Bool → List Addr) (x8' : Option V), σ = [some (.ref sc), some (.int (0 + (i : Nat))), some (.ref p), some (.ref PT), some (.ref R), some (.ref E1), some (.ref B), some (.ref M), x8'] ∧ S91 D.C_Book D.C_History (TLs D) H0 p PT B ⟨R, E1, r, e⟩ d b (31 + j) rk t' es' fp' H' ∧ H' M = some (.tup (keyK (false, d.base + 9, lz, 3)))) ⟨t, es, fp, _, rfl, S8, eM⟩ ?_ ?_⟩
      · rintro jn σ H15 hjn ⟨t9, es9, fp9, x8', rfl, S9, eM9⟩
        obtain ⟨j, hj⟩ : ∃ j : Bool, (0 : Int) + ((jn : Nat) : Int) = (if j = true then 1 else 0) := by
          have : jn = 0 ∨ jn = 1 := by omega
          rcases this with rfl | rfl
          · exact ⟨false, rfl⟩
          · exact ⟨true, rfl⟩
        rw [hj]
        have at_j : ∀ (f : Bool → Addr), atI [V.ref (f false), .ref (f true)] (if j = true then 1 else 0) = some (.ref (f j)) := fun f => by
          cases j
          · exact atI_nat (j := 0) rfl
          · exact atI_nat (j := 1) rfl
        generalize (if j = true then (1 : Int) else 0) = ii at *
        refine ⟨_, rfl, p, 2, rfl, S9.pot, by decide, by decide, fun g H16 g0 g1 hp16 s16 => ⟨_, _, rfl, rfl, ?_⟩⟩
        have eM16 := s16 _ _ (ne_of_pot S9.pot eM9 (by intro a b; nofun)) eM9
        have SA := S9.look hp16 s16
        have okw : EvOK (rk j) ⟨false, d.base + 9, lz, 3, .int (5 + g)⟩ := ⟨by show 0 ≤ d.base + 9; omega, by show (0 : Int) ≤ 3; decide, by show (3 : Int) < 10 ^ 55; decide, nofun, fun _ => ⟨hlm, 5 + g, rfl, by omega, by omega⟩⟩
        have heA : H16 E1 = some (.lst [.ref (e false), .ref (e true)]) := SA.pr.e.hR
        have dp := DPut.t (k := kT (false, d.base + 9, lz, 3)) (v := .int (5 + g)) (SA.pr.e.hr j) eM16 (small2k (by unfold enT; rw [List.length_map]; have := SA.lt j; omega))
        rw [put_enT] at dp
        refine ⟨_, rfl, _, rfl, E1, _, ii, _, rfl, rfl, SqL.of heA, at_j e, _, rfl, e j, _, rfl, dp, ?_⟩
        have told := fun fp' H2 => SA.told j okw (Int.le_refl _) (fp' := fp') (H2 := H2)
        obtain ⟨q1, q2, q3, q4, q5, q6, q7⟩ := SA.put j (putA (t9 j) (evK ⟨false, d.base + 9, lz, 3, .int (5 + g)⟩) (.int (5 + g)))
        have eMB : L2.upd H16 (e j) (.dT (enT (putA (t9 j) (evK ⟨false, d.base + 9, lz, 3, .int (5 + g)⟩) (.int (5 + g))))) M = some (.tup (keyK (false, d.base + 9, lz, 3))) := by
          rw [upd_ne (ne_of eM16 (SA.pr.e.hr j) nofun)]
          exact eM16
        show tSeq _ _ _ _ (L2.upd H16 (e j) (.dT (enT (putA (t9 j) (evK ⟨false, d.base + 9, lz, 3, .int (5 + g)⟩) (.int (5 + g))))))
        have told : ∀ (fp' : List Addr) (H2 : Hp), Bk D.C_Book D.C_History H2 (b j) (rk j) (es9 j ++ [⟨false, d.base + 9, lz, 3, .int (5 + g)⟩]) fp' → (∀ c ∈ fp', c ∈ fp9 j ∨ L2.upd H16 (e j) (.dT (enT (putA (t9 j) (evK ⟨false, d.base + 9, lz, 3, .int (5 + g)⟩) (.int (5 + g))))) c = none) → SameL (fp9 j) (L2.upd H16 (e j) (.dT (enT (putA (t9 j) (evK ⟨false, d.base + 9, lz, 3, .int (5 + g)⟩) (.int (5 + g)))))) H2 → _ := fun fp' H2 a b c => told fp' H2 a b c
        generalize L2.upd H16 (e j) (.dT (enT (putA (t9 j) (evK ⟨false, d.base + 9, lz, 3, .int (5 + g)⟩) (.int (5 + g))))) = H17 at *
        have heB : H17 E1 = some (.lst [.ref (e false), .ref (e true)]) := q3.e.hR
        have hej : H17 (e j) = some (.dT (enT (putA (t9 j) (evK ⟨false, d.base + 9, lz, 3, .int (5 + g)⟩) (.int (5 + g))))) := by
          have := q3.e.hr j
          unfold oT at this
          rw [setB_same] at this
          exact this
        have dg : DGet H17 (e j) (.ref M) (some (.int (5 + g))) := by
          have h := DGet.t (k := kT (false, d.base + 9, lz, 3)) hej eMB
          rw [val_enT, getA_put, if_pos (show (false, d.base + 9, lz, (3 : Int)) = evK ⟨false, d.base + 9, lz, 3, .int (5 + g)⟩ from rfl)] at h
          exact h
        obtain ⟨dxb, Rb, Mb, Lb, vb, ix⟩ := (q5 j).ix
        have a1 : atI (keyK (false, d.base + 9, lz, 3)) 1 = some (.int (d.base + 9)) := atI_nat (j := 1) rfl
        have a2 : atI (keyK (false, d.base + 9, lz, 3)) 2 = some (.str lz) := atI_nat (j := 2) rfl
        have a3 : atI (keyK (false, d.base + 9, lz, 3)) 3 = some (.int 3) := atI_nat (j := 3) rfl
        refine ⟨_, rfl, _, rfl, B, _, ii, _, rfl, rfl, SqL.of q4, at_j b, b j, dxb, _, rfl, ix, rfl, _, rfl, M, _, 1, _, rfl, rfl, SqT.of eMB, a1, _, rfl, M, _, 2, _, rfl, rfl, SqT.of eMB, a2, _, rfl, M, _, 3, _, rfl, rfl, SqT.of eMB, a3, _, rfl, _, rfl, E1, _, ii, _, rfl, rfl, SqL.of heB, at_j e, _, rfl, e j, _, rfl, dg, b j, rk j, es9 j, fp9 j, d.base + 9, 3, lz, .int (5 + g), rfl, q5 j, okw, SA.kk j, by have := SA.le j; omega, fun fp2 H10 W10 fr10 s10 => ?_⟩
        have S10 := told fp2 H10 W10 fr10 s10
        have eM10 := s10 _ _ ((q5 j).nt eMB) eMB
        generalize setB t9 j (putA (t9 j) (evK ⟨false, d.base + 9, lz, 3, .int (5 + g)⟩) (.int (5 + g))) = t' at *
        generalize setB es9 j (es9 j ++ [⟨false, d.base + 9, lz, 3, .int (5 + g)⟩]) = es' at *
        generalize setB fp9 j fp2 = fp' at *
        refine ⟨_, rfl, B, _, 0, _, rfl, rfl, SqL.of S10.hB, two_at.1, _, rfl, B, _, 1, _, rfl, rfl, SqL.of S10.hB, two_at.2, _, rfl, _, rfl, ⟨R, E1, r, e⟩, d, 0, rk, t', rfl, S10.pr, G3.kr, fun i => (S10.rel i).nd, fun i => Nat.le_trans (S10.lt i) (by omega), S10.ok, fun F ts H11 s11 nF eF hts => ?_⟩
        rw [due_clash (S10.rel false) (S10.rel true)] at hts
        have S11 := S10.ext (ExtN.of s11) (S10.tab.ext s11)
        have k11 := S11.kb hG
        have le11 : ∀ i, (es' i).length ≤ 60 := fun i => Nat.le_trans (S11.le i) (by omega)
        have lt11 : ∀ i, (t' i).length ≤ 60 := fun i => Nat.le_trans (S11.lt i) (by omega)
        refine ⟨b false, b true, F, rk false, rk true, _, _, _, _, ts, rfl, S11.bk false, S11.bk true, le11 false, le11 true, fun x hx => Int.lt_trans (k11 false x hx) (by decide), fun x hx => Int.lt_trans (k11 true x hx) (by decide), eF, hts, S11.tab, fun H12 x12 T12 => ⟨_, rfl, iteF ?_⟩⟩
        have S12 := S11.ext x12 T12
        refine ⟨_, rfl, _, rfl, _, rfl, B, b, ⟨R, E1, r, e⟩, rk, t', es', fp', rfl, S12.hB, S12.pr, S12.bk, S12.rel, le11, lt11, k11, S12.tab, fun H13 x13 T13 => ⟨_, rfl, iteF ?_⟩⟩
        have S13 := S12.ext x13 T13
        have xS13 : ExtN H10 H13 := (ExtN.of s11).trans (x12.trans x13)
        exact ⟨t', es', fp', _, rfl, S13, xS13 _ _ eM10 nofun⟩
      · rintro σ H15 ⟨t9, es9, fp9, x8', rfl, S9, eM9⟩
        have le9 : (es9 false).length ≤ 60 := Nat.le_trans (S9.le false) (by omega)
        have kr0 := G3.kr false
        refine ⟨_, rfl, B, _, 0, _, rfl, rfl, SqL.of S9.hB, two_at.1, _, rfl, B, _, 0, _, rfl, rfl, SqL.of S9.hB, two_at.1, b false, b false, rk false, rk false, _, _, _, _, rfl, S9.bk false, S9.bk false, le9, le9, S9.tab, fun F ts H16 nF x16 T16 eF hts => ?_⟩
        rw [clash_none kr0.nd rfl] at hts
        cases hts
        have S16 := S9.ext x16 T16
        refine ⟨by show 0 ≤ sizeLine; decide, fun k nk => ⟨F, k, _, rfl, rfl, same_upd nk _ _ eF, upd_same, _, rfl, iteF ?_⟩⟩
        have s17 := same_upd (o := .lst []) nk
        have S17 := S16.ext (ExtN.of s17) (T16.ext s17)
        generalize L2.upd H16 k (.lst []) = H17 at *
        obtain ⟨dxb, Rb, Mb, Lb, vb, ix⟩ := (S17.bk false).ix
        refine ⟨_, rfl, B, _, 0, _, rfl, rfl, SqL.of S17.hB, two_at.1, _, rfl, B, _, 0, _, rfl, rfl, SqL.of S17.hB, two_at.1, b false, dxb, _, rfl, ix, rfl, b false, rk false, es9 false, fp9 false, rfl, S17.bk false, le9, S17.tab, fun L b2 f2 H18 hL bv nw2 x18 T18 => ?_⟩
        obtain rfl : L = entW (es9 false) := hL.uniq (entW_is _)
        have S18 := S17.ext x18 T18
        refine ⟨b false, b2, rk false, rk false, _, _, _, _, rfl, S18.bk false, bv, le9, by rw [(List.mergeSort_perm _ _).length_eq]; exact Nat.le_trans (entW_len _) le9, T18, fun F2 ts2 H19 nF2 x19 T19 eF2 hts2 => ?_⟩
        rw [clash_none kr0.nd (entW_again _).symm] at hts2
        cases hts2
        refine ⟨by show 0 ≤ sizeLine; decide, fun k2 nk2 => ⟨F2, k2, _, rfl, rfl, same_upd nk2 _ _ eF2, upd_same, _, rfl, iteF ?_⟩⟩
        have s20 := same_upd (o := .lst []) nk2
        exact ⟨⟨_, _, _, _, _, _, _, _, rfl⟩, sm0.trans ((S18.ext x19 T19).x0.trans (ExtN.of s20)), T19.ext s20⟩
    · rintro σ H0 ⟨⟨x1, x2, x3, x4, x5, x6, x7, x8, rfl⟩, sm0, tab0⟩
      have mk : ∀ (n : Int), (mergeK [] [((Sum.inr (Str.ofString "ann") : Key), V.int n)]) = sd [(Str.ofString "ann", n)] := fun n => rfl
      refine fun r0 nr0 => ⟨upd_same, [(.inr (Str.ofString "ann"), .int 1)], rfl, by decide, ?_⟩
      rw [mk, upd_upd]
      have s1 := same_upd (o := .dK (sd [(Str.ofString "ann", 1)])) nr0
      have er0 := upd_same (H := H0) (a := r0) (o := .dK (sd [(Str.ofString "ann", 1)]))
      generalize L2.upd H0 r0 (.dK (sd [(Str.ofString "ann", 1)])) = H1 at *
      have rk0 := rk_one (n := 1) nm_ann (by decide) (by decide)
      have rk1 := rk_one (n := 2) nm_ann (by decide) (by decide)
      refine fun b0 dx0 nb0 ndb0 nex0 => ?_
      have sm1 := same_made (C := D.C_Book) (o := .ins D.C_Book dx0 []) nb0 ndb0
      refine ⟨b0, dx0, r0, _, rfl, upd_same, sm1 _ _ er0, rk0, fun fp0 H2 W0 fr0 sb0 => ⟨rfl, ?_⟩⟩
      have s2 := sameB_new nb0 sm1 sb0
      refine fun r1 nr1 => ⟨upd_same, [(.inr (Str.ofString "ann"), .int 2)], rfl, by decide, ?_⟩
      rw [mk, upd_upd]
      have s3 := same_upd (o := .dK (sd [(Str.ofString "ann", 2)])) nr1
      have er1 := upd_same (H := H2) (a := r1) (o := .dK (sd [(Str.ofString "ann", 2)]))
      have W03 := W0.mono s3
      generalize L2.upd H2 r1 (.dK (sd [(Str.ofString "ann", 2)])) = H3 at *
      refine fun b1 dx1 nb1 ndb1 nex1 => ?_
      have sm2 := same_made (C := D.C_Book) (o := .ins D.C_Book dx1 []) nb1 ndb1
      refine ⟨b1, dx1, r1, _, rfl, upd_same, sm2 _ _ er1, rk1, fun fp1 H4 W1 fr1 sb1 => ⟨rfl, ?_⟩⟩
      have s4 := sameB_new nb1 sm2 sb1
      refine ⟨b0, b1, _, _, [], [], fp0, fp1, rfl, W03.mono s4, W1, by decide, by decide, tab0.ext (s1.trans (s2.trans (s3.trans s4))), fun F ts H5 nF x5 T5 eF hts => ?_⟩
      rw [clash_ann] at hts
      refine ⟨by show 2 ≤ sizeLine; decide, fun x nx => ⟨by show 1 ≤ sizeLine; decide, fun G nG => ?_⟩⟩
      have sx := (same_upd (o := .tup (keyN (Str.ofString "ann"))) nx).trans (same_upd (o := .lst [V.ref x]) nG)
      have ex : Paired (LT.TupIs (L2.upd (L2.upd H5 x (.tup (keyN (Str.ofString "ann")))) G (.lst [V.ref x]))) [x] [keyN (Str.ofString "ann")] := .cons ((same_upd nG) _ _ upd_same) .nil
      have hts6 : Paired (LT.TupIs (L2.upd (L2.upd H5 x (.tup (keyN (Str.ofString "ann")))) G (.lst [V.ref x]))) ts [keyN (Str.ofString "ann")] := paired_imp (fun _ _ h => sx _ _ h) hts
      have eG : L2.upd (L2.upd H5 x (.tup (keyN (Str.ofString "ann")))) G (.lst [V.ref x]) G = some (.lst ([x].map V.ref)) := upd_same
      have cls : ∀ xs ∈ [keyN (Str.ofString "ann")], ClsK xs := fun xs hx => .inl ⟨_, List.mem_singleton.mp hx⟩
      have sh : SeqAt.shaped (.list ([keyN (Str.ofString "ann")].map keyD)) = true ∧ PyData.eqv (.list ([keyN (Str.ofString "ann")].map keyD)) (.list ([keyN (Str.ofString "ann")].map keyD)) = true := ⟨by decide +kernel, by decide +kernel⟩
      refine ⟨_, _, .lst (SqL.of (sx _ _ eF)) (tup_dp hts6 cls), .lst (SqL.of eG) (tup_dp ex cls), sh.1, sh.1, ?_⟩
      rw [sh.2]
      exact q _
end
end K91
set_option Elab.async false
set_option linter.all false
set_option maxRecDepth 100000
set_option maxHeartbeats 3200000
namespace K91
open PySem PySem.Spec PyProof.Rows L2 LT NdefX
structure LeftC (K : PySem.W.Frag) (C_History C_Book : Addr) : Prop where
  n_History : PySem.W.nsIn K mainGlobals "History" = some (some (.ref C_History))
  n_Book : PySem.W.nsIn K mainGlobals "Book" = some (some (.ref C_Book))
  cn : PySem.W.specialIn K (.builtin "object.__class__") "__get__" = some (some (.builtin "getset_descriptor.__get__"))
  ct : PySem.W.takesIn K (.builtin "object.__class__") = some true
  pg_History : PySem.W.plainGet K C_History Str.empty = true
  hd_History : PySem.W.hasDictIn K C_History = true
  po_History : PySem.W.plainOver K C_History = true
  sa_History : PySem.W.findIn K (.ref C_History) "__setattr__" = some (some (.builtin "object.__setattr__"))
  kC_History : PySem.W.keepIn K (.ref C_History) = true
  mk_History : PySem.W.makesIn K C_History = true
  f_History_by_day : PySem.W.findIn K (.ref C_History) "by_day" = some none
  pg_Book : PySem.W.plainGet K C_Book Str.empty = true
  hd_Book : PySem.W.hasDictIn K C_Book = true
  po_Book : PySem.W.plainOver K C_Book = true
  sa_Book : PySem.W.findIn K (.ref C_Book) "__setattr__" = some (some (.builtin "object.__setattr__"))
  kC_Book : PySem.W.keepIn K (.ref C_Book) = true
  mk_Book : PySem.W.makesIn K C_Book = true
  f_Book_rank_of : PySem.W.findIn K (.ref C_Book) "rank_of" = some none
  f_Book_moves : PySem.W.findIn K (.ref C_Book) "moves" = some none
  f_Book_landings : PySem.W.findIn K (.ref C_Book) "landings" = some none
  f_Book_latest_known : PySem.W.findIn K (.ref C_Book) "latest_known" = some none
  cm_Book : PySem.W.mroIn K C_Book (.type "object") = some true
  ca_Book : PySem.W.findIn K (.ref C_Book) "__class__" = some (some (.builtin "object.__class__"))
  iC_Book : PySem.W.isClsIn K C_Book = true
  tC_Book : PySem.W.typeIn K (.ref C_Book) = some (.type "type")
  kt_Book_NoneType : PySem.W.subIn K (.type "NoneType") (.ref C_Book) = some false
  kt_Book_bool : PySem.W.subIn K (.type "bool") (.ref C_Book) = some false
  kt_Book_int : PySem.W.subIn K (.type "int") (.ref C_Book) = some false
  kt_Book_str : PySem.W.subIn K (.type "str") (.ref C_Book) = some false
  kt_Book_list : PySem.W.subIn K (.type "list") (.ref C_Book) = some false
  kt_Book_tuple : PySem.W.subIn K (.type "tuple") (.ref C_Book) = some false
  kt_Book_dict : PySem.W.subIn K (.type "dict") (.ref C_Book) = some false
  ne_Book : PySem.W.findIn K (.ref C_Book) "__ne__" = some (some (.builtin "object.__ne__"))
  st_Book_NoneType : PySem.W.subIn K (.ref C_Book) (.type "NoneType") = some false
  st_Book_bool : PySem.W.subIn K (.ref C_Book) (.type "bool") = some false
  st_Book_int : PySem.W.subIn K (.ref C_Book) (.type "int") = some false
  st_Book_str : PySem.W.subIn K (.ref C_Book) (.type "str") = some false
  st_Book_list : PySem.W.subIn K (.ref C_Book) (.type "list") = some false
  st_Book_tuple : PySem.W.subIn K (.ref C_Book) (.type "tuple") = some false
theorem all_mk {l : PySem.W.OpenLaw} {w : World} {K : PySem.W.Frag} {h : Heap} {mg : Str → Option Value} {fa : Addr} {ts : List Addr} (X : K.In h) (G : h.Ns mainGlobals mg) (hfa : mg "law" = some (.ref fa)) (ht : ∀ P ∈ ts, h.get? P = some (PySem.W.tabObj #[]))
    {C_History C_Book : Addr} (D : LeftC K C_History C_Book)
    {fHistory___init__ : Addr} {ocHistory___init__ : Value} {odHistory___init__ anHistory___init__ : Option Addr} {kVHistory___init__ dcHistory___init__ pmHistory___init__ cdHistory___init__ ctHistory___init__ : Value} {slHistory___init__ : Array (Option Value)} (F_History___init__ : LeftM K C_History "__init__" "History.__init__" s_History___init__ fHistory___init__ ocHistory___init__ odHistory___init__ anHistory___init__ kVHistory___init__ dcHistory___init__ pmHistory___init__ cdHistory___init__ ctHistory___init__ slHistory___init__)
    {fHistory_note : Addr} {ocHistory_note : Value} {odHistory_note anHistory_note : Option Addr} {kVHistory_note dcHistory_note pmHistory_note cdHistory_note ctHistory_note : Value} {slHistory_note : Array (Option Value)} (F_History_note : LeftM K C_History "note" "History.note" s_History_note fHistory_note ocHistory_note odHistory_note anHistory_note kVHistory_note dcHistory_note pmHistory_note cdHistory_note ctHistory_note slHistory_note)
    {fHistory_all_told : Addr} {ocHistory_all_told : Value} {odHistory_all_told anHistory_all_told : Option Addr} {kVHistory_all_told dcHistory_all_told pmHistory_all_told cdHistory_all_told ctHistory_all_told : Value} {slHistory_all_told : Array (Option Value)} (F_History_all_told : LeftM K C_History "all_told" "History.all_told" s_History_all_told fHistory_all_told ocHistory_all_told odHistory_all_told anHistory_all_told kVHistory_all_told dcHistory_all_told pmHistory_all_told cdHistory_all_told ctHistory_all_told slHistory_all_told)
    {fHistory_told_last : Addr} {ocHistory_told_last : Value} {odHistory_told_last anHistory_told_last : Option Addr} {kVHistory_told_last dcHistory_told_last pmHistory_told_last cdHistory_told_last ctHistory_told_last : Value} {slHistory_told_last : Array (Option Value)} (F_History_told_last : LeftM K C_History "told_last" "History.told_last" s_History_told_last fHistory_told_last ocHistory_told_last odHistory_told_last anHistory_told_last kVHistory_told_last dcHistory_told_last pmHistory_told_last cdHistory_told_last ctHistory_told_last slHistory_told_last)
    {fHistory_holding : Addr} {ocHistory_holding : Value} {odHistory_holding anHistory_holding : Option Addr} {kVHistory_holding dcHistory_holding pmHistory_holding cdHistory_holding ctHistory_holding : Value} {slHistory_holding : Array (Option Value)} (F_History_holding : LeftM K C_History "holding" "History.holding" s_History_holding fHistory_holding ocHistory_holding odHistory_holding anHistory_holding kVHistory_holding dcHistory_holding pmHistory_holding cdHistory_holding ctHistory_holding slHistory_holding)
    {fBook___init__ : Addr} {ocBook___init__ : Value} {odBook___init__ anBook___init__ : Option Addr} {kVBook___init__ dcBook___init__ pmBook___init__ cdBook___init__ ctBook___init__ : Value} {slBook___init__ : Array (Option Value)} (F_Book___init__ : LeftM K C_Book "__init__" "Book.__init__" s_Book___init__ fBook___init__ ocBook___init__ odBook___init__ anBook___init__ kVBook___init__ dcBook___init__ pmBook___init__ cdBook___init__ ctBook___init__ slBook___init__)
    {fBook_ranks : Addr} {ocBook_ranks : Value} {odBook_ranks anBook_ranks : Option Addr} {kVBook_ranks dcBook_ranks pmBook_ranks cdBook_ranks ctBook_ranks : Value} {slBook_ranks : Array (Option Value)} (F_Book_ranks : LeftM K C_Book "ranks" "Book.ranks" s_Book_ranks fBook_ranks ocBook_ranks odBook_ranks anBook_ranks kVBook_ranks dcBook_ranks pmBook_ranks cdBook_ranks ctBook_ranks slBook_ranks)
    {fBook_tell : Addr} {ocBook_tell : Value} {odBook_tell anBook_tell : Option Addr} {kVBook_tell dcBook_tell pmBook_tell cdBook_tell ctBook_tell : Value} {slBook_tell : Array (Option Value)} (F_Book_tell : LeftM K C_Book "tell" "Book.tell" s_Book_tell fBook_tell ocBook_tell odBook_tell anBook_tell kVBook_tell dcBook_tell pmBook_tell cdBook_tell ctBook_tell slBook_tell)
    {fBook_land : Addr} {ocBook_land : Value} {odBook_land anBook_land : Option Addr} {kVBook_land dcBook_land pmBook_land cdBook_land ctBook_land : Value} {slBook_land : Array (Option Value)} (F_Book_land : LeftM K C_Book "land" "Book.land" s_Book_land fBook_land ocBook_land odBook_land anBook_land kVBook_land dcBook_land pmBook_land cdBook_land ctBook_land slBook_land)
    {fBook_moves_known : Addr} {ocBook_moves_known : Value} {odBook_moves_known anBook_moves_known : Option Addr} {kVBook_moves_known dcBook_moves_known pmBook_moves_known cdBook_moves_known ctBook_moves_known : Value} {slBook_moves_known : Array (Option Value)} (F_Book_moves_known : LeftM K C_Book "moves_known" "Book.moves_known" s_Book_moves_known fBook_moves_known ocBook_moves_known odBook_moves_known anBook_moves_known kVBook_moves_known dcBook_moves_known pmBook_moves_known cdBook_moves_known ctBook_moves_known slBook_moves_known)
    {fBook_landings_known : Addr} {ocBook_landings_known : Value} {odBook_landings_known anBook_landings_known : Option Addr} {kVBook_landings_known dcBook_landings_known pmBook_landings_known cdBook_landings_known ctBook_landings_known : Value} {slBook_landings_known : Array (Option Value)} (F_Book_landings_known : LeftM K C_Book "landings_known" "Book.landings_known" s_Book_landings_known fBook_landings_known ocBook_landings_known odBook_landings_known anBook_landings_known kVBook_landings_known dcBook_landings_known pmBook_landings_known cdBook_landings_known ctBook_landings_known slBook_landings_known)
    {fBook_twin : Addr} {ocBook_twin : Value} {odBook_twin anBook_twin : Option Addr} {kVBook_twin dcBook_twin pmBook_twin cdBook_twin ctBook_twin : Value} {slBook_twin : Array (Option Value)} (F_Book_twin : LeftM K C_Book "twin" "Book.twin" s_Book_twin fBook_twin ocBook_twin odBook_twin anBook_twin kVBook_twin dcBook_twin pmBook_twin cdBook_twin ctBook_twin slBook_twin)
    {fBook___eq__ : Addr} {ocBook___eq__ : Value} {odBook___eq__ anBook___eq__ : Option Addr} {kVBook___eq__ dcBook___eq__ pmBook___eq__ cdBook___eq__ ctBook___eq__ : Value} {slBook___eq__ : Array (Option Value)} (F_Book___eq__ : LeftM K C_Book "__eq__" "Book.__eq__" s_Book___eq__ fBook___eq__ ocBook___eq__ odBook___eq__ anBook___eq__ kVBook___eq__ dcBook___eq__ pmBook___eq__ cdBook___eq__ ctBook___eq__ slBook___eq__)
    {fBook___len__ : Addr} {ocBook___len__ : Value} {odBook___len__ anBook___len__ : Option Addr} {kVBook___len__ dcBook___len__ pmBook___len__ cdBook___len__ ctBook___len__ : Value} {slBook___len__ : Array (Option Value)} (F_Book___len__ : LeftM K C_Book "__len__" "Book.__len__" s_Book___len__ fBook___len__ ocBook___len__ odBook___len__ anBook___len__ kVBook___len__ dcBook___len__ pmBook___len__ cdBook___len__ ctBook___len__ slBook___len__)
    {fBook_where TBook_where : Addr} {ocBook_where : Value} {odBook_where anBook_where : Option Addr} {kVBook_where dcBook_where pmBook_where cdBook_where ctBook_where : Value} {slBook_where : Array (Option Value)} {oTBook_where : Value} {dTBook_where : Option Addr} {nTBook_where : Nat} {sTBook_where : Array (Option Value)} (F_Book_where : LeftMD K C_Book "where" "Book.where" s_Book_where #[.none] fBook_where TBook_where ocBook_where odBook_where anBook_where kVBook_where dcBook_where pmBook_where cdBook_where ctBook_where slBook_where oTBook_where dTBook_where nTBook_where sTBook_where)
    {fBook_landed TBook_landed : Addr} {ocBook_landed : Value} {odBook_landed anBook_landed : Option Addr} {kVBook_landed dcBook_landed pmBook_landed cdBook_landed ctBook_landed : Value} {slBook_landed : Array (Option Value)} {oTBook_landed : Value} {dTBook_landed : Option Addr} {nTBook_landed : Nat} {sTBook_landed : Array (Option Value)} (F_Book_landed : LeftMD K C_Book "landed" "Book.landed" s_Book_landed #[.none] fBook_landed TBook_landed ocBook_landed odBook_landed anBook_landed kVBook_landed dcBook_landed pmBook_landed cdBook_landed ctBook_landed slBook_landed oTBook_landed dTBook_landed nTBook_landed sTBook_landed)
    {fBook_entries cBook_entries PBook_entries : Addr} {ocBook_entries : Value} {odBook_entries anBook_entries : Option Addr} {kVBook_entries dcBook_entries pmBook_entries ctBook_entries : Value} {slBook_entries : Array (Option Value)} {oCBook_entries : Value} {dCBook_entries : Option Addr} {vCBook_entries : Array Value} {sCBook_entries : Array (Option Value)} (F_Book_entries : LeftLm K C_Book "entries" "Book.entries" s_Book_entries fBook_entries cBook_entries PBook_entries ocBook_entries odBook_entries anBook_entries kVBook_entries dcBook_entries pmBook_entries ctBook_entries slBook_entries oCBook_entries dCBook_entries vCBook_entries sCBook_entries) (tm_Book_entries : PBook_entries ∈ ts)
    {fbook_of cbook_of Pbook_of : Addr} {ocbook_of : Value} {odbook_of anbook_of : Option Addr} {kVbook_of dcbook_of pmbook_of ctbook_of : Value} {slbook_of : Array (Option Value)} {oCbook_of : Value} {dCbook_of : Option Addr} {vCbook_of : Array Value} {sCbook_of : Array (Option Value)} (F_book_of : LeftLd K "book_of" s_book_of fbook_of cbook_of Pbook_of ocbook_of odbook_of anbook_of kVbook_of dcbook_of pmbook_of ctbook_of slbook_of oCbook_of dCbook_of vCbook_of sCbook_of) (tm_book_of : Pbook_of ∈ ts)
    {f_law_book c_law_book P_law_book : Addr} {oc_law_book : Value} {od_law_book an_law_book : Option Addr} {kV_law_book dc_law_book pm_law_book ct_law_book : Value} {sl_law_book : Array (Option Value)} {oC_law_book : Value} {dC_law_book : Option Addr} {vC_law_book : Array Value} {sC_law_book : Array (Option Value)} (F__law_book : LeftLd K "_law_book" s__law_book f_law_book c_law_book P_law_book oc_law_book od_law_book an_law_book kV_law_book dc_law_book pm_law_book ct_law_book sl_law_book oC_law_book dC_law_book vC_law_book sC_law_book) (tm__law_book : P_law_book ∈ ts)
    {fis_name : Addr} {ocis_name : Value} {odis_name anis_name : Option Addr} {kVis_name dcis_name pmis_name cdis_name ctis_name : Value} {slis_name : Array (Option Value)} (F_is_name : Left K "is_name" s_is_name fis_name ocis_name odis_name anis_name kVis_name dcis_name pmis_name cdis_name ctis_name slis_name)
    {fis_place : Addr} {ocis_place : Value} {odis_place anis_place : Option Addr} {kVis_place dcis_place pmis_place cdis_place ctis_place : Value} {slis_place : Array (Option Value)} (F_is_place : Left K "is_place" s_is_place fis_place ocis_place odis_place anis_place kVis_place dcis_place pmis_place cdis_place ctis_place slis_place)
    {fis_whole : Addr} {ocis_whole : Value} {odis_whole anis_whole : Option Addr} {kVis_whole dcis_whole pmis_whole cdis_whole ctis_whole : Value} {slis_whole : Array (Option Value)} (F_is_whole : Left K "is_whole" s_is_whole fis_whole ocis_whole odis_whole anis_whole kVis_whole dcis_whole pmis_whole cdis_whole ctis_whole slis_whole)
    {fis_from : Addr} {ocis_from : Value} {odis_from anis_from : Option Addr} {kVis_from dcis_from pmis_from cdis_from ctis_from : Value} {slis_from : Array (Option Value)} (F_is_from : Left K "is_from" s_is_from fis_from ocis_from odis_from anis_from kVis_from dcis_from pmis_from cdis_from ctis_from slis_from)
    {fis_within : Addr} {ocis_within : Value} {odis_within anis_within : Option Addr} {kVis_within dcis_within pmis_within cdis_within ctis_within : Value} {slis_within : Array (Option Value)} (F_is_within : Left K "is_within" s_is_within fis_within ocis_within odis_within anis_within kVis_within dcis_within pmis_within cdis_within ctis_within slis_within)
    {fis_day : Addr} {ocis_day : Value} {odis_day anis_day : Option Addr} {kVis_day dcis_day pmis_day cdis_day ctis_day : Value} {slis_day : Array (Option Value)} (F_is_day : Left K "is_day" s_is_day fis_day ocis_day odis_day anis_day kVis_day dcis_day pmis_day cdis_day ctis_day slis_day)
    {fcheck_day : Addr} {occheck_day : Value} {odcheck_day ancheck_day : Option Addr} {kVcheck_day dccheck_day pmcheck_day cdcheck_day ctcheck_day : Value} {slcheck_day : Array (Option Value)} (F_check_day : Left K "check_day" s_check_day fcheck_day occheck_day odcheck_day ancheck_day kVcheck_day dccheck_day pmcheck_day cdcheck_day ctcheck_day slcheck_day)
    {fcheck_known : Addr} {occheck_known : Value} {odcheck_known ancheck_known : Option Addr} {kVcheck_known dccheck_known pmcheck_known cdcheck_known ctcheck_known : Value} {slcheck_known : Array (Option Value)} (F_check_known : Left K "check_known" s_check_known fcheck_known occheck_known odcheck_known ancheck_known kVcheck_known dccheck_known pmcheck_known cdcheck_known ctcheck_known slcheck_known)
    {fcheck_days : Addr} {occheck_days : Value} {odcheck_days ancheck_days : Option Addr} {kVcheck_days dccheck_days pmcheck_days cdcheck_days ctcheck_days : Value} {slcheck_days : Array (Option Value)} (F_check_days : Left K "check_days" s_check_days fcheck_days occheck_days odcheck_days ancheck_days kVcheck_days dccheck_days pmcheck_days cdcheck_days ctcheck_days slcheck_days)
    {fcheck_light : Addr} {occheck_light : Value} {odcheck_light ancheck_light : Option Addr} {kVcheck_light dccheck_light pmcheck_light cdcheck_light ctcheck_light : Value} {slcheck_light : Array (Option Value)} (F_check_light : Left K "check_light" s_check_light fcheck_light occheck_light odcheck_light ancheck_light kVcheck_light dccheck_light pmcheck_light cdcheck_light ctcheck_light slcheck_light)
    {fcheck_place : Addr} {occheck_place : Value} {odcheck_place ancheck_place : Option Addr} {kVcheck_place dccheck_place pmcheck_place cdcheck_place ctcheck_place : Value} {slcheck_place : Array (Option Value)} (F_check_place : Left K "check_place" s_check_place fcheck_place occheck_place odcheck_place ancheck_place kVcheck_place dccheck_place pmcheck_place cdcheck_place ctcheck_place slcheck_place)
    {fcheck_number : Addr} {occheck_number : Value} {odcheck_number ancheck_number : Option Addr} {kVcheck_number dccheck_number pmcheck_number cdcheck_number ctcheck_number : Value} {slcheck_number : Array (Option Value)} (F_check_number : Left K "check_number" s_check_number fcheck_number occheck_number odcheck_number ancheck_number kVcheck_number dccheck_number pmcheck_number cdcheck_number ctcheck_number slcheck_number)
    {fcheck_keeper : Addr} {occheck_keeper : Value} {odcheck_keeper ancheck_keeper : Option Addr} {kVcheck_keeper dccheck_keeper pmcheck_keeper cdcheck_keeper ctcheck_keeper : Value} {slcheck_keeper : Array (Option Value)} (F_check_keeper : Left K "check_keeper" s_check_keeper fcheck_keeper occheck_keeper odcheck_keeper ancheck_keeper kVcheck_keeper dccheck_keeper pmcheck_keeper cdcheck_keeper ctcheck_keeper slcheck_keeper)
    {fcheck_not_early : Addr} {occheck_not_early : Value} {odcheck_not_early ancheck_not_early : Option Addr} {kVcheck_not_early dccheck_not_early pmcheck_not_early cdcheck_not_early ctcheck_not_early : Value} {slcheck_not_early : Array (Option Value)} (F_check_not_early : Left K "check_not_early" s_check_not_early fcheck_not_early occheck_not_early odcheck_not_early ancheck_not_early kVcheck_not_early dccheck_not_early pmcheck_not_early cdcheck_not_early ctcheck_not_early slcheck_not_early)
    {fare_ranks : Addr} {ocare_ranks : Value} {odare_ranks anare_ranks : Option Addr} {kVare_ranks dcare_ranks pmare_ranks cdare_ranks ctare_ranks : Value} {slare_ranks : Array (Option Value)} (F_are_ranks : Left K "are_ranks" s_are_ranks fare_ranks ocare_ranks odare_ranks anare_ranks kVare_ranks dcare_ranks pmare_ranks cdare_ranks ctare_ranks slare_ranks)
    {fclashes : Addr} {occlashes : Value} {odclashes anclashes : Option Addr} {kVclashes dcclashes pmclashes cdclashes ctclashes : Value} {slclashes : Array (Option Value)} (F_clashes : Left K "clashes" s_clashes fclashes occlashes odclashes anclashes kVclashes dcclashes pmclashes cdclashes ctclashes slclashes)
    {f_law_cell : Addr} {oc_law_cell : Value} {od_law_cell an_law_cell : Option Addr} {kV_law_cell dc_law_cell pm_law_cell cd_law_cell ct_law_cell : Value} {sl_law_cell : Array (Option Value)} (F__law_cell : Left K "_law_cell" s__law_cell f_law_cell oc_law_cell od_law_cell an_law_cell kV_law_cell dc_law_cell pm_law_cell cd_law_cell ct_law_cell sl_law_cell)
    {f_law_pot : Addr} {oc_law_pot : Value} {od_law_pot an_law_pot : Option Addr} {kV_law_pot dc_law_pot pm_law_pot cd_law_pot ct_law_pot : Value} {sl_law_pot : Array (Option Value)} (F__law_pot : Left K "_law_pot" s__law_pot f_law_pot oc_law_pot od_law_pot an_law_pot kV_law_pot dc_law_pot pm_law_pot cd_law_pot ct_law_pot sl_law_pot)
    {f_law_take : Addr} {oc_law_take : Value} {od_law_take an_law_take : Option Addr} {kV_law_take dc_law_take pm_law_take cd_law_take ct_law_take : Value} {sl_law_take : Array (Option Value)} (F__law_take : Left K "_law_take" s__law_take f_law_take oc_law_take od_law_take an_law_take kV_law_take dc_law_take pm_law_take cd_law_take ct_law_take sl_law_take)
    {f_law_word : Addr} {oc_law_word : Value} {od_law_word an_law_word : Option Addr} {kV_law_word dc_law_word pm_law_word cd_law_word ct_law_word : Value} {sl_law_word : Array (Option Value)} (F__law_word : Left K "_law_word" s__law_word f_law_word oc_law_word od_law_word an_law_word kV_law_word dc_law_word pm_law_word cd_law_word ct_law_word sl_law_word)
    {f_law_unlike : Addr} {oc_law_unlike : Value} {od_law_unlike an_law_unlike : Option Addr} {kV_law_unlike dc_law_unlike pm_law_unlike cd_law_unlike ct_law_unlike : Value} {sl_law_unlike : Array (Option Value)} (F__law_unlike : Left K "_law_unlike" s__law_unlike f_law_unlike oc_law_unlike od_law_unlike an_law_unlike kV_law_unlike dc_law_unlike pm_law_unlike cd_law_unlike ct_law_unlike sl_law_unlike)
    {f_law_far : Addr} {oc_law_far : Value} {od_law_far an_law_far : Option Addr} {kV_law_far dc_law_far pm_law_far cd_law_far ct_law_far : Value} {sl_law_far : Array (Option Value)} (F__law_far : Left K "_law_far" s__law_far f_law_far oc_law_far od_law_far an_law_far kV_law_far dc_law_far pm_law_far cd_law_far ct_law_far sl_law_far)
    {f_law_plan : Addr} {oc_law_plan : Value} {od_law_plan an_law_plan : Option Addr} {kV_law_plan dc_law_plan pm_law_plan cd_law_plan ct_law_plan : Value} {sl_law_plan : Array (Option Value)} (F__law_plan : Left K "_law_plan" s__law_plan f_law_plan oc_law_plan od_law_plan an_law_plan kV_law_plan dc_law_plan pm_law_plan cd_law_plan ct_law_plan sl_law_plan)
    {f_law_key : Addr} {oc_law_key : Value} {od_law_key an_law_key : Option Addr} {kV_law_key dc_law_key pm_law_key cd_law_key ct_law_key : Value} {sl_law_key : Array (Option Value)} (F__law_key : Left K "_law_key" s__law_key f_law_key oc_law_key od_law_key an_law_key kV_law_key dc_law_key pm_law_key cd_law_key ct_law_key sl_law_key)
    {f_law_worth : Addr} {oc_law_worth : Value} {od_law_worth an_law_worth : Option Addr} {kV_law_worth dc_law_worth pm_law_worth cd_law_worth ct_law_worth : Value} {sl_law_worth : Array (Option Value)} (F__law_worth : Left K "_law_worth" s__law_worth f_law_worth oc_law_worth od_law_worth an_law_worth kV_law_worth dc_law_worth pm_law_worth cd_law_worth ct_law_worth sl_law_worth)
    {f_law_pair : Addr} {oc_law_pair : Value} {od_law_pair an_law_pair : Option Addr} {kV_law_pair dc_law_pair pm_law_pair cd_law_pair ct_law_pair : Value} {sl_law_pair : Array (Option Value)} (F__law_pair : Left K "_law_pair" s__law_pair f_law_pair oc_law_pair od_law_pair an_law_pair kV_law_pair dc_law_pair pm_law_pair cd_law_pair ct_law_pair sl_law_pair)
    {f_law_due : Addr} {oc_law_due : Value} {od_law_due an_law_due : Option Addr} {kV_law_due dc_law_due pm_law_due cd_law_due ct_law_due : Value} {sl_law_due : Array (Option Value)} (F__law_due : Left K "_law_due" s__law_due f_law_due oc_law_due od_law_due an_law_due kV_law_due dc_law_due pm_law_due cd_law_due ct_law_due sl_law_due)
    {f_law_right : Addr} {oc_law_right : Value} {od_law_right an_law_right : Option Addr} {kV_law_right dc_law_right pm_law_right cd_law_right ct_law_right : Value} {sl_law_right : Array (Option Value)} (F__law_right : Left K "_law_right" s__law_right f_law_right oc_law_right od_law_right an_law_right kV_law_right dc_law_right pm_law_right cd_law_right ct_law_right sl_law_right)
    {f_law_stay : Addr} {oc_law_stay : Value} {od_law_stay an_law_stay : Option Addr} {kV_law_stay dc_law_stay pm_law_stay cd_law_stay ct_law_stay : Value} {sl_law_stay : Array (Option Value)} (F__law_stay : Left K "_law_stay" s__law_stay f_law_stay oc_law_stay od_law_stay an_law_stay kV_law_stay dc_law_stay pm_law_stay cd_law_stay ct_law_stay sl_law_stay)
    {flaw : Addr} {oclaw : Value} {odlaw anlaw : Option Addr} {kVlaw dclaw pmlaw cdlaw ctlaw : Value} {sllaw : Array (Option Value)} (F_law : Left K "law" s_law flaw oclaw odlaw anlaw kVlaw dclaw pmlaw cdlaw ctlaw sllaw)
    {t_SMALL_LETTERS : Tok} (y_SMALL_LETTERS : PySem.W.nsIn K mainGlobals "SMALL_LETTERS" = some (some (.str (Str.ofString "abcdefghijklmnopqrstuvwxyz") t_SMALL_LETTERS)))
    {t_LONGEST_NAME : Tok} (y_LONGEST_NAME : PySem.W.nsIn K mainGlobals "LONGEST_NAME" = some (some (.int (8) t_LONGEST_NAME)))
    {t_ASHORE : Tok} (y_ASHORE : PySem.W.nsIn K mainGlobals "ASHORE" = some (some (.str (Str.ofString "") t_ASHORE)))
    {t_MOST_KEEPERS : Tok} (y_MOST_KEEPERS : PySem.W.nsIn K mainGlobals "MOST_KEEPERS" = some (some (.int (30) t_MOST_KEEPERS)))
    {t_HIGHEST_RANK : Tok} (y_HIGHEST_RANK : PySem.W.nsIn K mainGlobals "HIGHEST_RANK" = some (some (.int (1) t_HIGHEST_RANK)))
    {t_LOWEST_RANK : Tok} (y_LOWEST_RANK : PySem.W.nsIn K mainGlobals "LOWEST_RANK" = some (some (.int (9) t_LOWEST_RANK)))
    (z_isinstance : PySem.W.nsIn K mainGlobals "isinstance" = some none)
    (z_int : PySem.W.nsIn K mainGlobals "int" = some none)
    (z_bool : PySem.W.nsIn K mainGlobals "bool" = some none)
    (z_len : PySem.W.nsIn K mainGlobals "len" = some none)
    (z_abs : PySem.W.nsIn K mainGlobals "abs" = some none)
    (z_max : PySem.W.nsIn K mainGlobals "max" = some none)
    (z_min : PySem.W.nsIn K mainGlobals "min" = some none)
    (z_divmod : PySem.W.nsIn K mainGlobals "divmod" = some none)
    (z_range : PySem.W.nsIn K mainGlobals "range" = some none)
    (z_repr : PySem.W.nsIn K mainGlobals "repr" = some none)
    (z_zip : PySem.W.nsIn K mainGlobals "zip" = some none)
    (z_ValueError : PySem.W.nsIn K mainGlobals "ValueError" = some none)
    (z_all : PySem.W.nsIn K mainGlobals "all" = some none)
    (z_any : PySem.W.nsIn K mainGlobals "any" = some none)
    (z_sum : PySem.W.nsIn K mainGlobals "sum" = some none)
    (z_sorted : PySem.W.nsIn K mainGlobals "sorted" = some none)
    (z_list : PySem.W.nsIn K mainGlobals "list" = some none)
    (z_tuple : PySem.W.nsIn K mainGlobals "tuple" = some none)
    (z_dict : PySem.W.nsIn K mainGlobals "dict" = some none)
    (z_enumerate : PySem.W.nsIn K mainGlobals "enumerate" = some none)
    (z_reversed : PySem.W.nsIn K mainGlobals "reversed" = some none)
    (z_str : PySem.W.nsIn K mainGlobals "str" = some none)
    (z_set : PySem.W.nsIn K mainGlobals "set" = some none)
    (ne_Book_entries_book_of : PBook_entries ≠ Pbook_of)
    (ne_Book_entries__law_book : PBook_entries ≠ P_law_book)
    (ne_book_of__law_book : Pbook_of ≠ P_law_book)
    : LawG l w K CX0 15 63 "_law_script" mg fa h := by
  have e := hfa.symm.trans (PySem.W.mg_of X G F_law.ns)
  cases e
  have N : ∀ {x : Str}, PySem.W.nsIn K mainGlobals x = some none → mg x = none := fun z => PySem.W.mg_none_of X G z
  have D_Book_where : FunD K "where" "Book.where" (defArgs s_Book_where) (defBody s_Book_where) (defScope s_Book_where) [.non] [] _ _ := ⟨⟨ocBook_where, odBook_where, .ref TBook_where, kVBook_where, dcBook_where, pmBook_where, anBook_where, cdBook_where, ctBook_where, slBook_where, rfl, F_Book_where.lk, F_Book_where.cd, .inr ⟨nofun, TBook_where, _, [.none], nTBook_where, rfl, F_Book_where.lT, rfl, (.cons rfl .nil)⟩, .inl rfl⟩, F_Book_where.kp⟩
  have D_Book_landed : FunD K "landed" "Book.landed" (defArgs s_Book_landed) (defBody s_Book_landed) (defScope s_Book_landed) [.non] [] _ _ := ⟨⟨ocBook_landed, odBook_landed, .ref TBook_landed, kVBook_landed, dcBook_landed, pmBook_landed, anBook_landed, cdBook_landed, ctBook_landed, slBook_landed, rfl, F_Book_landed.lk, F_Book_landed.cd, .inr ⟨nofun, TBook_landed, _, [.none], nTBook_landed, rfl, F_Book_landed.lT, rfl, (.cons rfl .nil)⟩, .inl rfl⟩, F_Book_landed.kp⟩
  let A : All K l.prog mg := {
    T := ⟨N z_isinstance, N z_int, N z_bool, N z_len, N z_abs, N z_max, N z_min, N z_divmod, N z_range, N z_repr, N z_zip, N z_ValueError, N z_all, N z_any, N z_sum, N z_sorted, N z_list, N z_tuple, N z_dict, N z_enumerate, N z_reversed, N z_str, N z_set⟩
    t_SMALL_LETTERS := t_SMALL_LETTERS
    g_SMALL_LETTERS := PySem.W.mg_of X G y_SMALL_LETTERS
    t_LONGEST_NAME := t_LONGEST_NAME
    g_LONGEST_NAME := PySem.W.mg_of X G y_LONGEST_NAME
    t_ASHORE := t_ASHORE
    g_ASHORE := PySem.W.mg_of X G y_ASHORE
    t_MOST_KEEPERS := t_MOST_KEEPERS
    g_MOST_KEEPERS := PySem.W.mg_of X G y_MOST_KEEPERS
    t_HIGHEST_RANK := t_HIGHEST_RANK
    g_HIGHEST_RANK := PySem.W.mg_of X G y_HIGHEST_RANK
    t_LOWEST_RANK := t_LOWEST_RANK
    g_LOWEST_RANK := PySem.W.mg_of X G y_LOWEST_RANK
    C_History := C_History
    Z_History := ⟨⟨D.pg_History, D.hd_History, D.po_History, D.sa_History⟩, PySem.W.mg_of X G D.n_History, D.kC_History⟩
    n_History_by_day := D.f_History_by_day
    C_Book := C_Book
    Z_Book := ⟨⟨D.pg_Book, D.hd_Book, D.po_Book, D.sa_Book⟩, PySem.W.mg_of X G D.n_Book, D.kC_Book⟩
    n_Book_rank_of := D.f_Book_rank_of
    n_Book_moves := D.f_Book_moves
    n_Book_landings := D.f_Book_landings
    n_Book_latest_known := D.f_Book_latest_known
    I_Book := ⟨D.ca_Book, D.cn, D.ct, D.cm_Book, kit_self, fun t ht => by
      simp only [List.mem_cons, List.not_mem_nil, or_false] at ht
      rcases ht with rfl | rfl | rfl | rfl | rfl | rfl | rfl
      · exact kit_no D.iC_Book D.tC_Book D.kt_Book_NoneType rfl
      · exact kit_no D.iC_Book D.tC_Book D.kt_Book_bool rfl
      · exact kit_no D.iC_Book D.tC_Book D.kt_Book_int rfl
      · exact kit_no D.iC_Book D.tC_Book D.kt_Book_str rfl
      · exact kit_no D.iC_Book D.tC_Book D.kt_Book_list rfl
      · exact kit_no D.iC_Book D.tC_Book D.kt_Book_tuple rfl
      · exact kit_no D.iC_Book D.tC_Book D.kt_Book_dict rfl⟩
    f_History___init__ := fHistory___init__
    d_History___init__ := _
    h_History___init__ := ⟨F_History___init__.fn, F_History___init__.fn.binds fun _ _ _ _ _ _ us hl => match us, hl with | [_], _ => rfl, F_History___init__.me⟩
    M_History := ⟨D.mk_History, F_History___init__.at_, F_History___init__.isf, D.kC_History⟩
    f_History_note := fHistory_note
    d_History_note := _
    h_History_note := ⟨F_History_note.fn, F_History_note.fn.binds fun _ _ _ _ _ _ us hl => match us, hl with | [_, _, _, _], _ => rfl, F_History_note.me⟩
    f_History_all_told := fHistory_all_told
    d_History_all_told := _
    h_History_all_told := ⟨F_History_all_told.fn, F_History_all_told.fn.binds fun _ _ _ _ _ _ us hl => match us, hl with | [_], _ => rfl, F_History_all_told.me⟩
    f_History_told_last := fHistory_told_last
    d_History_told_last := _
    h_History_told_last := ⟨F_History_told_last.fn, F_History_told_last.fn.binds fun _ _ _ _ _ _ us hl => match us, hl with | [_, _, _], _ => rfl, F_History_told_last.me⟩
    f_History_holding := fHistory_holding
    d_History_holding := _
    h_History_holding := ⟨F_History_holding.fn, F_History_holding.fn.binds fun _ _ _ _ _ _ us hl => match us, hl with | [_, _], _ => rfl, F_History_holding.me⟩
    f_Book___init__ := fBook___init__
    d_Book___init__ := _
    h_Book___init__ := ⟨F_Book___init__.fn, F_Book___init__.fn.binds fun _ _ _ _ _ _ us hl => match us, hl with | [_, _], _ => rfl, F_Book___init__.me⟩
    M_Book := ⟨D.mk_Book, F_Book___init__.at_, F_Book___init__.isf, D.kC_Book⟩
    f_Book_ranks := fBook_ranks
    d_Book_ranks := _
    h_Book_ranks := ⟨F_Book_ranks.fn, F_Book_ranks.fn.binds fun _ _ _ _ _ _ us hl => match us, hl with | [_], _ => rfl, F_Book_ranks.me⟩
    f_Book_tell := fBook_tell
    d_Book_tell := _
    h_Book_tell := ⟨F_Book_tell.fn, F_Book_tell.fn.binds fun _ _ _ _ _ _ us hl => match us, hl with | [_, _, _, _, _], _ => rfl, F_Book_tell.me⟩
    f_Book_land := fBook_land
    d_Book_land := _
    h_Book_land := ⟨F_Book_land.fn, F_Book_land.fn.binds fun _ _ _ _ _ _ us hl => match us, hl with | [_, _, _, _, _], _ => rfl, F_Book_land.me⟩
    f_Book_moves_known := fBook_moves_known
    d_Book_moves_known := _
    h_Book_moves_known := ⟨F_Book_moves_known.fn, F_Book_moves_known.fn.binds fun _ _ _ _ _ _ us hl => match us, hl with | [_, _, _], _ => rfl, F_Book_moves_known.me⟩
    f_Book_landings_known := fBook_landings_known
    d_Book_landings_known := _
    h_Book_landings_known := ⟨F_Book_landings_known.fn, F_Book_landings_known.fn.binds fun _ _ _ _ _ _ us hl => match us, hl with | [_, _, _], _ => rfl, F_Book_landings_known.me⟩
    f_Book_twin := fBook_twin
    d_Book_twin := _
    h_Book_twin := ⟨F_Book_twin.fn, F_Book_twin.fn.binds fun _ _ _ _ _ _ us hl => match us, hl with | [_], _ => rfl, F_Book_twin.me⟩
    f_Book___eq__ := fBook___eq__
    d_Book___eq__ := _
    h_Book___eq__ := ⟨F_Book___eq__.fn, F_Book___eq__.fn.binds fun _ _ _ _ _ _ us hl => match us, hl with | [_, _], _ => rfl, F_Book___eq__.me⟩
    Q_Book := ⟨F_Book___eq__.at_, F_Book___eq__.isf, D.ne_Book, D.cm_Book, D.st_Book_NoneType, D.st_Book_bool, D.st_Book_int, D.st_Book_str, D.st_Book_list, D.st_Book_tuple⟩
    f_Book___len__ := fBook___len__
    d_Book___len__ := _
    h_Book___len__ := ⟨F_Book___len__.fn, F_Book___len__.fn.binds fun _ _ _ _ _ _ us hl => match us, hl with | [_], _ => rfl, F_Book___len__.me⟩
    f_Book_where := fBook_where
    d_Book_where := _
    q_Book_where := D_Book_where
    me_Book_where := ⟨F_Book_where.at_, F_Book_where.isf, F_Book_where.kp⟩
    f_Book_landed := fBook_landed
    d_Book_landed := _
    q_Book_landed := D_Book_landed
    me_Book_landed := ⟨F_Book_landed.at_, F_Book_landed.isf, F_Book_landed.kp⟩
    f_is_name := fis_name
    d_is_name := _
    h_is_name := ⟨F_is_name.fn, F_is_name.fn.binds fun _ _ _ _ _ _ us hl => match us, hl with | [_], _ => rfl, PySem.W.mg_of X G F_is_name.ns⟩
    f_is_place := fis_place
    d_is_place := _
    h_is_place := ⟨F_is_place.fn, F_is_place.fn.binds fun _ _ _ _ _ _ us hl => match us, hl with | [_], _ => rfl, PySem.W.mg_of X G F_is_place.ns⟩
    f_is_whole := fis_whole
    d_is_whole := _
    h_is_whole := ⟨F_is_whole.fn, F_is_whole.fn.binds fun _ _ _ _ _ _ us hl => match us, hl with | [_], _ => rfl, PySem.W.mg_of X G F_is_whole.ns⟩
    f_is_from := fis_from
    d_is_from := _
    h_is_from := ⟨F_is_from.fn, F_is_from.fn.binds fun _ _ _ _ _ _ us hl => match us, hl with | [_, _], _ => rfl, PySem.W.mg_of X G F_is_from.ns⟩
    f_is_within := fis_within
    d_is_within := _
    h_is_within := ⟨F_is_within.fn, F_is_within.fn.binds fun _ _ _ _ _ _ us hl => match us, hl with | [_, _, _], _ => rfl, PySem.W.mg_of X G F_is_within.ns⟩
    f_is_day := fis_day
    d_is_day := _
    h_is_day := ⟨F_is_day.fn, F_is_day.fn.binds fun _ _ _ _ _ _ us hl => match us, hl with | [_], _ => rfl, PySem.W.mg_of X G F_is_day.ns⟩
    f_check_day := fcheck_day
    d_check_day := _
    h_check_day := ⟨F_check_day.fn, F_check_day.fn.binds fun _ _ _ _ _ _ us hl => match us, hl with | [_], _ => rfl, PySem.W.mg_of X G F_check_day.ns⟩
    f_check_known := fcheck_known
    d_check_known := _
    h_check_known := ⟨F_check_known.fn, F_check_known.fn.binds fun _ _ _ _ _ _ us hl => match us, hl with | [_], _ => rfl, PySem.W.mg_of X G F_check_known.ns⟩
    f_check_days := fcheck_days
    d_check_days := _
    h_check_days := ⟨F_check_days.fn, F_check_days.fn.binds fun _ _ _ _ _ _ us hl => match us, hl with | [_, _], _ => rfl, PySem.W.mg_of X G F_check_days.ns⟩
    f_check_light := fcheck_light
    d_check_light := _
    h_check_light := ⟨F_check_light.fn, F_check_light.fn.binds fun _ _ _ _ _ _ us hl => match us, hl with | [_], _ => rfl, PySem.W.mg_of X G F_check_light.ns⟩
    f_check_place := fcheck_place
    d_check_place := _
    h_check_place := ⟨F_check_place.fn, F_check_place.fn.binds fun _ _ _ _ _ _ us hl => match us, hl with | [_], _ => rfl, PySem.W.mg_of X G F_check_place.ns⟩
    f_check_number := fcheck_number
    d_check_number := _
    h_check_number := ⟨F_check_number.fn, F_check_number.fn.binds fun _ _ _ _ _ _ us hl => match us, hl with | [_, _], _ => rfl, PySem.W.mg_of X G F_check_number.ns⟩
    f_check_keeper := fcheck_keeper
    d_check_keeper := _
    h_check_keeper := ⟨F_check_keeper.fn, F_check_keeper.fn.binds fun _ _ _ _ _ _ us hl => match us, hl with | [_, _], _ => rfl, PySem.W.mg_of X G F_check_keeper.ns⟩
    f_check_not_early := fcheck_not_early
    d_check_not_early := _
    h_check_not_early := ⟨F_check_not_early.fn, F_check_not_early.fn.binds fun _ _ _ _ _ _ us hl => match us, hl with | [_, _], _ => rfl, PySem.W.mg_of X G F_check_not_early.ns⟩
    f_are_ranks := fare_ranks
    d_are_ranks := _
    h_are_ranks := ⟨F_are_ranks.fn, F_are_ranks.fn.binds fun _ _ _ _ _ _ us hl => match us, hl with | [_], _ => rfl, PySem.W.mg_of X G F_are_ranks.ns⟩
    f_clashes := fclashes
    d_clashes := _
    h_clashes := ⟨F_clashes.fn, F_clashes.fn.binds fun _ _ _ _ _ _ us hl => match us, hl with | [_, _], _ => rfl, PySem.W.mg_of X G F_clashes.ns⟩
    f__law_cell := f_law_cell
    d__law_cell := _
    h__law_cell := ⟨F__law_cell.fn, F__law_cell.fn.binds fun _ _ _ _ _ _ us hl => match us, hl with | [_, _], _ => rfl, PySem.W.mg_of X G F__law_cell.ns⟩
    f__law_pot := f_law_pot
    d__law_pot := _
    h__law_pot := ⟨F__law_pot.fn, F__law_pot.fn.binds fun _ _ _ _ _ _ us hl => match us, hl with | [_, _], _ => rfl, PySem.W.mg_of X G F__law_pot.ns⟩
    f__law_take := f_law_take
    d__law_take := _
    h__law_take := ⟨F__law_take.fn, F__law_take.fn.binds fun _ _ _ _ _ _ us hl => match us, hl with | [_, _], _ => rfl, PySem.W.mg_of X G F__law_take.ns⟩
    f__law_word := f_law_word
    d__law_word := _
    h__law_word := ⟨F__law_word.fn, F__law_word.fn.binds fun _ _ _ _ _ _ us hl => match us, hl with | [_], _ => rfl, PySem.W.mg_of X G F__law_word.ns⟩
    f__law_unlike := f_law_unlike
    d__law_unlike := _
    h__law_unlike := ⟨F__law_unlike.fn, F__law_unlike.fn.binds fun _ _ _ _ _ _ us hl => match us, hl with | [_, _], _ => rfl, PySem.W.mg_of X G F__law_unlike.ns⟩
    f__law_far := f_law_far
    d__law_far := _
    h__law_far := ⟨F__law_far.fn, F__law_far.fn.binds fun _ _ _ _ _ _ us hl => match us, hl with | [_], _ => rfl, PySem.W.mg_of X G F__law_far.ns⟩
    f__law_plan := f_law_plan
    d__law_plan := _
    h__law_plan := ⟨F__law_plan.fn, F__law_plan.fn.binds fun _ _ _ _ _ _ us hl => match us, hl with | [_], _ => rfl, PySem.W.mg_of X G F__law_plan.ns⟩
    f__law_key := f_law_key
    d__law_key := _
    h__law_key := ⟨F__law_key.fn, F__law_key.fn.binds fun _ _ _ _ _ _ us hl => match us, hl with | [_, _, _], _ => rfl, PySem.W.mg_of X G F__law_key.ns⟩
    f__law_worth := f_law_worth
    d__law_worth := _
    h__law_worth := ⟨F__law_worth.fn, F__law_worth.fn.binds fun _ _ _ _ _ _ us hl => match us, hl with | [_, _, _], _ => rfl, PySem.W.mg_of X G F__law_worth.ns⟩
    f__law_pair := f_law_pair
    d__law_pair := _
    h__law_pair := ⟨F__law_pair.fn, F__law_pair.fn.binds fun _ _ _ _ _ _ us hl => match us, hl with | [_, _], _ => rfl, PySem.W.mg_of X G F__law_pair.ns⟩
    f__law_due := f_law_due
    d__law_due := _
    h__law_due := ⟨F__law_due.fn, F__law_due.fn.binds fun _ _ _ _ _ _ us hl => match us, hl with | [_, _], _ => rfl, PySem.W.mg_of X G F__law_due.ns⟩
    f__law_right := f_law_right
    d__law_right := _
    h__law_right := ⟨F__law_right.fn, F__law_right.fn.binds fun _ _ _ _ _ _ us hl => match us, hl with | [_, _, _], _ => rfl, PySem.W.mg_of X G F__law_right.ns⟩
    f__law_stay := f_law_stay
    d__law_stay := _
    h__law_stay := ⟨F__law_stay.fn, F__law_stay.fn.binds fun _ _ _ _ _ _ us hl => match us, hl with | [_, _, _], _ => rfl, PySem.W.mg_of X G F__law_stay.ns⟩
    f_Book_entries := fBook_entries
    d_Book_entries := _
    c_Book_entries := cBook_entries
    p_Book_entries := PBook_entries
    L_Book_entries := F_Book_entries.fn
    lb_Book_entries := F_Book_entries.fn.fn.binds fun _ _ _ _ _ _ us hl => match us, hl with | [_], _ => rfl
    me_Book_entries := F_Book_entries.me
    f_book_of := fbook_of
    d_book_of := _
    c_book_of := cbook_of
    p_book_of := Pbook_of
    L_book_of := F_book_of.fn
    lb_book_of := F_book_of.fn.fn.binds fun _ _ _ _ _ _ us hl => match us, hl with | [_, _], _ => rfl
    gl_book_of := PySem.W.mg_of X G F_book_of.ns
    f__law_book := f_law_book
    d__law_book := _
    c__law_book := c_law_book
    p__law_book := P_law_book
    L__law_book := F__law_book.fn
    lb__law_book := F__law_book.fn.fn.binds fun _ _ _ _ _ _ us hl => match us, hl with | [_, _], _ => rfl
    gl__law_book := PySem.W.mg_of X G F__law_book.ns
    ne_Book_entries_book_of := ne_Book_entries_book_of
    ne_Book_entries__law_book := ne_Book_entries__law_book
    ne_book_of__law_book := ne_book_of__law_book }
  have hT : ∀ p ∈ ([(cBook_entries, PBook_entries), (cbook_of, Pbook_of), (c_law_book, P_law_book)] : List (Addr × Addr)), h.get? p.2 = some { cls := .none, data := .fields #[] } := List.forall_mem_cons.mpr ⟨ht _ tm_Book_entries, List.forall_mem_cons.mpr ⟨ht _ tm_book_of, List.forall_mem_cons.mpr ⟨ht _ tm__law_book, fun _ z => nomatch z⟩⟩⟩
  have nT : ∀ p ∈ ([(cBook_entries, PBook_entries), (cbook_of, Pbook_of), (c_law_book, P_law_book)] : List (Addr × Addr)), K.lookup p.2 = none := List.forall_mem_cons.mpr ⟨F_Book_entries.nP, List.forall_mem_cons.mpr ⟨F_book_of.nP, List.forall_mem_cons.mpr ⟨F__law_book.nP, fun _ z => nomatch z⟩⟩⟩
  have hC : ∀ p ∈ ([(cBook_entries, PBook_entries), (cbook_of, Pbook_of), (c_law_book, P_law_book)] : List (Addr × Addr)), PySem.W.CodeHd h p.1 p.2 := List.forall_mem_cons.mpr ⟨PySem.W.codeHd_of_K X F_Book_entries.hd, List.forall_mem_cons.mpr ⟨PySem.W.codeHd_of_K X F_book_of.hd, List.forall_mem_cons.mpr ⟨PySem.W.codeHd_of_K X F__law_book.hd, fun _ z => nomatch z⟩⟩⟩
  refine ⟨_, _, spLaw K (TLs A), hT, nT, hC, fun s v => .of_eq rfl, fun H a ns hl hH hS => ⟨a, ns, rfl, hS, hl, ?_, fun _ => rfl⟩, fun base _ _ TB => ok_law A ⟨TB _ (.head _), TB _ (.tail _ (.head _)), TB _ (.tail _ (.tail _ (.head _)))⟩ F_law.fn⟩
  show ∀ p ∈ ([(PBook_entries, q_lam_Book_entries), (Pbook_of, q_lam_book_of), (P_law_book, q_lam__law_book)] : List (Addr × Str)), LamX.TabS H p.1 p.2
  exact List.forall_mem_cons.mpr ⟨LamX.TabS.nil (hH _ (.head _)), List.forall_mem_cons.mpr ⟨LamX.TabS.nil (hH _ (.tail _ (.head _))), List.forall_mem_cons.mpr ⟨LamX.TabS.nil (hH _ (.tail _ (.tail _ (.head _)))), fun _ z => nomatch z⟩⟩⟩
end K91
open PySem PySem.W PyProof.Rows
set_option maxHeartbeats 0 in
theorem PySem.Challenge.cw_lightturns_k91_clashes_holds : PySem.Challenge.rw_lightturns_k91_clashes.Holds := by
  w_on; o_law; k_head; (case hw => w_witness2)
  k_fill
  refine LT.end_ofG (l := PySem.Challenge.rw_lightturns_k91_clashes) (n := 63) (k := 15) (x := "_law_script") (CX := fun _ => L2.CX0) rfl (by decide) rfl ⟨rfl, by decide, by decide⟩ (fun w h Y => PySem.W.km_in_of Y) ?F (fun _ _ _ _ _ h => h)
  case F =>
    intro w mg fa h Y KX G hmg
    refine' K91.all_mk (l := PySem.Challenge.rw_lightturns_k91_clashes) (w := w) KX G hmg (PySem.W.km_tabs_of Y) ⟨?d_n_History, ?d_n_Book, ?d_cn, ?d_ct, ?d_pg_History, ?d_hd_History, ?d_po_History, ?d_sa_History, ?d_kC_History, ?d_mk_History, ?d_f_History_by_day, ?d_pg_Book, ?d_hd_Book, ?d_po_Book, ?d_sa_Book, ?d_kC_Book, ?d_mk_Book, ?d_f_Book_rank_of, ?d_f_Book_moves, ?d_f_Book_landings, ?d_f_Book_latest_known, ?d_cm_Book, ?d_ca_Book, ?d_iC_Book, ?d_tC_Book, ?d_kt_Book_NoneType, ?d_kt_Book_bool, ?d_kt_Book_int, ?d_kt_Book_str, ?d_kt_Book_list, ?d_kt_Book_tuple, ?d_kt_Book_dict, ?d_ne_Book, ?d_st_Book_NoneType, ?d_st_Book_bool, ?d_st_Book_int, ?d_st_Book_str, ?d_st_Book_list, ?d_st_Book_tuple⟩ ⟨?m_History___init___at, ?m_History___init___lk, ?m_History___init___cd, ?m_History___init___kp, ?m_History___init___isf⟩ ⟨?m_History_note_at, ?m_History_note_lk, ?m_History_note_cd, ?m_History_note_kp, ?m_History_note_isf⟩ ⟨?m_History_all_told_at, ?m_History_all_told_lk, ?m_History_all_told_cd, ?m_History_all_told_kp, ?m_History_all_told_isf⟩ ⟨?m_History_told_last_at, ?m_History_told_last_lk, ?m_History_told_last_cd, ?m_History_told_last_kp, ?m_History_told_last_isf⟩ ⟨?m_History_holding_at, ?m_History_holding_lk, ?m_History_holding_cd, ?m_History_holding_kp, ?m_History_holding_isf⟩ ⟨?m_Book___init___at, ?m_Book___init___lk, ?m_Book___init___cd, ?m_Book___init___kp, ?m_Book___init___isf⟩ ⟨?m_Book_ranks_at, ?m_Book_ranks_lk, ?m_Book_ranks_cd, ?m_Book_ranks_kp, ?m_Book_ranks_isf⟩ ⟨?m_Book_tell_at, ?m_Book_tell_lk, ?m_Book_tell_cd, ?m_Book_tell_kp, ?m_Book_tell_isf⟩ ⟨?m_Book_land_at, ?m_Book_land_lk, ?m_Book_land_cd, ?m_Book_land_kp, ?m_Book_land_isf⟩ ⟨?m_Book_moves_known_at, ?m_Book_moves_known_lk, ?m_Book_moves_known_cd, ?m_Book_moves_known_kp, ?m_Book_moves_known_isf⟩ ⟨?m_Book_landings_known_at, ?m_Book_landings_known_lk, ?m_Book_landings_known_cd, ?m_Book_landings_known_kp, ?m_Book_landings_known_isf⟩ ⟨?m_Book_twin_at, ?m_Book_twin_lk, ?m_Book_twin_cd, ?m_Book_twin_kp, ?m_Book_twin_isf⟩ ⟨?m_Book___eq___at, ?m_Book___eq___lk, ?m_Book___eq___cd, ?m_Book___eq___kp, ?m_Book___eq___isf⟩ ⟨?m_Book___len___at, ?m_Book___len___lk, ?m_Book___len___cd, ?m_Book___len___kp, ?m_Book___len___isf⟩ ⟨?m_Book_where_at, ?m_Book_where_lk, ?m_Book_where_cd, ?m_Book_where_kp, ?m_Book_where_isf, ?m_Book_where_lT⟩ ⟨?m_Book_landed_at, ?m_Book_landed_lk, ?m_Book_landed_cd, ?m_Book_landed_kp, ?m_Book_landed_isf, ?m_Book_landed_lT⟩ ⟨?l_Book_entries_at, ?l_Book_entries_lk, ?l_Book_entries_cd, ?l_Book_entries_kp, ?l_Book_entries_isf, ?l_Book_entries_lC, ?l_Book_entries_vP, ?l_Book_entries_hd, ?l_Book_entries_nP⟩ ?t_tab_Book_entries ⟨?l_book_of_ns, ?l_book_of_lk, ?l_book_of_cd, ?l_book_of_kp, ?l_book_of_lC, ?l_book_of_vP, ?l_book_of_hd, ?l_book_of_nP⟩ ?t_tab_book_of ⟨?l__law_book_ns, ?l__law_book_lk, ?l__law_book_cd, ?l__law_book_kp, ?l__law_book_lC, ?l__law_book_vP, ?l__law_book_hd, ?l__law_book_nP⟩ ?t_tab__law_book ⟨?f_is_name_ns, ?f_is_name_lk, ?f_is_name_cd, ?f_is_name_kp⟩ ⟨?f_is_place_ns, ?f_is_place_lk, ?f_is_place_cd, ?f_is_place_kp⟩ ⟨?f_is_whole_ns, ?f_is_whole_lk, ?f_is_whole_cd, ?f_is_whole_kp⟩ ⟨?f_is_from_ns, ?f_is_from_lk, ?f_is_from_cd, ?f_is_from_kp⟩ ⟨?f_is_within_ns, ?f_is_within_lk, ?f_is_within_cd, ?f_is_within_kp⟩ ⟨?f_is_day_ns, ?f_is_day_lk, ?f_is_day_cd, ?f_is_day_kp⟩ ⟨?f_check_day_ns, ?f_check_day_lk, ?f_check_day_cd, ?f_check_day_kp⟩ ⟨?f_check_known_ns, ?f_check_known_lk, ?f_check_known_cd, ?f_check_known_kp⟩ ⟨?f_check_days_ns, ?f_check_days_lk, ?f_check_days_cd, ?f_check_days_kp⟩ ⟨?f_check_light_ns, ?f_check_light_lk, ?f_check_light_cd, ?f_check_light_kp⟩ ⟨?f_check_place_ns, ?f_check_place_lk, ?f_check_place_cd, ?f_check_place_kp⟩ ⟨?f_check_number_ns, ?f_check_number_lk, ?f_check_number_cd, ?f_check_number_kp⟩ ⟨?f_check_keeper_ns, ?f_check_keeper_lk, ?f_check_keeper_cd, ?f_check_keeper_kp⟩ ⟨?f_check_not_early_ns, ?f_check_not_early_lk, ?f_check_not_early_cd, ?f_check_not_early_kp⟩ ⟨?f_are_ranks_ns, ?f_are_ranks_lk, ?f_are_ranks_cd, ?f_are_ranks_kp⟩ ⟨?f_clashes_ns, ?f_clashes_lk, ?f_clashes_cd, ?f_clashes_kp⟩ ⟨?f__law_cell_ns, ?f__law_cell_lk, ?f__law_cell_cd, ?f__law_cell_kp⟩ ⟨?f__law_pot_ns, ?f__law_pot_lk, ?f__law_pot_cd, ?f__law_pot_kp⟩ ⟨?f__law_take_ns, ?f__law_take_lk, ?f__law_take_cd, ?f__law_take_kp⟩ ⟨?f__law_word_ns, ?f__law_word_lk, ?f__law_word_cd, ?f__law_word_kp⟩ ⟨?f__law_unlike_ns, ?f__law_unlike_lk, ?f__law_unlike_cd, ?f__law_unlike_kp⟩ ⟨?f__law_far_ns, ?f__law_far_lk, ?f__law_far_cd, ?f__law_far_kp⟩ ⟨?f__law_plan_ns, ?f__law_plan_lk, ?f__law_plan_cd, ?f__law_plan_kp⟩ ⟨?f__law_key_ns, ?f__law_key_lk, ?f__law_key_cd, ?f__law_key_kp⟩ ⟨?f__law_worth_ns, ?f__law_worth_lk, ?f__law_worth_cd, ?f__law_worth_kp⟩ ⟨?f__law_pair_ns, ?f__law_pair_lk, ?f__law_pair_cd, ?f__law_pair_kp⟩ ⟨?f__law_due_ns, ?f__law_due_lk, ?f__law_due_cd, ?f__law_due_kp⟩ ⟨?f__law_right_ns, ?f__law_right_lk, ?f__law_right_cd, ?f__law_right_kp⟩ ⟨?f__law_stay_ns, ?f__law_stay_lk, ?f__law_stay_cd, ?f__law_stay_kp⟩ ⟨?f_law_ns, ?f_law_lk, ?f_law_cd, ?f_law_kp⟩ ?y_SMALL_LETTERS ?y_LONGEST_NAME ?y_ASHORE ?y_MOST_KEEPERS ?y_HIGHEST_RANK ?y_LOWEST_RANK ?z_isinstance ?z_int ?z_bool ?z_len ?z_abs ?z_max ?z_min ?z_divmod ?z_range ?z_repr ?z_zip ?z_ValueError ?z_all ?z_any ?z_sum ?z_sorted ?z_list ?z_tuple ?z_dict ?z_enumerate ?z_reversed ?z_str ?z_set ?n_tab_Book_entries_book_of ?n_tab_Book_entries__law_book ?n_tab_book_of__law_book
    (case d_n_History => k_is)
    (case d_n_Book => k_is)
    (case m_History___init___at => k_is)
    (case m_History_note_at => k_is)
    (case m_History_all_told_at => k_is)
    (case m_History_told_last_at => k_is)
    (case m_History_holding_at => k_is)
    (case m_Book___init___at => k_is)
    (case m_Book_ranks_at => k_is)
    (case m_Book_tell_at => k_is)
    (case m_Book_land_at => k_is)
    (case m_Book_moves_known_at => k_is)
    (case m_Book_landings_known_at => k_is)
    (case m_Book_twin_at => k_is)
    (case m_Book___eq___at => k_is)
    (case m_Book___len___at => k_is)
    (case m_Book_where_at => k_is)
    (case m_Book_landed_at => k_is)
    (case l_Book_entries_at => k_is)
    (case l_book_of_ns => k_is)
    (case l__law_book_ns => k_is)
    (case f_is_name_ns => k_is)
    (case f_is_place_ns => k_is)
    (case f_is_whole_ns => k_is)
    (case f_is_from_ns => k_is)
    (case f_is_within_ns => k_is)
    (case f_is_day_ns => k_is)
    (case f_check_day_ns => k_is)
    (case f_check_known_ns => k_is)
    (case f_check_days_ns => k_is)
    (case f_check_light_ns => k_is)
    (case f_check_place_ns => k_is)
    (case f_check_number_ns => k_is)
    (case f_check_keeper_ns => k_is)
    (case f_check_not_early_ns => k_is)
    (case f_are_ranks_ns => k_is)
    (case f_clashes_ns => k_is)
    (case f__law_cell_ns => k_is)
    (case f__law_pot_ns => k_is)
    (case f__law_take_ns => k_is)
    (case f__law_word_ns => k_is)
    (case f__law_unlike_ns => k_is)
    (case f__law_far_ns => k_is)
    (case f__law_plan_ns => k_is)
    (case f__law_key_ns => k_is)
    (case f__law_worth_ns => k_is)
    (case f__law_pair_ns => k_is)
    (case f__law_due_ns => k_is)
    (case f__law_right_ns => k_is)
    (case f__law_stay_ns => k_is)
    (case f_law_ns => k_is)
    (case y_SMALL_LETTERS => k_is)
    (case y_LONGEST_NAME => k_is)
    (case y_ASHORE => k_is)
    (case y_MOST_KEEPERS => k_is)
    (case y_HIGHEST_RANK => k_is)
    (case y_LOWEST_RANK => k_is)
    (case m_History___init___lk => k_is)
    (case m_History_note_lk => k_is)
    (case m_History_all_told_lk => k_is)
    (case m_History_told_last_lk => k_is)
    (case m_History_holding_lk => k_is)
    (case m_Book___init___lk => k_is)
    (case m_Book_ranks_lk => k_is)
    (case m_Book_tell_lk => k_is)
    (case m_Book_land_lk => k_is)
    (case m_Book_moves_known_lk => k_is)
    (case m_Book_landings_known_lk => k_is)
    (case m_Book_twin_lk => k_is)
    (case m_Book___eq___lk => k_is)
    (case m_Book___len___lk => k_is)
    (case m_Book_where_lk => k_is)
    (case m_Book_landed_lk => k_is)
    (case l_Book_entries_lk => k_is)
    (case l_book_of_lk => k_is)
    (case l__law_book_lk => k_is)
    (case f_is_name_lk => k_is)
    (case f_is_place_lk => k_is)
    (case f_is_whole_lk => k_is)
    (case f_is_from_lk => k_is)
    (case f_is_within_lk => k_is)
    (case f_is_day_lk => k_is)
    (case f_check_day_lk => k_is)
    (case f_check_known_lk => k_is)
    (case f_check_days_lk => k_is)
    (case f_check_light_lk => k_is)
    (case f_check_place_lk => k_is)
    (case f_check_number_lk => k_is)
    (case f_check_keeper_lk => k_is)
    (case f_check_not_early_lk => k_is)
    (case f_are_ranks_lk => k_is)
    (case f_clashes_lk => k_is)
    (case f__law_cell_lk => k_is)
    (case f__law_pot_lk => k_is)
    (case f__law_take_lk => k_is)
    (case f__law_word_lk => k_is)
    (case f__law_unlike_lk => k_is)
    (case f__law_far_lk => k_is)
    (case f__law_plan_lk => k_is)
    (case f__law_key_lk => k_is)
    (case f__law_worth_lk => k_is)
    (case f__law_pair_lk => k_is)
    (case f__law_due_lk => k_is)
    (case f__law_right_lk => k_is)
    (case f__law_stay_lk => k_is)
    (case f_law_lk => k_is)
    (case m_Book_where_lT => k_is)
    (case m_Book_landed_lT => k_is)
    (case l_Book_entries_lC => k_is)
    (case l_book_of_lC => k_is)
    (case l__law_book_lC => k_is)
    (case l_Book_entries_vP => rfl)
    (case l_book_of_vP => rfl)
    (case l__law_book_vP => rfl)
    (case d_cn => k_is)
    (case d_ct => k_is)
    (case d_pg_History => k_is)
    (case d_hd_History => k_is)
    (case d_po_History => k_is)
    (case d_sa_History => k_is)
    (case d_kC_History => k_is)
    (case d_mk_History => k_is)
    (case d_f_History_by_day => k_is)
    (case d_pg_Book => k_is)
    (case d_hd_Book => k_is)
    (case d_po_Book => k_is)
    (case d_sa_Book => k_is)
    (case d_kC_Book => k_is)
    (case d_mk_Book => k_is)
    (case d_f_Book_rank_of => k_is)
    (case d_f_Book_moves => k_is)
    (case d_f_Book_landings => k_is)
    (case d_f_Book_latest_known => k_is)
    (case d_cm_Book => k_is)
    (case d_ca_Book => k_is)
    (case d_iC_Book => k_is)
    (case d_tC_Book => k_is)
    (case d_kt_Book_NoneType => k_is)
    (case d_kt_Book_bool => k_is)
    (case d_kt_Book_int => k_is)
    (case d_kt_Book_str => k_is)
    (case d_kt_Book_list => k_is)
    (case d_kt_Book_tuple => k_is)
    (case d_kt_Book_dict => k_is)
    (case d_ne_Book => k_is)
    (case d_st_Book_NoneType => k_is)
    (case d_st_Book_bool => k_is)
    (case d_st_Book_int => k_is)
    (case d_st_Book_str => k_is)
    (case d_st_Book_list => k_is)
    (case d_st_Book_tuple => k_is)
    (case m_History___init___cd => k_is)
    (case m_History___init___kp => k_is)
    (case m_History___init___isf => k_is)
    (case m_History_note_cd => k_is)
    (case m_History_note_kp => k_is)
    (case m_History_note_isf => k_is)
    (case m_History_all_told_cd => k_is)
    (case m_History_all_told_kp => k_is)
    (case m_History_all_told_isf => k_is)
    (case m_History_told_last_cd => k_is)
    (case m_History_told_last_kp => k_is)
    (case m_History_told_last_isf => k_is)
    (case m_History_holding_cd => k_is)
    (case m_History_holding_kp => k_is)
    (case m_History_holding_isf => k_is)
    (case m_Book___init___cd => k_is)
    (case m_Book___init___kp => k_is)
    (case m_Book___init___isf => k_is)
    (case m_Book_ranks_cd => k_is)
    (case m_Book_ranks_kp => k_is)
    (case m_Book_ranks_isf => k_is)
    (case m_Book_tell_cd => k_is)
    (case m_Book_tell_kp => k_is)
    (case m_Book_tell_isf => k_is)
    (case m_Book_land_cd => k_is)
    (case m_Book_land_kp => k_is)
    (case m_Book_land_isf => k_is)
    (case m_Book_moves_known_cd => k_is)
    (case m_Book_moves_known_kp => k_is)
    (case m_Book_moves_known_isf => k_is)
    (case m_Book_landings_known_cd => k_is)
    (case m_Book_landings_known_kp => k_is)
    (case m_Book_landings_known_isf => k_is)
    (case m_Book_twin_cd => k_is)
    (case m_Book_twin_kp => k_is)
    (case m_Book_twin_isf => k_is)
    (case m_Book___eq___cd => k_is)
    (case m_Book___eq___kp => k_is)
    (case m_Book___eq___isf => k_is)
    (case m_Book___len___cd => k_is)
    (case m_Book___len___kp => k_is)
    (case m_Book___len___isf => k_is)
    (case m_Book_where_cd => k_is)
    (case m_Book_where_kp => k_is)
    (case m_Book_where_isf => k_is)
    (case m_Book_landed_cd => k_is)
    (case m_Book_landed_kp => k_is)
    (case m_Book_landed_isf => k_is)
    (case l_Book_entries_cd => k_is)
    (case l_Book_entries_kp => k_is)
    (case l_Book_entries_isf => k_is)
    (case l_Book_entries_hd => kernel_rfl)
    (case l_Book_entries_nP => kernel_rfl)
    (case t_tab_Book_entries => k_mem)
    (case l_book_of_cd => k_is)
    (case l_book_of_kp => k_is)
    (case l_book_of_hd => kernel_rfl)
    (case l_book_of_nP => kernel_rfl)
    (case t_tab_book_of => k_mem)
    (case l__law_book_cd => k_is)
    (case l__law_book_kp => k_is)
    (case l__law_book_hd => kernel_rfl)
    (case l__law_book_nP => kernel_rfl)
    (case t_tab__law_book => k_mem)
    (case f_is_name_cd => k_is)
    (case f_is_name_kp => k_is)
    (case f_is_place_cd => k_is)
    (case f_is_place_kp => k_is)
    (case f_is_whole_cd => k_is)
    (case f_is_whole_kp => k_is)
    (case f_is_from_cd => k_is)
    (case f_is_from_kp => k_is)
    (case f_is_within_cd => k_is)
    (case f_is_within_kp => k_is)
    (case f_is_day_cd => k_is)
    (case f_is_day_kp => k_is)
    (case f_check_day_cd => k_is)
    (case f_check_day_kp => k_is)
    (case f_check_known_cd => k_is)
    (case f_check_known_kp => k_is)
    (case f_check_days_cd => k_is)
    (case f_check_days_kp => k_is)
    (case f_check_light_cd => k_is)
    (case f_check_light_kp => k_is)
    (case f_check_place_cd => k_is)
    (case f_check_place_kp => k_is)
    (case f_check_number_cd => k_is)
    (case f_check_number_kp => k_is)
    (case f_check_keeper_cd => k_is)
    (case f_check_keeper_kp => k_is)
    (case f_check_not_early_cd => k_is)
    (case f_check_not_early_kp => k_is)
    (case f_are_ranks_cd => k_is)
    (case f_are_ranks_kp => k_is)
    (case f_clashes_cd => k_is)
    (case f_clashes_kp => k_is)
    (case f__law_cell_cd => k_is)
    (case f__law_cell_kp => k_is)
    (case f__law_pot_cd => k_is)
    (case f__law_pot_kp => k_is)
    (case f__law_take_cd => k_is)
    (case f__law_take_kp => k_is)
    (case f__law_word_cd => k_is)
    (case f__law_word_kp => k_is)
    (case f__law_unlike_cd => k_is)
    (case f__law_unlike_kp => k_is)
    (case f__law_far_cd => k_is)
    (case f__law_far_kp => k_is)
    (case f__law_plan_cd => k_is)
    (case f__law_plan_kp => k_is)
    (case f__law_key_cd => k_is)
    (case f__law_key_kp => k_is)
    (case f__law_worth_cd => k_is)
    (case f__law_worth_kp => k_is)
    (case f__law_pair_cd => k_is)
    (case f__law_pair_kp => k_is)
    (case f__law_due_cd => k_is)
    (case f__law_due_kp => k_is)
    (case f__law_right_cd => k_is)
    (case f__law_right_kp => k_is)
    (case f__law_stay_cd => k_is)
    (case f__law_stay_kp => k_is)
    (case f_law_cd => k_is)
    (case f_law_kp => k_is)
    (case z_isinstance => k_is)
    (case z_int => k_is)
    (case z_bool => k_is)
    (case z_len => k_is)
    (case z_abs => k_is)
    (case z_max => k_is)
    (case z_min => k_is)
    (case z_divmod => k_is)
    (case z_range => k_is)
    (case z_repr => k_is)
    (case z_zip => k_is)
    (case z_ValueError => k_is)
    (case z_all => k_is)
    (case z_any => k_is)
    (case z_sum => k_is)
    (case z_sorted => k_is)
    (case z_list => k_is)
    (case z_tuple => k_is)
    (case z_dict => k_is)
    (case z_enumerate => k_is)
    (case z_reversed => k_is)
    (case z_str => k_is)
    (case z_set => k_is)
    (case n_tab_Book_entries_book_of => decide)
    (case n_tab_Book_entries__law_book => decide)
    (case n_tab_book_of__law_book => decide)
