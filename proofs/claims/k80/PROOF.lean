import PyProof.Rows.All
import Wide.All
import OpenK.AllK
import Wide.FinOn
import HandS.ForMost
import HandS.IsInst
import HandS.Wide
import HandS.WideBits
import HandS.EndBits
import HandS.Style
import HandS.RaiseMore
import PyProof.ReprRoads
import PyProof.ListStr
import HandS.ForExc
import HandS.Exc
import HandS.ExcIs
import HandS.CallSlots
import HandS.HotCalls
import HandS.Defaults
import HandS.MakeKw
import HandS.MakeKwOnly
import HandS.Nested
import HandS.ExcInit
import KE.KExcSuper
import HandS.ExcField
import HandS.FStr
import HandS.Words
import KE.KExcIs
import HandS.Walk
import HandS.Flow
import HandS.Zip
import PyProof.EqKinds
import PyProof.NeKinds
import KE.KFmtOwn
import HandS.OwnEq
import KE.DatumOrd
import HandS.FStrTup
import KE.DataMinMax
import HandS.TupMul
import HandS.More
import HandS.DictComp
import HandS.Sort
import HandS.Finally
import HandS.Conv
import PyProof.ListRange
import PyProof.TupleOfStr
import KE.KDictDisplayH
import HandS.MapJoin
import HandS.RevTup
import HandS.Rev
import HandS.SetTxtIn
import PyProof.StrLawsIn
import PyProof.DictUpdate
import HandS.Strs
import HandS.SetKeys
import HandS.Lambda
import KE.SortKeyHeap
import PyProof.TupleOfSeq
import HandS.SetFor
import KE.KDictZip
import HandS.GenList
import PyProof.Rows.SortShellAny
import PyProof.ReprLen
import HandS.EndTab
import HandS.BoundList
import PySem.Challenge.RW_lightturns_k80_stores_by_names
import KE.SortData
set_option Elab.async false
set_option linter.all false
set_option maxRecDepth 100000
/-! Own layer: defs called where no repr is under way (FnG), repr of data, the end of a law by such a def. -/
namespace LT
open PySem PySem.Spec PyProof.Rows L2
structure FnG (P : Program) (w : World) (K : PySem.W.Frag) (mg : Str → Option Value) (base : Heap)
    (CX : CXT) (k : Nat) (f : Addr) (fd : FuncData) (ps : List Str) (sp : Sp) : Prop where
  argc : ∀ {vs : List V} {H : Hp} {Q : VK} {E : XK}, sp vs H Q E → vs.length = ps.length
  go : ∀ {A : Around} {outer : List Env} {s : Shared} {H : Hp} {args : Args} {us : List Value} {vs : List V}
    {Q : VK} {E : XK}, A.guards = some [] → Room k A → Env0 P w K mg base A outer s H →
    BindsTo s fd args (ps.zip us) → Vals vs us → sp vs H Q E →
    codeAny (model P w) A (.call (.ref f) args) (CR CX outer P w H s Q E) s
section
variable {P : Program} {w : World} {K : PySem.W.Frag} {mg : Str → Option Value} {base : Heap}
theorem FnG.of {CX : CXT} {k : Nat} {f : Addr} {fd : FuncData} {ps : List Str} {sp : Sp}
    (F : FnOk P w K mg base CX k f fd ps sp) : FnG P w K mg base CX k f fd ps sp :=
  ⟨fun h => F.len _ _ _ _ h, fun _ hr e b v h => F.run _ _ _ _ _ _ _ _ _ hr e b v h⟩
theorem okG {x qual : Str} {st : Stmt} {f : Addr} {fd : FuncData} {N ps : List Str} {k : Nat} {sp : Sp}
    (F : Fun K x qual st f fd) (S : FnScope N ps (defScope st))
    (argc : ∀ {vs : List V} {H : Hp} {Q : VK} {E : XK}, sp vs H Q E → vs.length = ps.length)
    (body : ∀ (cdv : Value) (A : Around) (outer : List Env) (s : Shared) (H : Hp) (vs : List V) (Q : VK) (E : XK),
      A.guards = some [] → Room k (A.deeper (envOfC qual (defScope st) s.heap.objs.size f cdv)) → sp vs H Q E →
      ∃ t, PSs (cxOf CX0 P w K mg base N qual (defScope st) f cdv A outer s H E).nox (defBody st) t ∧
        t { nx := fun _ H' => Q .non H', rt := Q } (start N vs) H) :
    FnG P w K mg base CX0 (k + 1) f fd ps sp := by
  obtain ⟨oc, od, kV, doc, pm, an, cdv, ct, osl, rfl, lk, hcd⟩ := F.ex
  refine ⟨argc, ?_⟩
  intro A outer s H args us vs Q E hg hr e0 hb r hsp
  have inS : ∀ b o, base.get? b = some o → s.heap.get? b = some o := fun b o e => (e0.bs b o e).1
  have KX : K.In s.heap := e0.mod.kin.keeps inS
  have hkind : ∀ y ∈ ps.zip us, (defScope st).names.lookup y.1 = some .local ∨
      ((defScope st).names.lookup y.1 = some .cell ∧
        ((cellsFrom (s.heap.objs.size + 1) (defScope st).names []).lookup y.1).isSome = true) := by
    rintro ⟨n, v⟩ hy
    rcases S.par n (List.of_mem_zip hy).1 with q | q
    · exact Or.inl q
    · exact Or.inr ⟨q, PySem.W.cellsFrom_some _ _ _ (Or.inl q)⟩
  refine codeAny_call_function hr.depth (KX _ _ lk) rfl S.co S.gen rfl (PySem.W.codeRec_of KX hcd)
    (hb _ _ _ _ (wpAny_newFunctionEnv_cells S.kind hkind fun env he s1 x => ?_))
  subst he
  refine ⟨(e0.mod.nolimit.keeps inS).keeps x.toInCall.keep, codeAny_func ?_⟩
  obtain ⟨t, ht, hq⟩ := body cdv A outer s H vs Q E hg (hr.deeper _) hsp
  have I := inv_start (CX := CX0) (N := N) (qual := qual) (f := f) (cd := cdv) (E := E) S hr.hd e0 (argc hsp) r x
  refine wpAny_mono (ht.nox.run [] s1 (start N vs) H _ I hq) (fun fl s' hs => ?_) (fun e s' hs => hs)
  cases fl with
  | brk => obtain ⟨_, _, _, q⟩ := hs; exact q.elim
  | cont => obtain ⟨_, _, _, q⟩ := hs; exact q.elim
  | next =>
    obtain ⟨σ', H', J, q⟩ := hs
    exact ⟨V.non, H', J.os, J.bare, J.base, J.hok, rfl, q⟩
  | ret u =>
    obtain ⟨v, σ', H', J, rv, q⟩ := hs
    exact ⟨v, H', J.os, J.bare, J.base, J.hok, rv, q⟩
end
/-! ### the call of such a def -/
section
variable {X : Cx} {CX : CXT} {k : Nat} {f : Addr} {fd : FuncData} {ps : List Str} {sp : Sp} {dvs : List V}
  {ds : List Value} {E : XK} {x : Str} {p pos : Pos} {e : Expr} {es : List Expr} {t : TA}
theorem runG {pins : List (Addr × Obj)} {σ : L2.St} {H : Hp} {s : Shared} {Q : VK} {us : List Value} {vs : List V}
    (F : FnG X.prog X.w X.K X.mg X.base CX k f fd ps sp) (hg : X.A.guards = some []) (hr : Room k X.A)
    (hb : Binds X.K fd ps ds) (hd : Vals dvs ds) (hx : Passes CX X E)
    (I : Inv X pins σ H s) (r : Vals vs us) (h : sp (vs ++ dvs) H Q E) :
    wpAny (model X.prog X.w) X.A (call (.ref f) us) (EP X pins σ Q) X.xe s := by
  have r2 : Vals (vs ++ dvs) (us ++ ds) := r.append hd
  have hl : (us ++ ds).length = ps.length := r2.length.symm.trans (F.argc h)
  refine wpAny_call (codeAny_mono (F.go hg hr I.env0 (hb s us I.kIn hl) r2 h) fun r s' hq => ?_)
  match r, hq with
  | .error e, hq => exact hx pins σ H s e s' I hq
  | .ok (.ret u), hq => exact I.after hq
  | .ok .next, hq => exact hq.elim
  | .ok .brk, hq => exact hq.elim
  | .ok .cont, hq => exact hq.elim
theorem pe_callG (F : FnG X.prog X.w X.K X.mg X.base CX k f fd ps sp) (hG : X.A.guards = some []) (hr : Room k X.A)
    (hg : Gl X x) (hm : X.mg x = some (.ref f)) (hk : PySem.W.keepIn X.K (.ref f) = true) (hb : Binds X.K fd ps ds)
    (hd : Vals dvs ds) (hx : Passes CX X E) (ha : PA X (e :: es) t)
    (hdb : (x == ("__debug__" : Str)) = false := by decide)
    (he : starEach (e :: es) X.env = (false, eval e X.env) :: starEach es X.env := by rfl)
    (hpl : (backTo pos (starEach es X.env)).any (·.1) = false := by rfl) :
    PE X (.Call (.Name x p) (e :: es) [] pos) (tCall sp dvs E t) := by
  refine ⟨fun pins s σ H Q I h => wpAny_Call_Name_kw (ld_glob I hg hm ?_ hdb)⟩
  refine PySem.W.callWith_K (h₀ := X.base) I.ok.mod.kin hk ?_ he hpl
  exact thn (ha.run pos pins s σ H _ I h) fun us s1 ⟨vs, H1, I1, r, q⟩ => ⟨I1.kIn, runG F hG hr hb hd hx I1 r q⟩
end
/-! ### repr of data -/
inductive Sh (K : PySem.W.Frag) (H : Hp) : V → PyData → Prop
  | dp {v : V} {d : PyData} : Dp K H v d → d.hasDict = false → Sh K H v d
  | one {a : Addr} {k : Str} {i : Int} : H a = some (.dK [(.inr k, .int i)]) → Sh K H (.ref a) (.dict [(.str k, .int i)])
section
variable {X : Cx} {pins : List (Addr × Obj)} {σ : L2.St} {H : Hp} {s : Shared}
theorem Sh.reads (I : Inv X pins σ H s) {v : V} {d : PyData} {u : Value} (h : Sh X.K H v d) (r : RelV v u) :
    ∃ as, Reads s.heap u d as ∧ (d.hasDict = true → sysModules ∉ as) := by
  cases h with
  | dp h hd =>
    obtain ⟨as, q⟩ := Dp.reads I d v u h r
    exact ⟨as, q, PyData.noDict_hsm hd⟩
  | one h =>
    rename_i a k i
    cases r
    obtain ⟨_, hs, vs, rel, o, es, ep, ho, hx, hd, hko, hp, hn⟩ := I.hok a _ h
    cases rel with
    | cons r1 r2 =>
      cases r2
      rename_i kv
      obtain ⟨kk, uu⟩ := kv
      obtain ⟨e1, t, e2⟩ := r1
      cases e1
      cases e2
      generalize hes : es.toList = l at hp
      cases hp with
      | cons k1 k2 k3 =>
        cases k3
        rename_i e
        have k0 : keyIs (Sum.inr k) e.key = true := k1
        obtain ⟨_, _, z, _⟩ | ⟨y, t', z, e3⟩ := keyIs_shape k0
        · cases z
        · cases z
          refine ⟨_, Reads.dict (as := []) (bs := []) ho hx.1 hd ?_ ?_, fun _ z => ?_⟩
          · rw [hes, List.map_cons, List.map_nil, e3]
            exact ReadsAll.cons (Reads.str _ _) .nil
          · rw [hes, List.map_cons, List.map_nil, k2]
            exact ReadsAll.cons (Reads.int _ _) .nil
          · have z2 : sysModules = a := by simpa using z
            rw [z2] at hs
            simp at hs
end
/-! ### text * number, list(text) -/
/-! ### the end of a law whose def wants that no repr is under way -/
theorem end_call {P : Program} {w : World} {K : PySem.W.Frag} {mg mb : Str → Option Value} {CX : CXT} {k : Nat} {fa a : Addr}
    {fd : FuncData} {x : Str} {sp : Sp} {s₁ : Shared} {vs : List Value} {ns : List Int}
    (KX : K.In s₁.heap) (hns : s₁.heap.Ns mainGlobals mg) (hb : s₁.heap.Ns builtinsNs mb)
    (hbb : ∀ x : Str, x ≠ "__name__" → mb x = bootBuiltins x) (hlim : s₁.heap.NoLimit) (hg : s₁.gens = #[])
    (ha : s₁.heap.get? a = some { cls := .type "list", data := .seq vs.toArray }) (hi : IntsAre vs ns)
    (hl : ns.length ≤ sizeLine) (hr : Room k callerA)
    (F : ∀ base : Heap, K.In base → base.Ns mainGlobals mg → FnG P w K mg base CX k fa fd [x] sp)
    (hbind : ∀ (s : Shared) (u : Value), BindsTo s fd ⟨[u], []⟩ [(x, u)])
    (hsp : ∀ H : Hp, Only H → SqL K H a (ns.map V.int) → sp [.ref a] H (fun v _ => v = .bl true) fun _ _ _ => False)
    (hCX : ∀ H e s', CX [] H s₁ (fun _ _ _ => False) e s' → False) :
    codeAny (model P w) callerA (.call (.ref fa) ⟨[.ref a], []⟩)
      (fun r s' => r = .ok (.ret (.bool true)) ∧ OldK s₁.heap s'.heap ∧ s'.os = s₁.os ∧ AllBare s'.gens) s₁ := by
  have lenV := hi.length
  have start : ∀ H : Hp, Only H → SqL K H a (ns.map V.int) → HOk P w H s₁.heap → (∀ b, H b ≠ none → b = a) →
      (H a ≠ none → K.lookup a = none) → codeAny (model P w) callerA (.call (.ref fa) ⟨[.ref a], []⟩)
        (fun r s' => r = .ok (.ret (.bool true)) ∧ OldK s₁.heap s'.heap ∧ s'.os = s₁.os ∧ AllBare s'.gens) s₁ := by
    intro H hO hS hok hA hK
    have free : ∀ {b : Addr}, (b = a → False) → H b = none := fun {b} hne => by
      cases q : H b with
      | none => rfl
      | some u => exact (hne (hA b (by rw [q]; exact Option.some_ne_none u))).elim
    have nsK : ∀ {b : Addr} {m : Str → Option Value}, s₁.heap.Ns b m → (hidT s₁.heap H).Ns b m := by
      rintro b m ⟨o, es, ep, e, d, r⟩
      refine ⟨o, es, ep, hidT_get e (free fun z => ?_), d, r⟩
      subst z
      rw [ha] at e
      cases e
      cases d
    have inK : K.In (hidT s₁.heap H) := fun b o e => hidT_get (KX b o e) (by
      cases q : H b with
      | none => rfl
      | some u =>
        obtain rfl : b = a := hA b (by rw [q]; exact Option.some_ne_none u)
        have z := hK (by rw [q]; exact Option.some_ne_none u)
        rw [z] at e
        cases e)
    have hM : Mod K mg (hidT s₁.heap H) := ⟨inK, nsK hns, ⟨mb, nsK hb, hbb⟩, hlim.imp fun _ z => ⟨nsK z.1, z.2⟩⟩
    have e0 : Env0 P w K mg (hidT s₁.heap H) callerA [] s₁ H :=
      ⟨rfl, hM, fun b o e => of_hidT e, Nat.le_of_eq (hidT_size _ _), trivial,
        fun b z => absurd (show b ∈ ([] : List Addr) from z) List.not_mem_nil, hok, .of_eq hg⟩
    refine codeAny_mono ((F _ inK (nsK hns)).go (us := [.ref a]) (vs := [.ref a]) rfl hr e0 (hbind s₁ (.ref a)) (.cons rfl .nil) (hsp H hO hS)) fun r s' h => ?_
    match r, h with
    | .error e, h => exact (hCX H e s' h).elim
    | .ok .next, h => exact h.elim
    | .ok .brk, h => exact h.elim
    | .ok .cont, h => exact h.elim
    | .ok (.ret u), h =>
      obtain ⟨v, H', os, bare, un, hok', r', rfl⟩ := h
      obtain rfl : u = Value.bool true := r'
      refine ⟨rfl, OldK.of_keep fun b o e => ?_, os, bare⟩
      rcases hO b with z | ⟨ob, xs, z⟩
      · exact un.keep b o e z (fun y => absurd (show b ∈ ([] : List Addr) from y) List.not_mem_nil) List.not_mem_nil
      · have z1 := (hok b _ z).1
        rw [e] at z1
        cases z1
        exact (hok' b _ (un.frzs b _ _ z)).1
  cases hk : K.lookup a with
  | some o =>
    have e := KX a o hk
    rw [ha] at e
    cases e
    refine start (fun _ => none) (fun _ => .inl rfl) (.inr ⟨_, vs.toArray, _, hk, rfl, rfl, rfl, ?_, by simpa using vals_ints hi⟩)
      (fun b u z => nomatch z) (fun b z => absurd rfl z) fun z => absurd rfl z
    rw [List.size_toArray, lenV]
    exact hl
  | none =>
    refine start (upd (fun _ => none) a (.frz { cls := .type "list", data := .seq vs.toArray } (.lst (ns.map V.int))))
      (fun b => ?_) (.inl (.inr ⟨_, upd_same⟩)) (fun b u z => ?_) (fun b z => ?_) fun _ => hk
    · by_cases q : b = a
      · exact .inr ⟨_, _, by rw [q]; exact upd_same⟩
      · exact .inl (upd_ne q)
    · by_cases q : b = a
      · subst q
        rw [upd_same] at z
        cases z
        exact ⟨ha, by rw [List.length_map]; exact hl, vs, _, vals_ints hi, ha⟩
      · rw [upd_ne q] at z
        cases z
    · by_cases q : b = a
      · exact q
      · exact absurd (upd_ne q) z
theorem end_of {l : PySem.W.OpenLaw} {n k : Nat} {q : Program} {loose : List Str} {XP : (Str → Option Value) → Heap → Prop}
    {YP : World → Heap → Prop} {d : DefRec} {K : Params → PySem.W.Frag} {CX : World → CXT} {sp : World → Sp} {x : Str}
    (hn : l.most = some n) (hn2 : n ≤ sizeLine) (hdf : d.params.defaults = []) (hr : Room k callerA)
    (hY : ∀ (w : World) (h : Heap), YP w h → (K w.params).In h)
    (F : ∀ (w : World) (mg : Str → Option Value) (fa : Addr) (h : Heap), (K w.params).In h → h.Ns mainGlobals mg →
      mg d.name = some (.ref fa) → ∃ fd : FuncData, (∀ (s : Shared) (u : Value), BindsTo s fd ⟨[u], []⟩ [(x, u)]) ∧
        ∀ base : Heap, (K w.params).In base → base.Ns mainGlobals mg →
          FnG l.prog w (K w.params) mg base (CX w) k fa fd [x] (sp w))
    (hsp : ∀ (w : World) (H : Hp) (a : Addr) (ns : List Int), ns.length ≤ n →
      (∀ z ∈ ns, Builtin.Int.intBits z ≤ 1048576) → Only H → SqL (K w.params) H a (ns.map V.int) →
      sp w [.ref a] H (fun v _ => v = .bl true) fun _ _ _ => False)
    (hCX : ∀ (w : World) (H : Hp) (s : Shared) (e : Value) (s' : Shared), CX w [] H s (fun _ _ _ => False) e s' → False) :
    PySem.W.WalkO q loose XP YP l.row.toRowW d [] (fun f vs => PySem.call f vs) :=
  Att.attach_callB hn hdf fun w _ s₁ mg mb fa o pm cd doc a vs ns G Y ho hd hcd hmg hobj hints hlen hbits hg => by
    obtain ⟨fd, hb, hF⟩ := F w mg fa _ (hY w _ Y) G.T.g hmg
    exact end_call (hY w _ Y) G.T.g G.T.b G.T.builtins G.T.nolimit hg hobj hints (Nat.le_trans hlen hn2) hr hF hb
      (fun H hO hS => hsp w H a ns hlen hbits hO hS) fun H e s' => hCX w H s₁ e s'
end LT
set_option Elab.async false
set_option linter.all false
set_option maxRecDepth 100000
/-! Own layer: a def to which the caught error is handed; isinstance of it there. -/
namespace LT
open PySem PySem.Spec PyProof.Rows L2
/-! ### isinstance of the pinned error -/
end LT
set_option Elab.async false
set_option linter.all false
set_option maxRecDepth 100000
set_option maxHeartbeats 1600000
/-! an own error whose __init__ begins with super().__init__(..): the def by its body -/
namespace LT
open PySem PySem.Spec PyProof.Rows L2 NdefX
/-- what the written part says of it -/
structure SupC (K : PySem.W.Frag) (prog : Program) (mg : Str → Option Value) (C cc : Addr) (F : NF) (ar : Arg) : Prop where
  oex : OexC K C
  cl : F.cl = [(("__class__" : Str), cc)]
  cell : ∃ a b c, K.lookup cc = some ⟨a, b, .cell (some (.ref C)), c⟩
  file : ∃ (a : Value) (b : Option Addr) (vs : Array Value) (c : Array (Option Value)) (fl : Str) (tf : Tok), K.lookup F.c = some ⟨a, b, .fields vs, c⟩ ∧ vs[2]? = some (.str fl tf) ∧ ((prog.main.file : Str) == fl) = true
  hsub : PySem.W.mroIn K C (.ref C) = some true
  sup : PySem.W.ks_superIn K C C "__init__" = some (some (.builtin "ValueError.__init__"))
  sB : PySem.W.subIn K (.ref C) (.type "ValueError") = some true
  op : PySem.W.nsIn K cStatics "thirdparty.any" = some none
  hp : (F.params.posonlyargs ++ F.params.args).head? = some ar
  cd : PySem.W.codeIn K (.ref F.c) F.qual = true
  ks : F.scope.names.lookup ("super" : Str) = some .globalImplicit
  top : (prog.main.scope.names.lookup ("super" : Str)).isSome = false
  ms : mg "super" = none
end LT
set_option Elab.async false
set_option linter.all false
set_option maxRecDepth 100000
set_option maxHeartbeats 1600000
/-! Own layer: a def to which a caught error with a field is handed: isinstance of it, its field; repr of lists of data; the __init__ of such errors. -/
namespace LT
open PySem PySem.Spec PyProof.Rows L2 NdefX
/-! ### an own error's __init__(self, field): super().__init__(f".. {field}"); self.field = field -/
abbrev nfI (st : Stmt) (qual : Str) (cc c : Addr) : NF := ⟨"__init__", qual, defArgs st, defBody st, defScope st, [(("__class__" : Str), cc)], c⟩
abbrev arI (st : Stmt) : Arg := ((defArgs st).posonlyargs ++ (defArgs st).args).head!
abbrev LkI (K : PySem.W.Frag) (F : NF) (f : Addr) (fd : FuncData) : Prop := ∃ (oc : Value) (od : Option Addr) (dV kV doc pm : Value) (an : Option Addr) (ct : Value) (osl : Array (Option Value)), fd = PySem.W.fnX F.name F.qual F.params F.body F.scope F.cl dV kV doc pm an (.ref F.c) ct ∧ K.lookup f = some ⟨oc, od, .func fd, osl⟩
/-! ### repr of a list of data, among them dicts without entries -/
inductive Sd (K : PySem.W.Frag) (H : Hp) : V → PyData → Prop
  | dp {v : V} {d : PyData} : Dp K H v d → d.hasDict = false → Sd K H v d
  | ed {a : Addr} : H a = some (.dK []) → Sd K H (.ref a) (.dict [])
theorem Sd.mono {K : PySem.W.Frag} {H H' : Hp} {v : V} {d : PyData} (s : Same H H') (h : Sd K H v d) (hm : Dp K H v d → Dp K H' v d) : Sd K H' v d := by
  cases h with
  | dp h hd => exact .dp (hm h) hd
  | ed h => exact .ed (s _ _ h)
section
variable {X : Cx} {pins : List (Addr × Obj)} {σ : L2.St} {H : Hp} {s : Shared}
theorem Sd.reads (I : Inv X pins σ H s) {v : V} {d : PyData} {u : Value} (h : Sd X.K H v d) (r : RelV v u) :
    ∃ as, Reads s.heap u d as ∧ (d.hasDict = true → sysModules ∉ as) := by
  cases h with
  | dp h hd =>
    obtain ⟨as, q⟩ := Dp.reads I d v u h r
    exact ⟨as, q, PyData.noDict_hsm hd⟩
  | ed h =>
    rename_i a
    cases r
    obtain ⟨_, hs, vs, rel, o, es, ep, ho, hx, hd, hko, hp, hn⟩ := I.hok a _ h
    cases rel
    generalize hes : es.toList = l at hp
    cases hp
    refine ⟨_, Reads.dict (as := []) (bs := []) (kvs := []) ho hx.1 hd ?_ ?_, fun _ z => ?_⟩
    · rw [hes]; exact .nil
    · rw [hes]; exact .nil
    · have z2 : sysModules = a := by simpa using z
      rw [z2] at hs
      simp at hs
theorem Sd.all (I : Inv X pins σ H s) : ∀ {vs : List V} {ds : List PyData} {us : List Value}, Paired (Sd X.K H) vs ds → Vals vs us → PyData.showableAll ds = true → (∀ t ∈ PyData.shownAll ds, t.length ≤ sizeLine) →
    ∃ as bs, ReadsAll s.heap us ds as ∧ ReadAtMost s.heap (PyData.depthAll ds) bs ∧ ReprAllK X.prog X.w bs s.heap (PyData.depthAll ds) us (PyData.shownAll ds)
  | _, _, _, .nil, r, _, _ => by
    cases r
    exact ⟨_, [], .nil, (fun _ h => nomatch h), by simp only [PyData.shownAll]; exact .nil⟩
  | _ :: _, d :: ds, _, .cons h hs, r, sh, hz => by
    cases r with
    | cons r1 r2 =>
      have sh' : d.showable = true ∧ PyData.showableAll ds = true := by simpa [PyData.showableAll] using sh
      obtain ⟨as, q1, n1⟩ := h.reads I r1
      obtain ⟨b1, hb1, k1⟩ := ReprK.of_reads (prog := X.prog) (w := X.w) q1 sh'.1 n1 (hz _ (by simp only [PyData.shownAll]; exact List.mem_cons_self ..))
      obtain ⟨bs, b2, q2, hb2, k2⟩ := Sd.all I hs r2 sh'.2 (fun t ht => hz t (by simp only [PyData.shownAll]; exact List.mem_cons_of_mem _ ht))
      refine ⟨_, b1 ++ b2, .cons q1 q2, ?_, ?_⟩
      · simp only [PyData.depthAll]
        exact (hb1.mono (Nat.le_max_left _ _)).append (hb2.mono (Nat.le_max_right _ _))
      · simp only [PyData.depthAll, PyData.shownAll]
        exact .cons ((k1.more fun b hb => List.mem_append_left _ hb).level_le (Nat.le_max_left _ _)) (k2.more_le (fun b hb => List.mem_append_right _ hb) (Nat.le_max_right _ _))
end
/-! ### keywords in any turn, no defaults -/
end LT
set_option Elab.async false
set_option linter.all false
set_option maxRecDepth 100000
/-! Own layer: shown texts have signs of the alphabet alone (strOk). -/
namespace LT
open PySem PySem.Spec PyProof.Rows L2
end LT
set_option Elab.async false
set_option linter.all false
set_option maxRecDepth 100000
set_option maxHeartbeats 1600000
/-! Own layer: what every law of this program wants: names of defs, things handed in, pots, heaps that grow. -/
namespace LT
open PySem PySem.Spec PyProof.Rows L2 NdefX
/-- names that are still the built-in ones -/
structure Tx (mg : Str → Option Value) : Prop where
  isi : mg "isinstance" = none
  int : mg "int" = none
  bool : mg "bool" = none
  len : mg "len" = none
  abs : mg "abs" = none
  max : mg "max" = none
  min : mg "min" = none
  divmod : mg "divmod" = none
  range : mg "range" = none
  repr : mg "repr" = none
  zip : mg "zip" = none
  ve : mg "ValueError" = none
  all : mg "all" = none
  any : mg "any" = none
  sum : mg "sum" = none
  sorted : mg "sorted" = none
  list : mg "list" = none
  tuple : mg "tuple" = none
  dict : mg "dict" = none
  enumerate : mg "enumerate" = none
  reversed : mg "reversed" = none
  str : mg "str" = none
  set : mg "set" = none
/-- a def that stands as a name of the module -/
structure Has (K : PySem.W.Frag) (mg : Str → Option Value) (x : Str) (ps : List Str) (st : Stmt) (f : Addr) (fd : FuncData) : Prop where
  fn : Fun K x x st f fd
  bd : L2.Binds K fd ps []
  gl : mg x = some (.ref f)
/-- a method of the class at C -/
structure Mth (K : PySem.W.Frag) (C : Addr) (m q : Str) (ps : List Str) (st : Stmt) (f : Addr) (fd : FuncData) : Prop where
  fn : Fun K m q st f fd
  bd : L2.Binds K fd ps []
  me : Meth K C m f
/-- what is handed in -/
inductive Odd (H : Hp) : V → Prop
  | non : Odd H .non
  | bl (b : Bool) : Odd H (.bl b)
  | int (i : Int) : Odd H (.int i)
  | str (z : Str) : Odd H (.str z)
  | lst {a : Addr} {xs : List V} : H a = some (.lst xs) → Odd H (.ref a)
  | tup {a : Addr} {xs : List V} : H a = some (.tup xs) → Odd H (.ref a)
  | dK {a : Addr} {kvs : List (Key × V)} : H a = some (.dK kvs) → Odd H (.ref a)
theorem Odd.mono {H H' : Hp} (s : Same H H') {v : V} (h : Odd H v) : Odd H' v := by
  cases h with
  | non => exact .non
  | bl b => exact .bl b
  | int i => exact .int i
  | str z => exact .str z
  | lst e => exact .lst (s _ _ e)
  | tup e => exact .tup (s _ _ e)
  | dK e => exact .dK (s _ _ e)
def isInt : V → Bool
  | .int _ => true
  | .bl _ => true
  | _ => false
def isBl : V → Bool
  | .bl _ => true
  | _ => false
theorem Odd.ty {K : PySem.W.Frag} {H : Hp} {v : V} (h : Odd H v) : ∃ t, TyX K H v t ∧ PySem.W.kitOne K t (.type "int") = some (isInt v) ∧ PySem.W.kitOne K t (.type "bool") = some (isBl v) := by
  cases h with
  | non => exact ⟨_, .base .non, kit_ty (show kitB "NoneType" "int" = some false by decide +kernel), kit_ty (show kitB "NoneType" "bool" = some false by decide +kernel)⟩
  | bl b => exact ⟨_, .base (.bl b), kit_ty (show kitB "bool" "int" = some true by decide +kernel), kit_ty (show kitB "bool" "bool" = some true by decide +kernel)⟩
  | int i => exact ⟨_, .base (.int i), kit_ty (show kitB "int" "int" = some true by decide +kernel), kit_ty (show kitB "int" "bool" = some false by decide +kernel)⟩
  | str z => exact ⟨_, .base (.str z), kit_ty (show kitB "str" "int" = some false by decide +kernel), kit_ty (show kitB "str" "bool" = some false by decide +kernel)⟩
  | lst e => exact ⟨_, .base (.lst e), kit_ty (show kitB "list" "int" = some false by decide +kernel), kit_ty (show kitB "list" "bool" = some false by decide +kernel)⟩
  | tup e => exact ⟨_, .base (.tup e), kit_ty (show kitB "tuple" "int" = some false by decide +kernel), kit_ty (show kitB "tuple" "bool" = some false by decide +kernel)⟩
  | dK e => exact ⟨_, .base (.dK e), kit_ty (show kitB "dict" "int" = some false by decide +kernel), kit_ty (show kitB "dict" "bool" = some false by decide +kernel)⟩
def wholeB : V → Bool
  | .int _ => true
  | _ => false
theorem whole_eq (v : V) : (isInt v && !isBl v) = wholeB v := by cases v <;> rfl
def fromB : V → Int → Bool
  | .int i, l => decide (l ≤ i)
  | _, _ => false
def withinB : V → Int → Int → Bool
  | .int i, l, m => decide (l ≤ i) && decide (i ≤ m)
  | _, _, _ => false
theorem bool_false {b : Bool} (h : ¬ b = true) : b = false := by cases b <;> first | rfl | exact absurd rfl h
theorem same_upd {H : Hp} {p : Addr} {o : HO} (h : H p = none) : Same H (upd H p o) := fun b x e => by
  rw [upd_ne (ne_of_none e h)]
  exact e
theorem same_app {H H1 : Hp} {p : Addr} {o : HO} (h : H p = none) (s : Same H H1) : Same H (upd H1 p o) := fun b x e => by
  rw [upd_ne (ne_of_none e h)]
  exact s _ _ e
/-- a pot: two numbers -/
def Pot (H : Hp) (p : Addr) : Prop := ∃ a b : Int, H p = some (.lst [.int a, .int b]) ∧ 0 ≤ a ∧ 0 ≤ b ∧ b < 2147483647
/-- all but what stands at p is as it was -/
def SameB (p : Addr) (H H' : Hp) : Prop := ∀ b o, b ≠ p → H b = some o → H' b = some o
theorem SameB.trans {p : Addr} {H H1 H2 : Hp} (a : SameB p H H1) (b : SameB p H1 H2) : SameB p H H2 := fun c o n h => b c o n (a c o n h)
theorem SameB.of {p : Addr} {H H' : Hp} (s : Same H H') : SameB p H H' := fun b o _ e => s b o e
theorem SameB.upd {p : Addr} {H H' : Hp} {o : HO} (s : SameB p H H') : SameB p H (upd H' p o) := fun b x n e => by
  rw [upd_ne n]
  exact s b x n e
theorem SameB.new {p q : Addr} {H H' : Hp} {o : HO} (h : H q = none) (s : SameB p H H') : SameB p H (L2.upd H' q o) := fun b x n e => by
  rw [upd_ne (ne_of_none e h)]
  exact s b x n e
theorem Pot.ne {H : Hp} {p q : Addr} (h : Pot H p) (n : H q = none) : q ≠ p := fun e => by
  obtain ⟨a, b, e1, _⟩ := h
  rw [← e, n] at e1
  cases e1
theorem SameB.none {p q : Addr} {H H1 : Hp} (s : SameB p H H1) (h : Pot H1 p) (n : H1 q = none) : H q = none := by
  cases e : H q with
  | none => rfl
  | some o =>
    rw [s q o (h.ne n) e] at n
    cases n
theorem Pot.upd {H : Hp} {p q : Addr} {o : HO} (h : Pot H p) (n : q ≠ p) : Pot (L2.upd H q o) p := by
  obtain ⟨a, b, e, r⟩ := h
  exact ⟨a, b, by rw [upd_ne n.symm]; exact e, r⟩
theorem Pot.mono {H H' : Hp} {p : Addr} (h : Pot H p) (s : Same H H') : Pot H' p := by
  obtain ⟨a, b, e, r⟩ := h
  exact ⟨a, b, s _ _ e, r⟩
theorem ne_of_pot {H : Hp} {p q : Addr} {o : HO} (h : Pot H p) (e : H q = some o) (n : ∀ a b : Int, o ≠ .lst [.int a, .int b] := by intros; nofun) : q ≠ p := by
  obtain ⟨a, b, ep, _⟩ := h
  exact ne_of e ep (n a b)
theorem sameB_new {p : Addr} {H H1 H2 : Hp} (n : H p = none) (s : Same H H1) (b : SameB p H1 H2) : Same H H2 := fun c o e => b c o (ne_of_none e n) (s c o e)
theorem same_made {H : Hp} {x dx C : Addr} {o : HO} (nx : H x = none) (nd : H dx = none) : Same H (upd (upd H dx (.own x)) x o) := fun b z e => by
  rw [upd_ne (ne_of_none e nx), upd_ne (ne_of_none e nd)]
  exact e
/-- a list of one own error with its field: facts of the class and its __init__ -/
structure Nx (K : PySem.W.Frag) (P : Program) (mg : Str → Option Value) (st : Stmt) (nm q fld : Str) (CN fN cc c : Addr) (fdN : FuncData) : Prop where
  sup : SupC K P mg CN cc (nfI st q cc c) (arI st)
  lk : LkI K (nfI st q cc c) fN fdN
  hno : PySem.W.findIn K (.ref CN) fld = some none
  ini : PySem.W.findIn K (.ref CN) "__init__" = some (some (.ref fN))
  tI : PySem.W.typeIn K (.ref fN) = some (.type "function")
  bd : L2.Binds K fdN ["self", fld] []
  gl : mg nm = some (.ref CN)
/-! ### isinstance, in an except suite, of an error of any class -/
section
variable {X : Cx} {a : Addr} {oe : Obj} {cls : Value} {d : Option Addr}
/-- the error's dict stands -/
def HasD (d : Option Addr) (H : Hp) : Prop := d = none ∨ ∃ (dd : Addr) (fs : List (Str × V)), d = some dd ∧ H dd = some (.xd fs)
theorem HasD.mono {H H' : Hp} (h : HasD d H) (s : Same H H') : HasD d H' := by
  rcases h with h | ⟨dd, fs, e, h⟩
  · exact .inl h
  · exact .inr ⟨dd, fs, e, s _ _ h⟩
end
/-! ### things of all sorts, with their data -/
inductive Th (H : Hp) : V → PyData → Prop
  | non : Th H .non .none
  | bl (b : Bool) : Th H (.bl b) (.bool b)
  | int (i : Int) : i.natAbs ≤ 10 ^ 61 → Th H (.int i) (.int i)
  | str (z : Str) : (PyData.str z).showable = true → (PyData.str z).shown.length ≤ 1921 → PyData.strOk (PyData.str z).shown = true → Th H (.str z) (.str z)
  | lst {a : Addr} (n : Int) : n.natAbs ≤ 10 ^ 61 → H a = some (.lst [.int n]) → Th H (.ref a) (.list [.int n])
  | tup {a : Addr} (n : Int) : n.natAbs ≤ 10 ^ 61 → H a = some (.tup [.int n]) → Th H (.ref a) (.tuple [.int n])
  | dk {a : Addr} : H a = some (.dK []) → Th H (.ref a) (.dict [])
theorem lg61 {i : Int} (h : i.natAbs ≤ 10 ^ 61) : i.natAbs.log2 < 1920 := by
  rcases Nat.eq_zero_or_pos i.natAbs with z | z
  · rw [z]; decide
  · rw [Nat.log2_lt (by omega)]
    exact Nat.lt_of_le_of_lt h (by decide)
theorem tlen61 {i : Int} (h : i.natAbs ≤ 10 ^ 61) : (Str.ofString (toString i)).length ≤ 204 := by
  rw [PySem.ofString_length]
  rcases Nat.eq_zero_or_pos i.natAbs with z | z
  · rw [show i = 0 by omega]; decide
  · have : i.natAbs.log2 < 203 := by
      rw [Nat.log2_lt (by omega)]
      exact Nat.lt_of_le_of_lt h (by decide)
    exact Nat.le_trans (int_text_length_le (k := 203) (by decide) this) (by decide)
theorem Th.monoB {H H' : Hp} {p : Addr} {v : V} {d : PyData} (h : Th H v d) (hp : Pot H p) (s : SameB p H H') : Th H' v d := by
  cases h with
  | non => exact .non
  | bl b => exact .bl b
  | int i hi => exact .int i hi
  | str z a b c => exact .str z a b c
  | lst n hn e => exact .lst n hn (s _ _ (ne_of_pot hp e) e)
  | tup n hn e => exact .tup n hn (s _ _ (ne_of_pot hp e) e)
  | dk e => exact .dk (s _ _ (ne_of_pot hp e) e)
theorem Th.mono {H H' : Hp} {v : V} {d : PyData} (h : Th H v d) (s : Same H H') : Th H' v d := by
  cases h with
  | non => exact .non
  | bl b => exact .bl b
  | int i hi => exact .int i hi
  | str z a b c => exact .str z a b c
  | lst n hn e => exact .lst n hn (s _ _ e)
  | tup n hn e => exact .tup n hn (s _ _ e)
  | dk e => exact .dk (s _ _ e)
theorem Th.upd {H : Hp} {th : Addr} {v : V} {d : PyData} {xs : List V} {o : HO} (h : Th H v d) (ht : H th = some (.lst xs)) (hl : xs.length ≠ 1) : Th (L2.upd H th o) v d := by
  cases h with
  | non => exact .non
  | bl b => exact .bl b
  | int i hi => exact .int i hi
  | str z a b c => exact .str z a b c
  | lst n hn e => exact .lst n hn (by rw [upd_ne (ne_of e ht (by intro z; cases z; exact hl rfl))]; exact e)
  | tup n hn e => exact .tup n hn (by rw [upd_ne (ne_of e ht (by intro z; cases z))]; exact e)
  | dk e => exact .dk (by rw [upd_ne (ne_of e ht (by intro z; cases z))]; exact e)
theorem Th.sd {K : PySem.W.Frag} {H : Hp} {v : V} {d : PyData} (h : Th H v d) : Sd K H v d := by
  cases h with
  | non => exact .dp .non (by simp [PyData.hasDict])
  | bl b => exact .dp (.bl b) (by simp [PyData.hasDict])
  | int i hi => exact .dp (.int i) (by simp [PyData.hasDict])
  | str z a b c => exact .dp (.str _) (by simp [PyData.hasDict])
  | lst n hn e => exact .dp (.lst (SqL.of e) (.cons (.int n) .nil)) (by simp [PyData.hasDict, PyData.hasDictAll])
  | tup n hn e => exact .dp (.tup (SqT.of e) (.cons (.int n) .nil)) (by simp [PyData.hasDict, PyData.hasDictAll])
  | dk e => exact .ed e
theorem shown_one (n : Int) : (PyData.list [.int n]).shown = listText [Str.ofString (toString n)] ∧ (PyData.tuple [.int n]).shown = tupleText [Str.ofString (toString n)] := by
  constructor
  · simp only [PyData.shown, PyData.shownAll]
  · simp only [PyData.shown, PyData.shownAll]
theorem Th.fit {H : Hp} {v : V} {d : PyData} (h : Th H v d) : d.showable = true ∧ d.depth ≤ 1 ∧ d.shown.length ≤ 1921 := by
  cases h with
  | non => exact ⟨by simp [PyData.showable], by simp [PyData.depth], by decide +kernel⟩
  | bl b => cases b <;> exact ⟨by simp [PyData.showable], by simp [PyData.depth], by decide +kernel⟩
  | int i hi => exact ⟨by simpa [PyData.showable] using lg61 hi, by simp [PyData.depth], by simp only [PyData.shown]; exact Nat.le_trans (tlen61 hi) (by decide)⟩
  | str z a b c => exact ⟨a, by simp [PyData.depth], b⟩
  | lst n hn e =>
    refine ⟨by simpa [PyData.showable, PyData.showableAll] using lg61 hn, by simp [PyData.depth, PyData.depthAll], ?_⟩
    rw [(shown_one n).1]
    have := listText_len_le [Str.ofString (toString n)]
    have := tlen61 hn
    simp only [List.map_cons, List.map_nil, List.sum_cons, List.sum_nil, List.length_cons, List.length_nil] at *
    omega
  | tup n hn e =>
    refine ⟨by simpa [PyData.showable, PyData.showableAll] using lg61 hn, by simp [PyData.depth, PyData.depthAll], ?_⟩
    rw [(shown_one n).2]
    have := tupleText_len_le [Str.ofString (toString n)]
    have := tlen61 hn
    simp only [List.map_cons, List.map_nil, List.sum_cons, List.sum_nil, List.length_cons, List.length_nil] at *
    omega
  | dk e => exact ⟨by decide +kernel, by decide +kernel, by decide +kernel⟩
/-! ### xs.count(y), flat things -/
end LT
set_option Elab.async false
set_option linter.all false
set_option maxRecDepth 100000
/-! Own layer: ==, != of instances of a class with its own __eq__; repr, str of such; a method called by keywords. -/
namespace LT
open PySem PySem.Spec PyProof.Rows L2
/-! ### == by an own __eq__ -/
/-! ### x in [y], [y] == [x] -/
/-! ### the same over the layer -/
/-! ### the same, the answer told ahead, the heap as it was -/
/-! ### != by an own __eq__ -/
/-! ### o.m(k = v): a method by keywords alone, what is raised wished for at the slots -/
end LT
set_option Elab.async false
set_option linter.all false
set_option maxRecDepth 100000
set_option maxHeartbeats 1600000
/-! Own layer: enumerate, methods that raise in a try, what is new on the heap, lists of ints. -/
namespace LT
open PySem PySem.Spec PyProof.Rows L2
/-! ### enumerate -/
/-! ### o.m(e, ..), where what it raises is caught -/
/-! ### what is new -/
def new (H H' : Hp) : Hp := fun c => match H c with | none => H' c | some _ => none
theorem new_iff {H H' : Hp} {c : Addr} {o : HO} : new H H' c = some o ↔ H c = none ∧ H' c = some o := by
  unfold new
  cases h : H c with
  | none => simp
  | some x => simp
theorem new_at {H H' : Hp} {c : Addr} {o : HO} (n : H c = none) (e : H' c = some o) : new H H' c = some o := new_iff.mpr ⟨n, e⟩
/-! ### one by place, one by its name -/
/-! ### lists of ints -/
end LT
set_option Elab.async false
set_option linter.all false
set_option maxRecDepth 100000
set_option maxHeartbeats 1600000
/-! Own layer: repr of an own thing whose __repr__ shows a list; a list of ints in an f-string; min of a list of pairs. -/
namespace LT
open PySem PySem.Spec PyProof.Rows L2
/-! ### min of a list of pairs of ints -/
theorem vals_ix : ∀ {vs : List V} {us : List Value}, Vals vs us → ∀ (i : Nat) {v : V} {u : Value}, vs[i]? = some v → us[i]? = some u → RelV v u
  | _, _, .cons r _, 0, _, _, hv, hu => by
    cases hv
    cases hu
    exact r
  | _, _, .cons _ t, i + 1, _, _, hv, hu => vals_ix t i hv hu
end LT
set_option Elab.async false
set_option linter.all false
set_option maxRecDepth 100000
set_option maxHeartbeats 1600000
/-! Own layer, numbers alone: how many are on in a slot; the slots where that may be least; even begins. -/
namespace LT
/-! ### sums -/
/-! ### even begins -/
end LT
set_option Elab.async false
set_option linter.all false
set_option maxRecDepth 100000
set_option maxHeartbeats 1600000
namespace LT
open PySem PySem.Spec PyProof.Rows L2
/-! ### the text of a list of ints -/
end LT
set_option Elab.async false
set_option linter.all false
set_option maxRecDepth 100000
set_option maxHeartbeats 1600000
set_option pp.maxSteps 700
/-! Own layer: a def that shows a list while something else is being shown; repr of a tuple that holds an own thing. -/
namespace LT
open PySem PySem.Spec PyProof.Rows L2
/-- a def that may ask what is being shown -/
structure FnGc (P : Program) (w : World) (K : PySem.W.Frag) (mg : Str → Option Value) (base : Heap)
    (CX : CXT) (k : Nat) (f : Addr) (fd : FuncData) (ps : List Str) (sp : List Code → Sp) : Prop where
  argc : ∀ {g : List Code} {vs : List V} {H : Hp} {Q : VK} {E : XK}, sp g vs H Q E → vs.length = ps.length
  go : ∀ {g : List Code} {A : Around} {outer : List Env} {s : Shared} {H : Hp} {args : Args} {us : List Value} {vs : List V}
    {Q : VK} {E : XK}, A.guards = some g → Room k A → Env0 P w K mg base A outer s H →
    BindsTo s fd args (ps.zip us) → Vals vs us → sp g vs H Q E →
    codeAny (model P w) A (.call (.ref f) args) (CR CX outer P w H s Q E) s
section
variable {P : Program} {w : World} {K : PySem.W.Frag} {mg : Str → Option Value} {base : Heap}
theorem FnGc.toG {CX : CXT} {k : Nat} {f : Addr} {fd : FuncData} {ps : List Str} {sp : List Code → Sp} (F : FnGc P w K mg base CX k f fd ps sp) : FnG P w K mg base CX k f fd ps (sp []) :=
  ⟨fun h => F.argc h, fun hg hr e b v h => F.go hg hr e b v h⟩
theorem okGc {x qual : Str} {st : Stmt} {f : Addr} {fd : FuncData} {N ps : List Str} {k : Nat} {sp : List Code → Sp}
    (F : Fun K x qual st f fd) (S : FnScope N ps (defScope st))
    (argc : ∀ {g : List Code} {vs : List V} {H : Hp} {Q : VK} {E : XK}, sp g vs H Q E → vs.length = ps.length)
    (body : ∀ (g : List Code) (cdv : Value) (A : Around) (outer : List Env) (s : Shared) (H : Hp) (vs : List V) (Q : VK) (E : XK),
      A.guards = some g → Room k (A.deeper (envOfC qual (defScope st) s.heap.objs.size f cdv)) → sp g vs H Q E →
      ∃ t, PSs (cxOf CX0 P w K mg base N qual (defScope st) f cdv A outer s H E).nox (defBody st) t ∧
        t { nx := fun _ H' => Q .non H', rt := Q } (start N vs) H) :
    FnGc P w K mg base CX0 (k + 1) f fd ps sp := by
  obtain ⟨oc, od, kV, doc, pm, an, cdv, ct, osl, rfl, lk, hcd⟩ := F.ex
  refine ⟨argc, ?_⟩
  intro g A outer s H args us vs Q E hg hr e0 hb r hsp
  have inS : ∀ b o, base.get? b = some o → s.heap.get? b = some o := fun b o e => (e0.bs b o e).1
  have KX : K.In s.heap := e0.mod.kin.keeps inS
  have hkind : ∀ y ∈ ps.zip us, (defScope st).names.lookup y.1 = some .local ∨
      ((defScope st).names.lookup y.1 = some .cell ∧
        ((cellsFrom (s.heap.objs.size + 1) (defScope st).names []).lookup y.1).isSome = true) := by
    rintro ⟨n, v⟩ hy
    rcases S.par n (List.of_mem_zip hy).1 with q | q
    · exact Or.inl q
    · exact Or.inr ⟨q, PySem.W.cellsFrom_some _ _ _ (Or.inl q)⟩
  refine codeAny_call_function hr.depth (KX _ _ lk) rfl S.co S.gen rfl (PySem.W.codeRec_of KX hcd)
    (hb _ _ _ _ (wpAny_newFunctionEnv_cells S.kind hkind fun env he s1 x => ?_))
  subst he
  refine ⟨(e0.mod.nolimit.keeps inS).keeps x.toInCall.keep, codeAny_func ?_⟩
  obtain ⟨t, ht, hq⟩ := body g cdv A outer s H vs Q E hg (hr.deeper _) hsp
  have I := inv_start (CX := CX0) (N := N) (qual := qual) (f := f) (cd := cdv) (E := E) S hr.hd e0 (argc hsp) r x
  refine wpAny_mono (ht.nox.run [] s1 (start N vs) H _ I hq) (fun fl s' hs => ?_) (fun e s' hs => hs)
  cases fl with
  | brk => obtain ⟨_, _, _, q⟩ := hs; exact q.elim
  | cont => obtain ⟨_, _, _, q⟩ := hs; exact q.elim
  | next =>
    obtain ⟨σ', H', J, q⟩ := hs
    exact ⟨V.non, H', J.os, J.bare, J.base, J.hok, rfl, q⟩
  | ret u =>
    obtain ⟨v, σ', H', J, rv, q⟩ := hs
    exact ⟨v, H', J.os, J.bare, J.base, J.hok, rv, q⟩
end
section
variable {X : Cx} {C f : Addr} {fd : FuncData} {ps : List Str} {sp : List Code → Sp} {n : Nat}
theorem run_strGc {g : List Code} {A : Around} {pins : List (Addr × Obj)} {σ : L2.St} {H : Hp} {s : Shared} {Q : VK} {a : Addr}
    (F : FnGc X.prog X.w X.K X.mg X.base CX0 n f fd ps sp) (hG : A.guards = some g) (sb : L2.Sub X n A) (hb : L2.Binds X.K fd ps []) (I : Inv X pins σ H s)
    (h : sp g [.ref a] H (fun z H' => ∃ t, z = .str t ∧ Q z H') E0) :
    wpAny (model X.prog X.w) A (call (.ref f) [.ref a]) (PySem.W.StrBack (EP X pins σ Q)) X.xe s := by
  have e0 : Env0 X.prog X.w X.K X.mg X.base A X.stack s H := by
    have e := I.env0
    exact ⟨by rw [sb.fr]; exact e.frames, e.mod, e.bs, e.bsz, e.funs, e.frf, e.hok, e.bare⟩
  have r2 : Vals [V.ref a] [Value.ref a] := .cons rfl .nil
  have hl := F.argc h
  have b := hb s [.ref a] I.kIn (by simpa using hl)
  rw [List.append_nil] at b
  refine wpAny_call (codeAny_mono (F.go (args := ⟨[.ref a], []⟩) (us := [.ref a]) hG sb.room e0 b r2 h) fun r s' hq => ?_)
  match r, hq with
  | .error _, hq => exact hq.elim
  | .ok .next, hq => exact hq.elim
  | .ok .brk, hq => exact hq.elim
  | .ok .cont, hq => exact hq.elim
  | .ok (.ret z), hq =>
    obtain ⟨z', H', I', rz, t, rfl, q⟩ := I.after hq
    obtain ⟨tk, rfl⟩ := rz
    exact ⟨.str t, H', I', ⟨tk, rfl⟩, q⟩
/-! ### {l} in an f-string, l a list of ints that is not being shown -/
end
section
variable {prog : Program} {w : World} {K : PySem.W.Frag} {A : Around} {E : Value → Shared → Prop} {s : Shared} {x C f : Addr} {ox : Obj} {od : Option Obj}
theorem boundBy_ownC {M : Model} {last : Value → List Value → Sem Value} {name : Str} {Q : Option Value → Shared → Prop} (X : K.In s.heap) (I : PySem.W.InstAt s.heap x ox C od)
    (hs : PySem.W.findIn K (.ref C) name = some (some (.ref f))) (hf : PySem.W.isFn K (.ref f) = true)
    (h : wpAny M A (last (.ref f) [.ref x]) (fun v => Q (some v)) E s) : wpAny M A (callSpecialIfBoundBy? last (.ref x) name) Q E s := by
  simp only [callSpecialIfBoundBy?, bindSpecialIfBound?]
  refine wpAny_holding (wpAny_bind (wpAny_bind (wpAny_bind (I.type.here ((PySem.W.looks_findIn X hs).here ?_)))))
  refine wpAny_bind (wpAny_askSetting (wpAny_ite ?_))
  have back : wpAny M A (last (.ref f) [.ref x] >>= fun v => pure (some v)) Q E s := wpAny_bind (wpAny_mono h (fun v s' z => wpAny_pure z) fun _ _ z => z)
  split
  · exact wpAny_bind ((PySem.W.bind_fn X _ (beq_iff_eq.mp hf)).here (wpAny_pure (by exact back)))
  · exact wpAny_tryCatch (wpAny_bind ((PySem.W.bind_fn X _ (beq_iff_eq.mp hf)).here (wpAny_pure (by exact back))))
theorem under_ownC {b : Nat} {Q : Str → Shared → Prop} (hb : b ≤ sizeLine) (hu : A.units < cLine) (X : K.In s.heap) (I : PySem.W.InstAt s.heap x ox C od)
    (hs : PySem.W.findIn K (.ref C) "__repr__" = some (some (.ref f))) (hf : PySem.W.isFn K (.ref f) = true)
    (h : wpAny (model prog w) A (call (.ref f) [.ref x]) (fun v s' => ∃ t u, v = .str t u ∧ Q t s') E s) : wpAny (model prog w) A (pyReprUnder b (.ref x)) Q E s := by
  refine wpAny_pyReprUnder_ref hb ?_
  unfold pyReprObjUnder pyReprObjBy
  refine wpAny_bind (wpAny_cRoomFor hu ?_)
  refine wpAny_bind (wpAny_bind (I.type.here ((PySem.W.looks_findIn X hs).here ?_)))
  show wpAny _ _ (if (some (Value.ref f)).isNone = true then _ else _) _ _ _
  rw [if_neg (by simp)]
  refine wpAny_bind (m := callSpecialIfBoundBy? _ (.ref x) (Str.ofString "__repr__")) (boundBy_ownC X I hs hf (wpAny_mono h (fun r s' hr => ?_) fun _ _ y => y))
  obtain ⟨t, u, rfl, q⟩ := hr
  exact wpAny_bind (wpAny_isInstance (typeIs_str _ _ _) isSubtype_str_str (wpAny_pure ⟨t, u, rfl, q⟩))
end
end LT
set_option Elab.async false
set_option linter.all false
set_option maxRecDepth 100000
set_option maxHeartbeats 1600000
set_option pp.maxSteps 700
/-! Own layer: repr of a list that holds own things and lists of ints; min of two pairs. -/
namespace LT
open PySem PySem.Spec PyProof.Rows L2
theorem sub_guardC {X : Cx} {n : Nat} {A : Around} (sb : L2.Sub X (n + 1) A) (args : Args) : L2.Sub X n (A.under (.builtin "list.__repr__.loop" args)) := by
  have hw : (Code.builtin "list.__repr__.loop" args).weight ≤ 1 := by
    show (Code.builtin "list.__repr__.loop" ⟨[], []⟩).weight ≤ 1
    decide +kernel
  have hc : (Code.builtin "list.__repr__.loop" args).cUnits ≤ 10 := by
    show (Code.builtin "list.__repr__.loop" ⟨[], []⟩).cUnits ≤ 10
    decide +kernel
  have he : (Code.builtin "list.__repr__.loop" args).envs = [] := rfl
  obtain ⟨⟨h1, h2, h3⟩, h4⟩ := sb
  refine ⟨⟨h1, ?_, ?_⟩, ?_⟩
  · show A.depth + _ + 3 * n + 5 < _
    omega
  · show A.units + _ + 16 * n + 200 < _
    omega
  · unfold Around.under
    simp [he, pushEnvs, h4]
/-! ### min of two pairs -/
end LT
set_option Elab.async false
set_option linter.all false
set_option maxRecDepth 100000
set_option maxHeartbeats 1600000
namespace LT
open PySem PySem.Spec PyProof.Rows L2 NdefX
/-! ### one of two readings -/
/-! ### len of an own thing -/
/-! ### an own thing made within a try -/
end LT
set_option Elab.async false
set_option linter.all false
set_option maxRecDepth 100000
set_option maxHeartbeats 1600000
set_option pp.maxSteps 700
/-! Own layer: repr of a tuple of three things, among them lists and tuples of things, and dicts. -/
namespace LT
open PySem PySem.Spec PyProof.Rows L2 NdefX
/-- a thing within a list -/
def Tn (H : Hp) (v : V) (d : PyData) : Prop := Th H v d ∧ d.hasDict = false
theorem Tn.mono {H H' : Hp} {v : V} {d : PyData} (h : Tn H v d) (s : Same H H') : Tn H' v d := ⟨h.1.mono s, h.2⟩
theorem Tn.dp {K : PySem.W.Frag} {H : Hp} {v : V} {d : PyData} (h : Tn H v d) : Dp K H v d := by
  cases h.1.sd (K := K) with
  | dp q _ => exact q
  | ed e => exact absurd h.2 (by simp [PyData.hasDict])
theorem Paired.map {α β : Type} {R S : α → β → Prop} (f : ∀ a b, R a b → S a b) : ∀ {xs : List α} {ys : List β}, Paired R xs ys → Paired S xs ys
  | _, _, .nil => .nil
  | _, _, .cons h r => .cons (f _ _ h) (Paired.map f r)
theorem tn_all {K : PySem.W.Frag} {H : Hp} : ∀ {vs : List V} {ds : List PyData}, Paired (Tn H) vs ds → DpAll K H vs ds
  | _, _, .nil => .nil
  | _, _, .cons h r => .cons h.dp (tn_all r)
theorem tn_no {H : Hp} : ∀ {vs : List V} {ds : List PyData}, Paired (Tn H) vs ds → PyData.hasDictAll ds = false
  | _, _, .nil => by simp [PyData.hasDictAll]
  | _, _, .cons h r => by simp [PyData.hasDictAll, h.2, tn_no r]
theorem tn_fit {H : Hp} : ∀ {vs : List V} {ds : List PyData}, Paired (Tn H) vs ds → PyData.showableAll ds = true ∧ PyData.depthAll ds ≤ 1 ∧ ((PyData.shownAll ds).map (·.length)).sum ≤ 1921 * vs.length ∧ (PyData.shownAll ds).length = vs.length
  | _, _, .nil => ⟨by simp [PyData.showableAll], by simp [PyData.depthAll], by simp [PyData.shownAll], by simp [PyData.shownAll]⟩
  | _, _, .cons h r => by
    obtain ⟨a, b, c⟩ := h.1.fit
    obtain ⟨a', b', c', d'⟩ := tn_fit r
    refine ⟨by simp [PyData.showableAll, a, a'], ?_, ?_, ?_⟩
    · simp only [PyData.depthAll]
      omega
    · simp only [PyData.shownAll, List.map_cons, List.sum_cons, List.length_cons]
      omega
    · simp only [PyData.shownAll, List.length_cons, d']
/-- what is handed to a round -/
inductive Sx (H : Hp) : V → PyData → Prop
  | th {v : V} {d : PyData} : Th H v d → Sx H v d
  | lst {a : Addr} {xs : List V} {ds : List PyData} : H a = some (.lst xs) → xs.length ≤ 100 → Paired (Tn H) xs ds → Sx H (.ref a) (.list ds)
  | tup {a : Addr} {xs : List V} {ds : List PyData} : H a = some (.tup xs) → xs.length ≤ 100 → Paired (Tn H) xs ds → Sx H (.ref a) (.tuple ds)
  | zz {a : Addr} : H a = some (.dK [(.inl 0, .int 0)]) → Sx H (.ref a) (.dict [(.int 0, .int 0)])
theorem Sx.mono {H H' : Hp} {v : V} {d : PyData} (h : Sx H v d) (s : Same H H') : Sx H' v d := by
  cases h with
  | th h => exact .th (h.mono s)
  | lst e l p => exact .lst (s _ _ e) l (Paired.map (fun _ _ h => h.mono s) p)
  | tup e l p => exact .tup (s _ _ e) l (Paired.map (fun _ _ h => h.mono s) p)
  | zz e => exact .zz (s _ _ e)
theorem Sx.fit {H : Hp} {v : V} {d : PyData} (h : Sx H v d) : d.showable = true ∧ d.depth ≤ 2 ∧ d.shown.length ≤ 200000 := by
  cases h with
  | th h =>
    obtain ⟨a, b, c⟩ := h.fit
    exact ⟨a, by omega, by omega⟩
  | lst e l p =>
    rename_i xs ds
    obtain ⟨a, b, c, d⟩ := tn_fit p
    refine ⟨by simpa [PyData.showable] using a, by simp only [PyData.depth]; omega, ?_⟩
    have := listText_len_le (PyData.shownAll ds)
    simp only [PyData.shown]
    omega
  | tup e l p =>
    rename_i xs ds
    obtain ⟨a, b, c, d⟩ := tn_fit p
    refine ⟨by simpa [PyData.showable] using a, by simp only [PyData.depth]; omega, ?_⟩
    have := tupleText_len_le (PyData.shownAll ds)
    simp only [PyData.shown]
    omega
  | zz e => exact ⟨by decide +kernel, by decide +kernel, by decide +kernel⟩
section
variable {X : Cx} {pins : List (Addr × Obj)} {σ : L2.St} {H : Hp} {s : Shared}
theorem Sx.reads (I : Inv X pins σ H s) {v : V} {d : PyData} {u : Value} (h : Sx H v d) (r : RelV v u) :
    ∃ as, Reads s.heap u d as ∧ (d.hasDict = true → sysModules ∉ as) := by
  cases h with
  | th h => exact (h.sd (K := X.K)).reads I r
  | lst e l p =>
    have hd : Dp X.K H _ _ := .lst (SqL.of e) (tn_all p)
    obtain ⟨as, q⟩ := Dp.reads I _ _ u hd r
    exact ⟨as, q, PyData.noDict_hsm (by simpa [PyData.hasDict] using tn_no p)⟩
  | tup e l p =>
    have hd : Dp X.K H _ _ := .tup (SqT.of e) (tn_all p)
    obtain ⟨as, q⟩ := Dp.reads I _ _ u hd r
    exact ⟨as, q, PyData.noDict_hsm (by simpa [PyData.hasDict] using tn_no p)⟩
  | zz h =>
    rename_i a
    cases r
    obtain ⟨_, hs, vs, rel, o, es, ep, ho, hx, hd, hko, hp, hn⟩ := I.hok a _ h
    cases rel with
    | cons r1 r2 =>
      cases r2
      rename_i kv
      obtain ⟨kk, uu⟩ := kv
      obtain ⟨e1, t, e2⟩ := r1
      cases e1
      cases e2
      generalize hes : es.toList = l at hp
      cases hp with
      | cons k1 k2 k3 =>
        cases k3
        rename_i e
        have k0 : keyIs (Sum.inl 0) e.key = true := k1
        obtain ⟨y, t', z, e3⟩ | ⟨_, _, z, _⟩ := keyIs_shape k0
        · cases z
          refine ⟨_, Reads.dict (as := []) (bs := []) ho hx.1 hd ?_ ?_, fun _ z => ?_⟩
          · rw [hes, List.map_cons, List.map_nil, e3]
            exact ReadsAll.cons (Reads.int _ _) .nil
          · rw [hes, List.map_cons, List.map_nil, k2]
            exact ReadsAll.cons (Reads.int _ _) .nil
          · have z2 : sysModules = a := by simpa using z
            rw [z2] at hs
            simp at hs
        · cases z
theorem Sx.all (I : Inv X pins σ H s) : ∀ {vs : List V} {ds : List PyData} {us : List Value}, Paired (Sx H) vs ds → Vals vs us →
    ∃ as bs, ReadsAll s.heap us ds as ∧ ReadAtMost s.heap (PyData.depthAll ds) bs ∧ ReprAllK X.prog X.w bs s.heap (PyData.depthAll ds) us (PyData.shownAll ds)
  | _, _, _, .nil, r => by
    cases r
    exact ⟨_, [], .nil, (fun _ h => nomatch h), by simp only [PyData.shownAll]; exact .nil⟩
  | _ :: _, d :: ds, _, .cons h hs, r => by
    cases r with
    | cons r1 r2 =>
      obtain ⟨f1, f2, f3⟩ := h.fit
      obtain ⟨as, q1, n1⟩ := h.reads I r1
      obtain ⟨b1, hb1, k1⟩ := ReprK.of_reads (prog := X.prog) (w := X.w) q1 f1 n1 (by rw [sizeLine_eq]; omega)
      obtain ⟨bs, b2, q2, hb2, k2⟩ := Sx.all I hs r2
      refine ⟨_, b1 ++ b2, .cons q1 q2, ?_, ?_⟩
      · simp only [PyData.depthAll]
        exact (hb1.mono (Nat.le_max_left _ _)).append (hb2.mono (Nat.le_max_right _ _))
      · simp only [PyData.depthAll, PyData.shownAll]
        exact .cons ((k1.more fun b hb => List.mem_append_left _ hb).level_le (Nat.le_max_left _ _)) (k2.more_le (fun b hb => List.mem_append_right _ hb) (Nat.le_max_right _ _))
end
end LT
set_option Elab.async false
set_option linter.all false
set_option maxRecDepth 100000
set_option maxHeartbeats 1600000
/-! Own layer: what the top of a program has left, put by name, for any law (tools/g.py writes the list of it). -/
namespace LT
open PySem PySem.Spec PyProof.Rows L2 NdefX
/-- an own class -/
structure ClF (K : PySem.W.Frag) (mg : Str → Option Value) (x : Str) (C : Addr) : Prop where
  cl : Cls K C
  gl : mg x = some (.ref C)
  kp : PySem.W.keepIn K (.ref C) = true
/-! ### what the top has left -/
structure Left (K : PySem.W.Frag) (x : Str) (st : Stmt) (f : Addr) (oc : Value) (od an : Option Addr) (kV dc pm cd ct : Value) (sl : Array (Option Value)) : Prop where
  ns : PySem.W.nsIn K mainGlobals x = some (some (.ref f))
  lk : K.lookup f = some ⟨oc, od, .func (PySem.W.fnOf x x (defArgs st) (defBody st) (defScope st) .none kV dc pm an cd ct), sl⟩
  cd : PySem.W.codeIn K cd x = true
  kp : PySem.W.keepIn K (.ref f) = true
theorem Left.fn {K : PySem.W.Frag} {x : Str} {st : Stmt} {f : Addr} {oc : Value} {od an : Option Addr} {kV dc pm cd ct : Value} {sl : Array (Option Value)} (h : Left K x st f oc od an kV dc pm cd ct sl) :
    Fun K x x st f (PySem.W.fnOf x x (defArgs st) (defBody st) (defScope st) .none kV dc pm an cd ct) := fun_mk h.lk h.cd h.kp
structure LeftM (K : PySem.W.Frag) (C : Addr) (x q : Str) (st : Stmt) (f : Addr) (oc : Value) (od an : Option Addr) (kV dc pm cd ct : Value) (sl : Array (Option Value)) : Prop where
  at_ : PySem.W.findIn K (.ref C) x = some (some (.ref f))
  lk : K.lookup f = some ⟨oc, od, .func (PySem.W.fnOf x q (defArgs st) (defBody st) (defScope st) .none kV dc pm an cd ct), sl⟩
  cd : PySem.W.codeIn K cd q = true
  kp : PySem.W.keepIn K (.ref f) = true
  isf : PySem.W.isFn K (.ref f) = true
theorem LeftM.fn {K : PySem.W.Frag} {C : Addr} {x q : Str} {st : Stmt} {f : Addr} {oc : Value} {od an : Option Addr} {kV dc pm cd ct : Value} {sl : Array (Option Value)} (h : LeftM K C x q st f oc od an kV dc pm cd ct sl) :
    Fun K x q st f (PySem.W.fnOf x q (defArgs st) (defBody st) (defScope st) .none kV dc pm an cd ct) := fun_mk h.lk h.cd h.kp
theorem LeftM.me {K : PySem.W.Frag} {C : Addr} {x q : Str} {st : Stmt} {f : Addr} {oc : Value} {od an : Option Addr} {kV dc pm cd ct : Value} {sl : Array (Option Value)} (h : LeftM K C x q st f oc od an kV dc pm cd ct sl) :
    Meth K C x f := ⟨h.at_, h.isf, h.kp⟩
/-- a def with defaults -/
structure LeftD (K : PySem.W.Frag) (x : Str) (st : Stmt) (va : Array Value) (f T : Addr) (oc : Value) (od an : Option Addr) (kV dc pm cd ct : Value) (sl : Array (Option Value)) (oT : Value) (dT : Option Addr) (nT : Nat) (sT : Array (Option Value)) : Prop where
  ns : PySem.W.nsIn K mainGlobals x = some (some (.ref f))
  lk : K.lookup f = some ⟨oc, od, .func (PySem.W.fnOf x x (defArgs st) (defBody st) (defScope st) (.ref T) kV dc pm an cd ct), sl⟩
  cd : PySem.W.codeIn K cd x = true
  kp : PySem.W.keepIn K (.ref f) = true
  lT : K.lookup T = some ⟨oT, dT, .seq va nT, sT⟩
/-- a method with defaults -/
structure LeftMD (K : PySem.W.Frag) (C : Addr) (x q : Str) (st : Stmt) (va : Array Value) (f T : Addr) (oc : Value) (od an : Option Addr) (kV dc pm cd ct : Value) (sl : Array (Option Value)) (oT : Value) (dT : Option Addr) (nT : Nat) (sT : Array (Option Value)) : Prop where
  at_ : PySem.W.findIn K (.ref C) x = some (some (.ref f))
  lk : K.lookup f = some ⟨oc, od, .func (PySem.W.fnOf x q (defArgs st) (defBody st) (defScope st) (.ref T) kV dc pm an cd ct), sl⟩
  cd : PySem.W.codeIn K cd q = true
  kp : PySem.W.keepIn K (.ref f) = true
  isf : PySem.W.isFn K (.ref f) = true
  lT : K.lookup T = some ⟨oT, dT, .seq va nT, sT⟩
end LT
set_option Elab.async false
set_option linter.all false
set_option maxRecDepth 100000
set_option maxHeartbeats 1600000
/-! Own layer: x != y, x an own thing with __eq__, y any thing. -/
namespace LT
open PySem PySem.Spec PyProof.Rows L2 NdefX
end LT
set_option Elab.async false
set_option linter.all false
set_option maxRecDepth 100000
set_option maxHeartbeats 1600000
/-! Own layer: slices as take and drop. -/
namespace LT
open PySem PySem.Spec PyProof.Rows L2 NdefX
theorem sIx_pos {n d : Nat} {i : Int} (h : 0 ≤ i) : HT.sIx n d (some i) = min i.toNat n := by
  show (if i < 0 then (i + (n : Int)).toNat else min i.toNat n) = min i.toNat n
  rw [if_neg (by omega)]
theorem cut_drop {α : Type} (f : α → V) (xs : List α) {i : Int} (h : 0 ≤ i) : cutV (xs.map f) (some i) none = (xs.drop i.toNat).map f := by
  unfold cutV
  rw [HT.sIx_none, sIx_pos h, List.length_map, ← List.map_drop, ← List.map_take]
  congr 1
  by_cases hi : i.toNat ≤ xs.length
  · rw [Nat.min_eq_left hi, List.take_of_length_le (by rw [List.length_drop]; exact Nat.le_refl _)]
  · rw [Nat.min_eq_right (by omega), Nat.sub_self, List.take_zero, List.drop_eq_nil_of_le (by omega)]
end LT
set_option Elab.async false
set_option linter.all false
set_option maxRecDepth 100000
set_option maxHeartbeats 1600000
/-! Own layer: dicts as lists of pairs of keys and worths of any kind; walks over locked dicts. -/
namespace LT
open PySem PySem.Spec PyProof.Rows L2 NdefX
section
variable {κ α : Type} [DecidableEq κ]
def getA (kvs : List (κ × α)) (k : κ) : Option α := (kvs.find? fun p => decide (p.1 = k)).map (·.2)
def putA (kvs : List (κ × α)) (k : κ) (v : α) : List (κ × α) := if (kvs.any fun p => decide (p.1 = k)) = true then kvs.map (fun p => if p.1 = k then (p.1, v) else p) else kvs ++ [(k, v)]
def enA (g : κ → Key) (f : α → V) (kvs : List (κ × α)) : List (Key × V) := kvs.map fun p => (g p.1, f p.2)
theorem enA_len (g : κ → Key) (f : α → V) (kvs : List (κ × α)) : (enA g f kvs).length = kvs.length := List.length_map ..
theorem getA_nil {k : κ} : getA ([] : List (κ × α)) k = none := rfl
theorem getA_pos {p : κ × α} {r : List (κ × α)} {k : κ} (e : p.1 = k) : getA (p :: r) k = some p.2 := by simp [getA, List.find?_cons, e]
theorem getA_neg {p : κ × α} {r : List (κ × α)} {k : κ} (e : ¬ p.1 = k) : getA (p :: r) k = getA r k := by simp [getA, List.find?_cons, e]
theorem getA_any (k : κ) : ∀ kvs : List (κ × α), (kvs.any fun p => decide (p.1 = k)) = (getA kvs k).isSome
  | [] => rfl
  | p :: r => by
    rw [List.any_cons]
    by_cases e : p.1 = k
    · rw [decide_eq_true e, getA_pos e]; rfl
    · rw [decide_eq_false e, getA_neg e, getA_any k r]; rfl
theorem getA_none_iff {k : κ} : ∀ {kvs : List (κ × α)}, getA kvs k = none ↔ k ∉ kvs.map (·.1)
  | [] => by simp [getA_nil]
  | p :: r => by
    by_cases e : p.1 = k
    · rw [getA_pos e]; simp [e]
    · rw [getA_neg e, getA_none_iff, List.map_cons, List.mem_cons]
      constructor
      · intro h h2
        rcases h2 with rfl | h2
        · exact e rfl
        · exact h h2
      · exact fun h h2 => h (.inr h2)
theorem getA_mem {k : κ} {v : α} : ∀ {kvs : List (κ × α)}, getA kvs k = some v → (k, v) ∈ kvs
  | [], h => nomatch h
  | p :: r, h => by
    by_cases e : p.1 = k
    · rw [getA_pos e] at h
      cases h
      subst e
      exact List.mem_cons_self
    · rw [getA_neg e] at h
      exact List.mem_cons_of_mem _ (getA_mem h)
theorem getA_of_mem {k : κ} {v : α} : ∀ {kvs : List (κ × α)}, (kvs.map (·.1)).Nodup → (k, v) ∈ kvs → getA kvs k = some v
  | [], _, h => nomatch h
  | p :: r, nd, h => by
    rw [List.map_cons, List.nodup_cons] at nd
    rcases List.mem_cons.mp h with rfl | h
    · exact getA_pos rfl
    · rw [getA_neg (fun e => nd.1 (e ▸ List.mem_map.mpr ⟨_, h, rfl⟩))]
      exact getA_of_mem nd.2 h
theorem val_en {g : κ → Key} {f : α → V} (hg : ∀ a b, g a = g b → a = b) (k : κ) : ∀ kvs : List (κ × α), valV (enA g f kvs) (g k) = (getA kvs k).map f
  | [] => rfl
  | p :: r => by
    show valV ((g p.1, f p.2) :: enA g f r) (g k) = _
    by_cases e : p.1 = k
    · rw [valV_pos (by rw [e]), getA_pos e]; rfl
    · rw [valV_neg (fun z => e (hg _ _ z)), getA_neg e, val_en hg k r]
theorem put_en {g : κ → Key} {f : α → V} (hg : ∀ a b, g a = g b → a = b) (kvs : List (κ × α)) (k : κ) (v : α) : putK (enA g f kvs) (g k) (f v) = enA g f (putA kvs k v) := by
  have e : ((enA g f kvs).any fun kv => decide (kv.1 = g k)) = (kvs.any fun p => decide (p.1 = k)) := by
    rw [valV_any, val_en hg, getA_any]
    cases getA kvs k <;> rfl
  unfold putK putA
  rw [e]
  split
  · unfold enA
    rw [List.map_map, List.map_map]
    refine List.map_congr_left fun p _ => ?_
    show (if g p.1 = g k then (g p.1, f v) else (g p.1, f p.2)) = (g (if p.1 = k then (p.1, v) else p).1, f (if p.1 = k then (p.1, v) else p).2)
    by_cases h : p.1 = k
    · rw [if_pos (by rw [h]), if_pos h]
    · rw [if_neg (fun z => h (hg _ _ z)), if_neg h]
  · unfold enA
    rw [List.map_append]
    rfl
theorem putA_new {kvs : List (κ × α)} {k : κ} {v : α} (h : getA kvs k = none) : putA kvs k v = kvs ++ [(k, v)] := by
  unfold putA
  rw [getA_any, h]
  rfl
theorem getA_app {k : κ} : ∀ {q rs : List (κ × α)}, k ∉ q.map (·.1) → getA (q ++ rs) k = getA rs k
  | [], _, _ => rfl
  | p :: q, rs, h => by
    rw [List.map_cons, List.mem_cons, not_or] at h
    rw [List.cons_append, getA_neg (fun e => h.1 e.symm), getA_app h.2]
theorem getA_map (k j : κ) (y : α) : ∀ kvs : List (κ × α), getA (kvs.map fun p => if p.1 = k then (p.1, y) else p) j = (getA kvs j).map fun x => if j = k then y else x
  | [] => rfl
  | p :: r => by
    rw [List.map_cons]
    by_cases e : p.1 = k
    · rw [if_pos e]
      by_cases h : p.1 = j
      · rw [getA_pos (p := (p.1, y)) h, getA_pos h, Option.map_some, if_pos (by rw [← h, e])]
      · rw [getA_neg (p := (p.1, y)) h, getA_neg h, getA_map k j y r]
    · rw [if_neg e]
      by_cases h : p.1 = j
      · rw [getA_pos h, getA_pos h, Option.map_some, if_neg (fun z => e (h.trans z))]
      · rw [getA_neg h, getA_neg h, getA_map k j y r]
theorem getA_put (kvs : List (κ × α)) (k j : κ) (y : α) : getA (putA kvs k y) j = if j = k then some y else getA kvs j := by
  by_cases h : getA kvs k = none
  · rw [putA_new h]
    by_cases e : j = k
    · rw [if_pos e, e, getA_app (getA_none_iff.mp h), getA_pos rfl]
    · rw [if_neg e]
      by_cases hj : getA kvs j = none
      · rw [getA_app (getA_none_iff.mp hj), getA_neg (fun z => e z.symm), hj]; rfl
      · obtain ⟨v, hv⟩ := Option.ne_none_iff_exists'.mp hj
        rw [hv]
        clear h hj
        induction kvs with
        | nil => cases hv
        | cons p r ih =>
          by_cases hp : p.1 = j
          · rw [getA_pos hp] at hv
            rw [List.cons_append, getA_pos hp, hv]
          · rw [getA_neg hp] at hv
            rw [List.cons_append, getA_neg hp, ih hv]
  · obtain ⟨v, hv⟩ := Option.ne_none_iff_exists'.mp h
    unfold putA
    rw [getA_any, hv]
    simp only [Option.isSome_some, if_true]
    rw [getA_map]
    by_cases e : j = k
    · rw [if_pos e, e, hv]; simp
    · rw [if_neg e]
      cases getA kvs j <;> simp [e]
theorem keys_put {kvs : List (κ × α)} {k : κ} {v : α} : (putA kvs k v).map (·.1) = if k ∈ kvs.map (·.1) then kvs.map (·.1) else kvs.map (·.1) ++ [k] := by
  by_cases h : k ∈ kvs.map (·.1)
  · rw [if_pos h]
    unfold putA
    rw [if_pos]
    · rw [List.map_map]
      refine List.map_congr_left fun p _ => ?_
      show (if p.1 = k then (p.1, v) else p).1 = p.1
      split <;> rfl
    · obtain ⟨p, hp, rfl⟩ := List.mem_map.mp h
      exact List.any_eq_true.mpr ⟨p, hp, decide_eq_true rfl⟩
  · rw [if_neg h, putA_new (getA_none_iff.mpr h), List.map_append]
    rfl
theorem nodup_put {kvs : List (κ × α)} {k : κ} {v : α} (h : (kvs.map (·.1)).Nodup) : ((putA kvs k v).map (·.1)).Nodup := by
  rw [keys_put]
  split
  · exact h
  · rename_i hk
    rw [List.nodup_append]
    refine ⟨h, List.nodup_cons.mpr ⟨nofun, List.nodup_nil⟩, fun a ha b hb => ?_⟩
    rw [List.mem_singleton.mp hb]
    rintro rfl
    exact hk ha
theorem putA_len {kvs : List (κ × α)} {k : κ} {v : α} : (putA kvs k v).length ≤ kvs.length + 1 := by
  unfold putA
  split
  · rw [List.length_map]; omega
  · rw [List.length_append]; exact Nat.le_refl _
theorem mem_put {kvs : List (κ × α)} {k : κ} {v : α} {p : κ × α} (h : p ∈ putA kvs k v) : p = (k, v) ∨ p ∈ kvs := by
  unfold putA at h
  split at h
  · obtain ⟨q, hq, rfl⟩ := List.mem_map.mp h
    by_cases e : q.1 = k
    · rw [if_pos e]; exact .inl (by rw [e])
    · rw [if_neg e]; exact .inr hq
  · rcases List.mem_append.mp h with h | h
    · exact .inr h
    · exact .inl (List.mem_singleton.mp h)
end
theorem inr_inj : ∀ a b : Str, (Sum.inr a : Key) = Sum.inr b → a = b := fun _ _ e => Sum.inr.inj e
theorem inl_inj : ∀ a b : Int, (Sum.inl a : Key) = Sum.inl b → a = b := fun _ _ e => Sum.inl.inj e
/-- a statement that lets nothing out -/
theorem PS.nox {X : Cx} {st : Stmt} {t : TS} (h : PS X.nox st t) : PS X st t := ⟨fun pins s σ H D I hw =>
  wpAny_mono (h.run pins s σ H D (I.wish _) hw) (fun _ _ q => q.unwish) fun _ _ z => False.elim z⟩
/-- two ways joined -/
theorem joinA {α : Type} {J : α → Hp → Prop} {sl : α → L2.St} {rest : L2.St → Hp → Prop} {goal : Prop} (k : (∀ a Hx, J a Hx → rest (sl a) Hx) → goal) (h : ∀ a Hx, J a Hx → rest (sl a) Hx) : goal := k h
/-! ### walks over locked dicts -/
theorem lock_back {H Hx : Hp} {d : Addr} {u : HO} {od : Obj} (hd : H d = some u) (s : Same (upd H d (.frz od u)) Hx) : Same H (upd Hx d u) := fun b o e => by
  by_cases hb : b = d
  · subst hb
    rw [upd_same, ← e, hd]
  · rw [upd_ne hb]
    exact s _ _ (by rw [upd_ne hb]; exact e)
end LT
set_option Elab.async false
set_option linter.all false
set_option maxRecDepth 100000
set_option maxHeartbeats 1600000
/-! Own layer: sum(d.values()); names; stores (a dict from names to weights). -/
namespace LT
open PySem PySem.Spec PyProof.Rows L2 NdefX
/-! ### sum(d.values()) -/
theorem preSum_take (is : List Int) : ∀ n, preSum (fun i => is.getD i 0) n = (is.take n).sum
  | 0 => by simp [preSum]
  | n + 1 => by
    rw [preSum, preSum_take is n, List.take_add_one, List.sum_append, List.getD_eq_getElem?_getD]
    cases is[n]? with
    | none => simp
    | some x => simp
def tSumVals (td : TE) : TE := fun σ H Q => td σ H fun x H1 => ∃ (a : Addr) (kvs : List (Key × V)) (is : List Int), x = V.ref a ∧ H1 a = some (.dK kvs) ∧ kvs.map (·.2) = is.map V.int ∧ Q (.int is.sum) H1
theorem pe_sumVals {X : Cx} {o : Expr} {p pos apos mpos : Pos} {td : TE} (hc : X.calm = true) (hg : Gl X "sum") (hm : X.mg "sum" = none) (hd : PE X o td) (hbase : attributeBase o "values" X.env (eval o X.env) = eval o X.env := by rfl) (hline : (apos.endLine == mpos.line) = true := by rfl)
    (hse : starEach [Expr.Call (.Attribute o "values" apos) [] [] mpos] X.env = [(false, eval (Expr.Call (.Attribute o "values" apos) [] [] mpos) X.env)] := by rfl) :
    PE X (.Call (.Name "sum" p) [.Call (.Attribute o "values" apos) [] [] mpos] [] pos) (tSumVals td) := by
  refine ⟨fun pins s σ H Q I h => ?_⟩
  refine wpAny_Call_Name_kw (ld_blt I hg hm (u := .builtin "sum") (by first | rfl | decide +kernel) ?_ (by first | decide +kernel | decide) (by first | decide +kernel | decide))
  rw [hse]
  refine PySem.callWith_builtin1 (wpAny_Call_method0_late hbase hline (thn (hd.run pins s σ H _ I h) fun v s1 ⟨x, H1, I1, r1, a, kvs, is, ex, ha, hv, q⟩ => ?_))
  subst ex
  obtain rfl : v = Value.ref a := r1
  obtain ⟨_, hsys, vs, rel, dof⟩ := dk_of I1.hok ha
  obtain ⟨ep, dat⟩ := dof.dictAt
  have dat' := dat
  obtain ⟨ob, es, ho, ex, hdat, hko, hpr, hnd⟩ := dat'
  refine ⟨"dict", "dict.values", F.plainAttrs_dict, F.slot_dict_values, F.type_dict_values, ⟨ob, ho, ex.1⟩, fun b e => ?_, Calls.callWith_builtin rfl (PySem.evalArgs_none ?_)⟩
  · cases e
    exact ⟨ob, ho, ex.2.1⟩
  refine call_meetsIn F.slot_dict_values ⟨ob, ho, ex.1⟩ F.entry_dict_values (F.args_dict_values_1 _) (meets_dict_values (mixKind X.prog X.w) a hsys) ⟨⟨vs, dof⟩, ?_⟩
  have k1 : ∀ b u, s1.heap.get? b = some u → (s1.heap.push { cls := .type "dict_values", data := .fields #[.ref a] }).get? b = some u := fun b u e => Heap.get?_push_of_some _ e
  have dat1 : (s1.heap.push { cls := .type "dict_values", data := .fields #[.ref a] }).DictAt (mixKind X.prog X.w) a vs ep := dat.keep k1
  have hlv : vs.length = is.length := by
    have e1 := congrArg List.length hv
    rw [List.length_map, List.length_map] at e1
    rw [← e1]
    exact (KV.length rel).symm
  have hval : ∀ (i : Nat) (v : Value), (∃ k, vs[i]? = some (k, v)) → ∃ t, v = Value.int (is.getD i 0) t := fun i v ⟨k, hk⟩ => by
    obtain ⟨x, h1, h2⟩ := KV.at' rel hk
    have e1 : (kvs.map (·.2))[i]? = some x := by rw [List.getElem?_map, h1] <;> rfl
    rw [hv, List.getElem?_map] at e1
    obtain ⟨j, hj, e2⟩ := Option.map_eq_some_iff.mp e1
    subst e2
    obtain ⟨t, e3⟩ := h2
    refine ⟨t, ?_⟩
    rw [e3, List.getD_eq_getElem?_getD, hj] <;> rfl
  refine call_sum_walkG (wpAny_pyIter_values (v := s1.heap.objs.size) (d := a) ⟨_, Heap.get?_push_size _ rfl, rfl, rfl⟩ dat1 ?_)
  have hlt : a < s1.heap.objs.size := Heap.lt_size ho
  have hsz : (s1.heap.push { cls := .type "dict_values", data := .fields #[.ref a] }).objs.size = s1.heap.objs.size + 1 := Heap.size_push _ _
  refine ⟨_, _, _, _, _, _, (fun i => is.getD i 0), rfl, Walks.dictValues (knd := mixKind X.prog X.w) (A := X.A.in1) (I.ok.hd hc) (s1.heap.push { cls := .type "dict_values", data := .fields #[.ref a] }).objs.size a (by rw [hsz]; exact Nat.ne_of_lt (Nat.lt_succ_of_lt hlt)) vs ep,
    ⟨⟨_, Heap.get?_push_size _ rfl, rfl, rfl⟩, dat1.keep fun b u e => Heap.get?_push_of_some _ e⟩, fun b hb => ?_, hval, fun h' tk t' hk => ?_⟩
  · show b < ((s1.heap.push _).push _).objs.size
    rw [Heap.size_push, Heap.size_push]
    rw [hsz] at hb
    rcases List.mem_cons.mp hb with e | hb
    · rw [e]
      exact Nat.lt_succ_self _
    · have e : b = a := List.mem_singleton.mp hb
      rw [e]
      exact Nat.lt_succ_of_lt (Nat.lt_succ_of_lt hlt)
  · have es : preSum (fun i => is.getD i 0) vs.length = is.sum := by rw [preSum_take, hlv, List.take_length]
    rw [es]
    refine ⟨.int _, H1, I1.kept (t' := tk) fun b u e => hk b u (fun hmem => ?_) (Heap.get?_push_of_some _ (k1 b u e)), ⟨_, rfl⟩, q⟩
    have e1 : b = (s1.heap.push { cls := .type "dict_values", data := .fields #[.ref a] }).objs.size := List.mem_singleton.mp hmem
    have e2 := Heap.lt_size e
    rw [hsz] at e1
    rw [e1] at e2
    exact absurd e2 (Nat.not_lt.mpr (Nat.le_succ _))
/-! ### names -/
def small (c : Nat) : Bool := decide (97 ≤ c) && decide (c ≤ 122)
def nameB : V → Bool
  | .str z => decide (1 ≤ z.length) && decide (z.length ≤ 8) && z.cps.toList.all small
  | _ => false
theorem letters : (Str.ofString "abcdefghijklmnopqrstuvwxyz").cps.toList = List.range' 97 26 := by decide +kernel
theorem small_mem (c : Nat) : decide (c ∈ (Str.ofString "abcdefghijklmnopqrstuvwxyz").cps.toList) = small c := by
  rw [letters]
  unfold small
  rw [Bool.eq_iff_iff, decide_eq_true_iff, List.mem_range'_1, Bool.and_eq_true, decide_eq_true_iff, decide_eq_true_iff]
  omega
theorem take_more {α β : Type} (f : α → β) {xs : List α} {i : Nat} {x : α} (h : xs[i]? = some x) : (xs.take i).map f ++ [f x] = (xs.take (i + 1)).map f := by
  rw [List.take_add_one, h, List.map_append]
  rfl
theorem joinL_nil : ∀ l : List (List Nat), TL.joinL [] l = l.flatten
  | [] => rfl
  | [p] => by simp [TL.joinL]
  | p :: q :: r => by
    show p ++ ([] ++ TL.joinL [] (q :: r)) = _
    rw [joinL_nil (q :: r)]
    rfl
theorem join_codes (ys : List Str) : (Txt.join (Str.ofString "") ys).cps.toList = (ys.map fun y => y.cps.toList).flatten := by
  rw [TL.join_eq]
  have h := TL.tl_join (Str.ofString "") ys
  have e : TL.tl (Str.ofString "") = [] := by decide +kernel
  rw [e, joinL_nil] at h
  exact h
theorem flat_len : ∀ (ys : List Str), (∀ y ∈ ys, y.length = 1) → (ys.map fun y => y.cps.toList).flatten.length = ys.length
  | [], _ => rfl
  | y :: ys, h => by
    rw [List.map_cons, List.flatten_cons, List.length_append, flat_len ys fun z hz => h z (List.mem_cons_of_mem _ hz), Array.length_toList, List.length_cons]
    have : y.cps.size = 1 := h y List.mem_cons_self
    omega
theorem sum_len : ∀ (ys : List Str), (∀ y ∈ ys, y.length = 1) → (ys.map fun y => y.length).sum = ys.length
  | [], _ => rfl
  | y :: ys, h => by
    rw [List.map_cons, List.sum_cons, sum_len ys fun z hz => h z (List.mem_cons_of_mem _ hz), h y List.mem_cons_self, List.length_cons]
    omega
/-- a name -/
structure Nm (z : Str) : Prop where
  l1 : 1 ≤ z.length
  l8 : z.length ≤ 8
  al : ∀ c ∈ z.cps.toList, small c = true
theorem Nm.b {z : Str} (h : Nm z) : nameB (.str z) = true := by
  show (decide (1 ≤ z.length) && decide (z.length ≤ 8) && z.cps.toList.all small) = true
  rw [decide_eq_true h.l1, decide_eq_true h.l8, List.all_eq_true.mpr h.al]
  rfl
/-! ### stores -/
def sd (kvs : List (Str × Int)) : List (Key × V) := kvs.map fun p => (Sum.inr p.1, V.int p.2)
def wsum (kvs : List (Str × Int)) : Int := (kvs.map (·.2)).sum
structure Kv (kvs : List (Str × Int)) : Prop where
  nd : (kvs.map (·.1)).Nodup
  nm : ∀ p ∈ kvs, Nm p.1
  w1 : ∀ p ∈ kvs, 1 ≤ p.2
  w2 : ∀ p ∈ kvs, p.2 ≤ 10 ^ 70
theorem sd_vals (kvs : List (Str × Int)) : (sd kvs).map (·.2) = (kvs.map (·.2)).map V.int := by
  unfold sd
  rw [List.map_map, List.map_map]
  rfl
theorem sd_keys (kvs : List (Str × Int)) : (sd kvs).map (·.1) = (kvs.map (·.1)).map Sum.inr := by
  unfold sd
  rw [List.map_map, List.map_map]
  rfl
theorem sd_len (kvs : List (Str × Int)) : (sd kvs).length = kvs.length := List.length_map ..
def putS (kvs : List (Str × Int)) (z : Str) (w : Int) : List (Str × Int) := if z ∈ kvs.map (·.1) then kvs.map fun p => if p.1 = z then (p.1, w) else p else kvs ++ [(z, w)]
theorem Kv.put {kvs : List (Str × Int)} {z : Str} {w : Int} (h : Kv kvs) (hz : Nm z) (h1 : 1 ≤ w) (h2 : w ≤ 10 ^ 70) : Kv (putS kvs z w) ∧ (putS kvs z w).length ≤ kvs.length + 1 := by
  unfold putS
  by_cases hm : z ∈ kvs.map (·.1)
  · rw [if_pos hm]
    have ek : (kvs.map fun p => if p.1 = z then (p.1, w) else p).map (·.1) = kvs.map (·.1) := by
      rw [List.map_map]
      refine List.map_congr_left fun p _ => ?_
      show (if p.1 = z then (p.1, w) else p).1 = p.1
      split <;> rfl
    have mem : ∀ q ∈ (kvs.map fun p => if p.1 = z then (p.1, w) else p), (∃ p ∈ kvs, q.1 = p.1) ∧ (q.2 = w ∨ q ∈ kvs) := by
      intro q hq
      obtain ⟨p, hp, rfl⟩ := List.mem_map.mp hq
      by_cases e : p.1 = z
      · rw [if_pos e]
        exact ⟨⟨p, hp, rfl⟩, .inl rfl⟩
      · rw [if_neg e]
        exact ⟨⟨p, hp, rfl⟩, .inr hp⟩
    refine ⟨⟨by rw [ek]; exact h.nd, fun q hq => ?_, fun q hq => ?_, fun q hq => ?_⟩, by rw [List.length_map]; omega⟩
    · obtain ⟨⟨p, hp, e⟩, _⟩ := mem q hq
      rw [e]
      exact h.nm p hp
    · rcases (mem q hq).2 with e | e
      · omega
      · exact h.w1 q e
    · rcases (mem q hq).2 with e | e
      · omega
      · exact h.w2 q e
  · rw [if_neg hm]
    refine ⟨⟨?_, fun q hq => ?_, fun q hq => ?_, fun q hq => ?_⟩, by rw [List.length_append]; exact Nat.le_refl _⟩
    · rw [List.map_append]
      refine List.nodup_append.mpr ⟨h.nd, by simp, fun a ha b hb e => ?_⟩
      have e2 : b = z := by simpa using hb
      rw [e, e2] at ha
      exact hm ha
    · rcases List.mem_append.mp hq with e | e
      · exact h.nm q e
      · rw [List.mem_singleton.mp e]; exact hz
    · rcases List.mem_append.mp hq with e | e
      · exact h.w1 q e
      · rw [List.mem_singleton.mp e]; exact h1
    · rcases List.mem_append.mp hq with e | e
      · exact h.w2 q e
      · rw [List.mem_singleton.mp e]; exact h2
theorem Kv.nil : Kv [] := ⟨List.nodup_nil, (fun _ h => nomatch h), (fun _ h => nomatch h), (fun _ h => nomatch h)⟩
theorem wsum_nonneg : ∀ {kvs : List (Str × Int)}, (∀ p ∈ kvs, 1 ≤ p.2) → 0 ≤ wsum kvs
  | [], _ => Int.le_refl _
  | p :: r, h => by
    have := wsum_nonneg (kvs := r) fun q hq => h q (List.mem_cons_of_mem _ hq)
    have := h p List.mem_cons_self
    unfold wsum at *
    rw [List.map_cons, List.sum_cons]
    omega
theorem wsum_le : ∀ {kvs : List (Str × Int)}, (∀ p ∈ kvs, p.2 ≤ 10 ^ 70) → wsum kvs ≤ kvs.length * 10 ^ 70
  | [], _ => Int.le_refl _
  | p :: r, h => by
    have := wsum_le (kvs := r) fun q hq => h q (List.mem_cons_of_mem _ hq)
    have := h p List.mem_cons_self
    unfold wsum at *
    rw [List.map_cons, List.sum_cons, List.length_cons]
    omega
/-- stores, None as none -/
inductive StV (H : Hp) : V → Int → Prop
  | non : StV H .non 0
  | dict {d : Addr} {kvs : List (Str × Int)} : H d = some (.dK (sd kvs)) → Kv kvs → kvs.length ≤ 8 → StV H (.ref d) (wsum kvs)
theorem StV.mono {H H' : Hp} {v : V} {k : Int} (h : StV H v k) (s : Same H H') : StV H' v k := by
  cases h with
  | non => exact .non
  | dict e k l => exact .dict (s _ _ e) k l
theorem StV.bd {H : Hp} {v : V} {k : Int} (h : StV H v k) : 0 ≤ k ∧ k ≤ 10 ^ 71 := by
  cases h with
  | non => exact ⟨by omega, by omega⟩
  | dict e k l =>
    have := wsum_nonneg k.w1
    have := wsum_le k.w2
    constructor
    · omega
    · omega
end LT
set_option Elab.async false
set_option linter.all false
set_option maxRecDepth 100000
set_option maxHeartbeats 1600000
/-! Own layer: comprehensions within comprehensions, dict comprehensions, tables of rows (dicts from letters to numbers). -/
namespace LT
open PySem PySem.Spec PyProof.Rows L2 NdefX
/-! ### comprehensions within comprehensions -/
section
variable {J : It} {n : Nat} {G : Hp → Prop} {Y : Nat → Hp → V → Hp → Prop}
/-- a dict comprehension over a walk -/
theorem dc_it (w : Walk J n G Y) {g : TG} {tt : TT} {tk tv : TE} {vs : List Nat} {σ : L2.St} {H1 : Hp} {D : Addr} {Qd : Hp → Prop} (Pv : Nat → Hp → Prop) (h0 : Pv 0 (upd H1 D (.dK []))) (hG : ∀ i H, i ≤ n → Pv i H → G H)
    (hs : ∀ i x H H', i < n → Pv i H → Y i H x H' → g x (wipe σ vs) H' fun σ2 H2 => wipe σ2 vs = wipe σ vs ∧ tt σ2 H2 fun b H3 =>
      if b = true then tk σ2 H3 fun y H4 => tv σ2 H4 fun z H5 => ∃ kvs k, y = kV k ∧ H5 D = some (.dK kvs) ∧ kvs.length < sizeLine ∧ Pv (i + 1) (upd H5 D (.dK (putK kvs k z))) else Pv (i + 1) H3) (hd : ∀ H, Pv n H → Qd H) :
    ∃ W : Nat → Nat → Hp → Prop, (∃ m, W 0 m (upd H1 D (.dK []))) ∧ ∀ i m H, W i m H →
      (J.stop i H ∧ Qd H) ∨ (J.go i H ∧ ∃ Nx : Hp → Prop, (∀ H', Nx H' → ∃ m', m' < m ∧ W (i + 1) m' H') ∧ ∀ x H', J.yld i H x H' → g x (wipe σ vs) H' fun σ2 H2 => wipe σ2 vs = wipe σ vs ∧ tt σ2 H2 fun b H3 =>
        if b = true then tk σ2 H3 fun y H4 => tv σ2 H4 fun z H5 => ∃ kvs k, y = kV k ∧ H5 D = some (.dK kvs) ∧ kvs.length < sizeLine ∧ Nx (upd H5 D (.dK (putK kvs k z))) else Nx H3) := by
  refine ⟨fun i m H => m = n - i ∧ i ≤ n ∧ Pv i H, ⟨n, by simp, Nat.zero_le _, h0⟩, ?_⟩
  rintro i m H ⟨rfl, hi, p⟩
  have q := hG i H hi p
  by_cases hlt : i < n
  · exact .inr ⟨w.goes i H hlt q, Pv (i + 1), fun H' p' => ⟨n - (i + 1), by omega, rfl, hlt, p'⟩, fun x H' y => hs i x H H' hlt p (w.yields i H x H' hlt q y)⟩
  · have e : i = n := by omega
    subst e
    exact .inl ⟨w.stops H q, hd H p⟩
end
/-! ### rows and tables -/
abbrev KRow := List (Str × Int)
abbrev KTab := List KRow
/-- one small letter -/
def Ltr (z : Str) : Prop := ∃ c, small c = true ∧ z = ⟨#[c]⟩
def letts : List Str := (List.range' 97 26).map fun c => ⟨#[c]⟩
theorem Ltr.mem {z : Str} (h : Ltr z) : z ∈ letts := by
  obtain ⟨c, hc, rfl⟩ := h
  unfold small at hc
  rw [Bool.and_eq_true, decide_eq_true_eq, decide_eq_true_eq] at hc
  refine List.mem_map.mpr ⟨c, ?_, rfl⟩
  rw [List.mem_range'_1]
  omega
theorem letts_few {zs : List Str} (nd : zs.Nodup) (h : ∀ z ∈ zs, Ltr z) : zs.length ≤ 26 := by
  have := List.Nodup.length_le_of_subset nd (fun z hz => (h z hz).mem)
  simpa [letts] using this
structure KRw (n : Nat) (r : KRow) : Prop where
  ne : r ≠ []
  nd : (r.map (·.1)).Nodup
  lt : ∀ p ∈ r, Ltr p.1
  bd : ∀ p ∈ r, 0 ≤ p.2 ∧ p.2 < n
theorem KRw.len {n : Nat} {r : KRow} (h : KRw n r) : r.length ≤ 26 := by
  have := letts_few h.nd (fun z hz => by
    obtain ⟨p, hp, rfl⟩ := List.mem_map.mp hz
    exact h.lt p hp)
  simpa using this
theorem KRw.mono {n m : Nat} {r : KRow} (h : KRw n r) (l : n ≤ m) : KRw m r := ⟨h.ne, h.nd, h.lt, fun p hp => by have := h.bd p hp; omega⟩
theorem KRw.get {n : Nat} {r : KRow} {z : Str} {v : Int} (h : KRw n r) (e : getA r z = some v) : 0 ≤ v ∧ v < n := h.bd _ (getA_mem e)
theorem KRw.put {n : Nat} {r : KRow} {z : Str} {v : Int} (h : KRw n r) (hz : Ltr z) (h0 : 0 ≤ v) (h1 : v < n) : KRw n (putA r z v) := by
  refine ⟨fun e => ?_, nodup_put h.nd, fun p hp => ?_, fun p hp => ?_⟩
  · have : getA (putA r z v) z = some v := by rw [getA_put, if_pos rfl]
    rw [e] at this
    cases this
  · rcases mem_put hp with rfl | hp
    · exact hz
    · exact h.lt p hp
  · rcases mem_put hp with rfl | hp
    · exact ⟨h0, h1⟩
    · exact h.bd p hp
structure KTb (t : KTab) : Prop where
  l1 : 1 ≤ t.length
  l2 : t.length ≤ 1000
  rw : ∀ r ∈ t, KRw t.length r
theorem KTb.at_ {t : KTab} (h : KTb t) {i : Nat} {r : KRow} (e : t[i]? = some r) : KRw t.length r := h.rw r (List.mem_of_getElem? e)
/-- the rows stand -/
structure KRows (H : Hp) (ds : List Addr) (t : KTab) : Prop where
  len : ds.length = t.length
  at_ : ∀ (i : Nat) (d : Addr) (r : KRow), ds[i]? = some d → t[i]? = some r → H d = some (.dK (sd r))
theorem KRows.nil {H : Hp} : KRows H [] [] := ⟨rfl, fun i d r h => by simp at h⟩
theorem KRows.get {H : Hp} {ds : List Addr} {t : KTab} (h : KRows H ds t) {i : Nat} (hi : i < t.length) : ∃ d r, ds[i]? = some d ∧ t[i]? = some r ∧ H d = some (.dK (sd r)) := by
  have h2 : i < ds.length := by rw [h.len]; exact hi
  exact ⟨ds[i], t[i], List.getElem?_eq_getElem h2, List.getElem?_eq_getElem hi, h.at_ i _ _ (List.getElem?_eq_getElem h2) (List.getElem?_eq_getElem hi)⟩
theorem KRows.by {H H' : Hp} {ds : List Addr} {t : KTab} (h : KRows H ds t) (f : ∀ d ∈ ds, ∀ r, H d = some (.dK (sd r)) → H' d = some (.dK (sd r))) : KRows H' ds t :=
  ⟨h.len, fun i d r h1 h2 => f d (List.mem_of_getElem? h1) r (h.at_ i d r h1 h2)⟩
theorem KRows.mono {H H' : Hp} {ds : List Addr} {t : KTab} (h : KRows H ds t) (s : Same H H') : KRows H' ds t := h.by fun d _ r e => s _ _ e
theorem KRows.mem {H : Hp} {ds : List Addr} {t : KTab} (h : KRows H ds t) {d : Addr} (hd : d ∈ ds) : ∃ r, H d = some (.dK (sd r)) := by
  obtain ⟨i, hi, rfl⟩ := List.mem_iff_getElem.mp hd
  have h2 : i < t.length := by rw [← h.len]; exact hi
  exact ⟨_, h.at_ i _ _ (List.getElem?_eq_getElem hi) (List.getElem?_eq_getElem h2)⟩
theorem KRows.monoB {H H' : Hp} {p : Addr} {ds : List Addr} {t : KTab} (h : KRows H ds t) (hp : Pot H p) (s : SameB p H H') : KRows H' ds t := h.by fun d _ r e => s _ _ (ne_of_pot hp e) e
theorem KRows.upd {H : Hp} {a : Addr} {o : HO} {ds : List Addr} {t : KTab} (h : KRows H ds t) (ha : a ∉ ds) : KRows (L2.upd H a o) ds t := h.by fun d hd r e => by
  have n : d ≠ a := fun z => ha (by rw [← z]; exact hd)
  rw [upd_ne n]
  exact e
theorem KRows.snoc {H : Hp} {ds : List Addr} {t : KTab} {d : Addr} {r : KRow} (h : KRows H ds t) (e : H d = some (.dK (sd r))) : KRows H (ds ++ [d]) (t ++ [r]) := by
  refine ⟨by rw [List.length_append, List.length_append, h.len]; rfl, fun i d' r' h1 h2 => ?_⟩
  by_cases hi : i < ds.length
  · rw [List.getElem?_append_left hi] at h1
    rw [List.getElem?_append_left (by rw [← h.len]; exact hi)] at h2
    exact h.at_ i d' r' h1 h2
  · rw [List.getElem?_append_right (by omega)] at h1
    rw [List.getElem?_append_right (by rw [← h.len]; omega), ← h.len] at h2
    cases hj : i - ds.length with
    | zero =>
      rw [hj] at h1 h2
      cases h1
      cases h2
      exact e
    | succ j =>
      rw [hj] at h1
      simp at h1
theorem KRows.rd {H : Hp} {ds : List Addr} {t : KTab} (h : KRows H ds t) {i : Nat} {v : V} (e : (ds.map V.ref)[i]? = some v) : ∃ d r, v = .ref d ∧ ds[i]? = some d ∧ t[i]? = some r ∧ H d = some (.dK (sd r)) := by
  rw [List.getElem?_map] at e
  cases hd : ds[i]? with
  | none => rw [hd] at e; cases e
  | some d =>
    rw [hd] at e
    cases e
    have hi : i < t.length := by rw [← h.len]; exact (List.getElem?_eq_some_iff.mp hd).1
    exact ⟨d, t[i], rfl, rfl, List.getElem?_eq_getElem hi, h.at_ i d _ hd (List.getElem?_eq_getElem hi)⟩
/-- a table stands at a -/
structure TabAt (H : Hp) (a : Addr) (ds : List Addr) (t : KTab) : Prop where
  ls : H a = some (.lst (ds.map V.ref))
  rows : KRows H ds t
  nd : ds.Nodup
theorem TabAt.mono {H H' : Hp} {a : Addr} {ds : List Addr} {t : KTab} (h : TabAt H a ds t) (s : Same H H') : TabAt H' a ds t := ⟨s _ _ h.ls, h.rows.mono s, h.nd⟩
theorem refs_not_ints {ds : List Addr} {i j : Int} : (HO.lst (ds.map V.ref)) ≠ .lst [.int i, .int j] := by
  intro e
  have e := HO.lst.inj e
  cases ds with
  | nil => cases e
  | cons d r => simp at e
theorem TabAt.monoB {H H' : Hp} {p a : Addr} {ds : List Addr} {t : KTab} (h : TabAt H a ds t) (hp : Pot H p) (s : SameB p H H') : TabAt H' a ds t :=
  ⟨s _ _ (ne_of_pot hp h.ls fun _ _ => refs_not_ints) h.ls, h.rows.monoB hp s, h.nd⟩
theorem TabAt.ne {H : Hp} {a d : Addr} {ds : List Addr} {t : KTab} (h : TabAt H a ds t) (hd : d ∈ ds) : d ≠ a := by
  obtain ⟨r, e⟩ := h.rows.mem hd
  exact ne_of e h.ls (by intro z; cases z)
theorem val_row {r : KRow} {z : Str} : valV (sd r) (Sum.inr z) = (getA r z).map V.int := val_en inr_inj z r
theorem put_row (r : KRow) (z : Str) (v : Int) : putK (sd r) (Sum.inr z) (V.int v) = sd (putA r z v) := put_en inr_inj r z v
/-! ### a row by rising letters -/
def rowOf (r : KRow) (ys : List Str) : KRow := ys.map fun z => (z, (getA r z).getD 0)
def Rise (r r' : KRow) : Prop := ∃ ys, ys.Perm (r.map (·.1)) ∧ sortedS ys = true ∧ r' = rowOf r ys
theorem rowOf_keys (r : KRow) (ys : List Str) : (rowOf r ys).map (·.1) = ys := by
  unfold LT.rowOf
  rw [List.map_map]
  exact List.map_id' ys
theorem getA_some_of {r : KRow} {z : Str} (h : z ∈ r.map (·.1)) : ∃ v, getA r z = some v := by
  cases e : getA r z with
  | some v => exact ⟨v, rfl⟩
  | none => exact absurd h (getA_none_iff.mp e)
theorem Rise.get {r r' : KRow} (h : Rise r r') (nd : (r.map (·.1)).Nodup) (z : Str) : getA r' z = getA r z := by
  obtain ⟨ys, hp, _, rfl⟩ := h
  by_cases hz : z ∈ ys
  · obtain ⟨v, hv⟩ := getA_some_of (hp.mem_iff.mp hz)
    rw [hv]
    refine getA_of_mem (by rw [rowOf_keys]; exact hp.nodup_iff.mpr nd) ?_
    refine List.mem_map.mpr ⟨z, hz, ?_⟩
    rw [hv]
    rfl
  · rw [getA_none_iff.mpr (by rw [rowOf_keys]; exact hz), getA_none_iff.mpr fun h => hz (hp.mem_iff.mpr h)]
theorem Rise.rw {n : Nat} {r r' : KRow} (h : Rise r r') (k : KRw n r) : KRw n r' := by
  have g := h.get k.nd
  obtain ⟨ys, hp, _, rfl⟩ := h
  have hk := rowOf_keys r ys
  have nd : ((rowOf r ys).map (·.1)).Nodup := by rw [hk]; exact hp.nodup_iff.mpr k.nd
  refine ⟨fun e => ?_, nd, fun p hp' => ?_, fun p hp' => ?_⟩
  · have := hp.length_eq
    rw [e] at hk
    rw [← hk] at this
    simp at this
    exact k.ne (List.length_eq_zero_iff.mp this.symm)
  · have : p.1 ∈ r.map (·.1) := hp.mem_iff.mp (hk ▸ List.mem_map.mpr ⟨p, hp', rfl⟩)
    obtain ⟨p2, hp2, e⟩ := List.mem_map.mp this
    rw [← e]
    exact k.lt p2 hp2
  · have := getA_of_mem nd (k := p.1) (v := p.2) hp'
    rw [g] at this
    exact k.get this
/-- every row risen -/
structure RiseT (t t' : KTab) : Prop where
  len : t'.length = t.length
  at_ : ∀ (i : Nat) (r r' : KRow), t[i]? = some r → t'[i]? = some r' → Rise r r'
theorem RiseT.row {t t' : KTab} (h : RiseT t t') {i : Nat} {r : KRow} (e : t[i]? = some r) : ∃ r', t'[i]? = some r' ∧ Rise r r' := by
  have hi : i < t'.length := by rw [h.len]; exact (List.getElem?_eq_some_iff.mp e).1
  exact ⟨t'[i], List.getElem?_eq_getElem hi, h.at_ i r _ e (List.getElem?_eq_getElem hi)⟩
/-! ### isinstance of str, of all sorts of things -/
def isStr : V → Bool
  | .str _ => true
  | _ => false
theorem Odd.tyS {K : PySem.W.Frag} {H : Hp} {v : V} (h : Odd H v) : ∃ t, TyX K H v t ∧ PySem.W.kitOne K t (.type "str") = some (isStr v) := by
  cases h with
  | non => exact ⟨_, .base .non, kit_ty (show kitB "NoneType" "str" = some false by decide +kernel)⟩
  | bl b => exact ⟨_, .base (.bl b), kit_ty (show kitB "bool" "str" = some false by decide +kernel)⟩
  | int i => exact ⟨_, .base (.int i), kit_ty (show kitB "int" "str" = some false by decide +kernel)⟩
  | str z => exact ⟨_, .base (.str z), kit_ty (show kitB "str" "str" = some true by decide +kernel)⟩
  | lst e => exact ⟨_, .base (.lst e), kit_ty (show kitB "list" "str" = some false by decide +kernel)⟩
  | tup e => exact ⟨_, .base (.tup e), kit_ty (show kitB "tuple" "str" = some false by decide +kernel)⟩
  | dK e => exact ⟨_, .base (.dK e), kit_ty (show kitB "dict" "str" = some false by decide +kernel)⟩
/-- mergeK of pairs with unlike keys -/
theorem merge_nodup {kvs : KRow} (nd : (kvs.map (·.1)).Nodup) : mergeK [] (sd kvs) = sd kvs := by
  suffices h : ∀ (r acc : KRow), ((acc ++ r).map (·.1)).Nodup → mergeK (sd acc) (sd r) = sd (acc ++ r) from h kvs [] nd
  intro r
  induction r with
  | nil => intro acc _; rw [List.append_nil]; rfl
  | cons p r ih =>
    intro acc h
    have e : putK (sd acc) (Sum.inr p.1) (V.int p.2) = sd (acc ++ [p]) := by
      rw [put_row, putA_new]
      rw [getA_none_iff]
      rw [List.map_append, List.map_cons, List.nodup_append] at h
      exact fun hm => h.2.2 _ hm _ List.mem_cons_self rfl
    show mergeK (putK (sd acc) (Sum.inr p.1) (V.int p.2)) (sd r) = _
    rw [e, ih (acc ++ [p]) (by rw [List.append_assoc]; exact h), List.append_assoc]
    rfl
end LT
namespace LT
open PySem PySem.Spec PyProof.Rows L2 NdefX
/-- a row's letters and numbers, pair by pair -/
theorem walk_rows {d : Addr} {o : Obj} {r : KRow} : Walk (Iti d o (sd r)) r.length (fun H => H d = some (.frz o (.dK (sd r)))) (fun i H x H' => ∃ T p, r[i]? = some p ∧ x = .ref T ∧ H T = none ∧ H' = upd H T (.tup [.str p.1, .int p.2])) := by
  refine ⟨fun i H hi q => ⟨q, by rw [sd_len]; exact hi⟩, fun H q => ⟨q, by rw [sd_len]; exact Nat.le_refl _⟩, fun i H x H' hi _ y => ?_⟩
  obtain ⟨T, k, v, h1, rfl, h3, rfl⟩ := y
  unfold sd at h1
  rw [List.getElem?_map, List.getElem?_eq_getElem hi] at h1
  cases h1
  exact ⟨T, r[i], List.getElem?_eq_getElem hi, rfl, h3, rfl⟩
/-- a row's letters -/
theorem walk_rowk {d : Addr} {o : Obj} {r : KRow} : Walk (Itk d o (sd r)) r.length (fun H => H d = some (.frz o (.dK (sd r)))) (fun i H x H' => H' = H ∧ ∃ p, r[i]? = some p ∧ x = .str p.1) := by
  refine ⟨fun i H hi q => ⟨q, by rw [sd_len]; exact hi⟩, fun H q => ⟨q, by rw [sd_len]; exact Nat.le_refl _⟩, fun i H x H' hi _ y => ?_⟩
  obtain ⟨rfl, k, v, h1, rfl⟩ := y
  unfold sd at h1
  rw [List.getElem?_map, List.getElem?_eq_getElem hi] at h1
  cases h1
  exact ⟨rfl, r[i], List.getElem?_eq_getElem hi, rfl⟩
theorem rep_succ {α : Type} (i : Nat) (a : α) : List.replicate i a ++ [a] = List.replicate (i + 1) a := by rw [List.replicate_succ']
theorem rep_all (i : Nat) : (List.replicate i true).all id = true := by
  rw [List.all_eq_true]
  intro b hb
  rw [(List.mem_replicate.mp hb).2]
  rfl
end LT
set_option Elab.async false
set_option linter.all false
set_option maxRecDepth 100000
set_option maxHeartbeats 1600000
/-! Own layer: books. What is told of keepers and lights, as a list of what was told; histories; what of them holds. -/
namespace LT
open PySem PySem.Spec PyProof.Rows L2 NdefX
theorem snoc_ind {α : Type} {p : List α → Prop} (h0 : p []) (hs : ∀ l a, p l → p (l ++ [a])) : ∀ l, p l := by
  intro l
  rw [← List.reverse_reverse l]
  induction l.reverse with
  | nil => exact h0
  | cons a r ih =>
    rw [List.reverse_cons]
    exact hs _ _ ih
/-- what a book is told: of a move or of a landing, known, who, day, worth -/
structure Evt where
  mv : Bool
  kn : Int
  who : Str
  day : Int
  w : V
abbrev Told := List (Int × V)
abbrev Hist := List (Int × Told)
def ctK : Option Int → Int → Bool
  | none, _ => true
  | some m, k => decide (k ≤ m)
def knV : Option Int → V
  | none => .non
  | some k => .int k
/-- what was told last, of that which counts -/
def LastW (t : Told) (kn : Option Int) (w : V) : Prop :=
  ((∀ p ∈ t, ctK kn p.1 = false) ∧ w = .non) ∨ ∃ k, getA t k = some w ∧ ctK kn k = true ∧ ∀ p ∈ t, ctK kn p.1 = true → p.1 ≤ k
theorem LastW.uniq {t : Told} {kn : Option Int} {w w' : V} (h : LastW t kn w) (h' : LastW t kn w') : w = w' := by
  rcases h with ⟨a, rfl⟩ | ⟨k, a1, a2, a3⟩
  · rcases h' with ⟨_, rfl⟩ | ⟨k, b1, b2, _⟩
    · rfl
    · have := a _ (getA_mem b1)
      rw [b2] at this
      cases this
  · rcases h' with ⟨b, rfl⟩ | ⟨k', b1, b2, b3⟩
    · have := b _ (getA_mem a1)
      rw [a2] at this
      cases this
    · have e : k = k' := Int.le_antisymm (b3 _ (getA_mem a1) a2) (a3 _ (getA_mem b1) b2)
      subst e
      rw [a1] at b1
      exact Option.some.inj b1
theorem LastW.nil {kn : Option Int} : LastW [] kn .non := .inl ⟨nofun, rfl⟩
def noteH (h : Hist) (kn day : Int) (w : V) : Hist := putA h day (putA ((getA h day).getD []) kn w)
def ofE (mv : Bool) (who : Str) (e : Evt) : Bool := decide (e.mv = mv) && decide (e.who = who)
def stepH (mv : Bool) (who : Str) (h : Hist) (e : Evt) : Hist := if ofE mv who e = true then noteH h e.kn e.day e.w else h
def histE (es : List Evt) (mv : Bool) (who : Str) : Hist := es.foldl (stepH mv who) []
theorem histE_snoc (es : List Evt) (e : Evt) (mv : Bool) (who : Str) : histE (es ++ [e]) mv who = stepH mv who (histE es mv who) e := by
  unfold histE
  rw [List.foldl_append]
  rfl
def heldP (mv : Bool) (who : Str) (kn : Option Int) (day : Int) (e : Evt) : Bool := ofE mv who e && ctK kn e.kn && decide (e.day = day)
def heldO (es : List Evt) (mv : Bool) (who : Str) (kn : Option Int) (day : Int) : Option V := ((es.filter (heldP mv who kn day)).getLast?).map (·.w)
def heldE (es : List Evt) (mv : Bool) (who : Str) (kn : Option Int) (day : Int) : V := (heldO es mv who kn day).getD .non
theorem heldO_snoc (es : List Evt) (e : Evt) (mv : Bool) (who : Str) (kn : Option Int) (day : Int) :
    heldO (es ++ [e]) mv who kn day = if heldP mv who kn day e = true then some e.w else heldO es mv who kn day := by
  unfold heldO
  rw [List.filter_append]
  by_cases h : heldP mv who kn day e = true
  · rw [if_pos h, List.filter_cons_of_pos h, List.filter_nil, List.getLast?_append]
    rfl
  · rw [if_neg h, List.filter_cons_of_neg h, List.filter_nil, List.append_nil]
theorem heldE_snoc (es : List Evt) (e : Evt) (mv : Bool) (who : Str) (kn : Option Int) (day : Int) :
    heldE (es ++ [e]) mv who kn day = if heldP mv who kn day e = true then e.w else heldE es mv who kn day := by
  unfold heldE
  rw [heldO_snoc]
  split <;> rfl
theorem heldO_mem {es : List Evt} {mv : Bool} {who : Str} {kn : Option Int} {day : Int} {w : V} (h : heldO es mv who kn day = some w) : ∃ e ∈ es, heldP mv who kn day e = true ∧ e.w = w := by
  unfold heldO at h
  rw [Option.map_eq_some_iff] at h
  obtain ⟨e, h1, h2⟩ := h
  have hm := List.mem_of_getLast? h1
  rw [List.mem_filter] at hm
  exact ⟨e, hm.1, hm.2, h2⟩
theorem ofE_iff {mv : Bool} {who : Str} {e : Evt} : ofE mv who e = true ↔ e.mv = mv ∧ e.who = who := by
  unfold ofE
  rw [Bool.and_eq_true, decide_eq_true_iff, decide_eq_true_iff]
theorem heldP_iff {mv : Bool} {who : Str} {kn : Option Int} {day : Int} {e : Evt} : heldP mv who kn day e = true ↔ (e.mv = mv ∧ e.who = who) ∧ ctK kn e.kn = true ∧ e.day = day := by
  unfold heldP
  rw [Bool.and_eq_true, Bool.and_eq_true, ofE_iff, decide_eq_true_iff, and_assoc]
theorem getA_note (h : Hist) (kn day d : Int) (w : V) : getA (noteH h kn day w) d = if d = day then some (putA ((getA h day).getD []) kn w) else getA h d := getA_put _ _ _ _
/-- what stands in a history was told -/
theorem hist_of (mv : Bool) (who : Str) : ∀ es : List Evt, ∀ d t, getA (histE es mv who) d = some t → (t.map (·.1)).Nodup ∧ t.length ≤ es.length ∧ t ≠ [] ∧ ∀ p ∈ t, ∃ e ∈ es, (e.mv = mv ∧ e.who = who) ∧ e.kn = p.1 ∧ e.day = d ∧ e.w = p.2 := by
  refine snoc_ind (fun d t h => by cases h) fun es e ih d t h => ?_
  have old : getA (histE es mv who) d = some t → (t.map (·.1)).Nodup ∧ t.length ≤ (es ++ [e]).length ∧ t ≠ [] ∧ ∀ p ∈ t, ∃ e' ∈ es ++ [e], (e'.mv = mv ∧ e'.who = who) ∧ e'.kn = p.1 ∧ e'.day = d ∧ e'.w = p.2 := fun h => by
    obtain ⟨a, b, n, c⟩ := ih d t h
    refine ⟨a, by rw [List.length_append]; omega, n, fun p hp => ?_⟩
    obtain ⟨e', h1, h2⟩ := c p hp
    exact ⟨e', List.mem_append_left _ h1, h2⟩
  rw [histE_snoc] at h
  unfold stepH at h
  by_cases ho : ofE mv who e = true
  · rw [if_pos ho, getA_note] at h
    by_cases hd : d = e.day
    · rw [if_pos hd] at h
      cases h
      subst hd
      have hi : (((getA (histE es mv who) e.day).getD []).map (·.1)).Nodup ∧ ((getA (histE es mv who) e.day).getD []).length ≤ es.length ∧ ∀ p ∈ (getA (histE es mv who) e.day).getD [], ∃ e' ∈ es, (e'.mv = mv ∧ e'.who = who) ∧ e'.kn = p.1 ∧ e'.day = e.day ∧ e'.w = p.2 := by
        cases hg : getA (histE es mv who) e.day with
        | none => exact ⟨List.nodup_nil, Nat.zero_le _, nofun⟩
        | some t =>
          obtain ⟨a, b, _, c⟩ := ih _ t hg
          exact ⟨a, b, c⟩
      obtain ⟨a, b, c⟩ := hi
      refine ⟨nodup_put a, ?_, ?_, fun p hp => ?_⟩
      · have := putA_len (kvs := (getA (histE es mv who) e.day).getD []) (k := e.kn) (v := e.w)
        rw [List.length_append, List.length_singleton]
        omega
      · intro z
        have := getA_put ((getA (histE es mv who) e.day).getD []) e.kn e.kn e.w
        rw [z, if_pos rfl] at this
        cases this
      · rcases mem_put hp with rfl | hp
        · exact ⟨e, List.mem_append_right _ List.mem_cons_self, ofE_iff.mp ho, rfl, rfl, rfl⟩
        · obtain ⟨e', h1, h2⟩ := c p hp
          exact ⟨e', List.mem_append_left _ h1, h2⟩
    · rw [if_neg hd] at h
      exact old h
  · rw [if_neg ho] at h
    exact old h
theorem hist_keys (mv : Bool) (who : Str) : ∀ es : List Evt, ((histE es mv who).map (·.1)).Nodup ∧ (histE es mv who).length ≤ es.length := by
  refine snoc_ind ⟨List.nodup_nil, Nat.le_refl _⟩ fun es e ih => ?_
  rw [histE_snoc]
  unfold stepH
  have hl : (es ++ [e]).length = es.length + 1 := by rw [List.length_append]; rfl
  rw [hl]
  split
  · refine ⟨nodup_put ih.1, ?_⟩
    have := putA_len (kvs := histE es mv who) (k := e.day) (v := putA ((getA (histE es mv who) e.day).getD []) e.kn e.w)
    have := ih.2
    unfold noteH
    omega
  · exact ⟨ih.1, by have := ih.2; omega⟩
abbrev Rising (es : List Evt) : Prop := es.Pairwise fun a b => a.kn ≤ b.kn
theorem rising_snoc {es : List Evt} {e : Evt} (h : Rising (es ++ [e])) : Rising es ∧ ∀ a ∈ es, a.kn ≤ e.kn := by
  rw [Rising, List.pairwise_append] at h
  exact ⟨h.1, fun a ha => h.2.2 a ha e List.mem_cons_self⟩
theorem last_held (mv : Bool) (who : Str) (kn : Option Int) (d : Int) : ∀ es : List Evt, Rising es → LastW ((getA (histE es mv who) d).getD []) kn (heldE es mv who kn d) := by
  refine snoc_ind (fun _ => .nil) fun es e ih hr => ?_
  obtain ⟨hr, hle⟩ := rising_snoc hr
  have ih := ih hr
  rw [histE_snoc, heldE_snoc]
  unfold stepH
  by_cases ho : ofE mv who e = true
  · rw [if_pos ho, getA_note]
    by_cases hd : d = e.day
    · rw [if_pos hd, Option.getD_some]
      rw [← hd]
      have all : ∀ p ∈ (getA (histE es mv who) d).getD [], p.1 ≤ e.kn := by
        intro p hp
        cases hg : getA (histE es mv who) d with
        | none =>
          rw [hg] at hp
          exact nomatch hp
        | some t =>
          rw [hg] at hp
          obtain ⟨_, _, _, c⟩ := hist_of mv who es d t hg
          obtain ⟨e', h1, _, h2, _⟩ := c p hp
          rw [← h2]
          exact hle e' h1
      by_cases hc : ctK kn e.kn = true
      · rw [if_pos (heldP_iff.mpr ⟨ofE_iff.mp ho, hc, hd.symm⟩)]
        refine .inr ⟨e.kn, by rw [getA_put, if_pos rfl], hc, fun p hp _ => ?_⟩
        rcases mem_put hp with rfl | hp
        · exact Int.le_refl _
        · exact all p hp
      · rw [if_neg (fun h => hc (heldP_iff.mp h).2.1)]
        rcases ih with ⟨a, b⟩ | ⟨k, a1, a2, a3⟩
        · refine .inl ⟨fun p hp => ?_, b⟩
          rcases mem_put hp with rfl | hp
          · exact bool_false hc
          · exact a p hp
        · refine .inr ⟨k, ?_, a2, fun p hp h => ?_⟩
          · rw [getA_put, if_neg (fun z : k = e.kn => hc (z ▸ a2))]
            exact a1
          · rcases mem_put hp with rfl | hp
            · exact absurd h hc
            · exact a3 p hp h
    · rw [if_neg hd, if_neg (fun h => hd (heldP_iff.mp h).2.2.symm)]
      exact ih
  · rw [if_neg ho, if_neg (fun h => ho (ofE_iff.mpr (heldP_iff.mp h).1))]
    exact ih
/-- what holds, by rising days -/
structure HoldF (f : Int → V) (L : List (Int × V)) : Prop where
  up : L.Pairwise fun a b => a.1 < b.1
  mem : ∀ d w, (d, w) ∈ L ↔ w ≠ .non ∧ f d = w
def HoldH (h : Hist) (kn : Option Int) (L : List (Int × V)) : Prop := (L.Pairwise fun a b => a.1 < b.1) ∧ L.length ≤ h.length ∧ ∀ d w, (d, w) ∈ L ↔ w ≠ .non ∧ LastW ((getA h d).getD []) kn w
theorem HoldH.held {es : List Evt} {mv : Bool} {who : Str} {kn : Option Int} {L : List (Int × V)} (h : HoldH (histE es mv who) kn L) (hr : Rising es) : HoldF (heldE es mv who kn) L ∧ L.length ≤ es.length := by
  obtain ⟨h1, h2, h3⟩ := h
  refine ⟨⟨h1, fun d w => ?_⟩, Nat.le_trans h2 (hist_keys mv who es).2⟩
  rw [h3]
  have := last_held mv who kn d es hr
  constructor
  · rintro ⟨a, b⟩
    exact ⟨a, this.uniq b⟩
  · rintro ⟨a, rfl⟩
    exact ⟨a, this⟩
theorem HoldF.uniq {f : Int → V} : ∀ {L L' : List (Int × V)}, HoldF f L → HoldF f L' → L = L' := by
  intro L
  induction L generalizing f with
  | nil =>
    intro L' h h'
    cases L' with
    | nil => rfl
    | cons p r => exact nomatch (h.mem p.1 p.2).mpr ((h'.mem p.1 p.2).mp List.mem_cons_self)
  | cons p r ih =>
    intro L' h h'
    cases L' with
    | nil => exact nomatch (h'.mem p.1 p.2).mpr ((h.mem p.1 p.2).mp List.mem_cons_self)
    | cons p' r' =>
      have u := List.pairwise_cons.mp h.up
      have u' := List.pairwise_cons.mp h'.up
      have hp := (h.mem p.1 p.2).mp List.mem_cons_self
      have hp' := (h'.mem p'.1 p'.2).mp List.mem_cons_self
      have e1 : p.1 = p'.1 := by
        have a : p'.1 ≤ p.1 := by
          rcases List.mem_cons.mp ((h'.mem p.1 p.2).mpr hp) with e | e
          · exact Int.le_of_eq (congrArg Prod.fst e).symm
          · exact Int.le_of_lt (u'.1 _ e)
        have b : p.1 ≤ p'.1 := by
          rcases List.mem_cons.mp ((h.mem p'.1 p'.2).mpr hp') with e | e
          · exact Int.le_of_eq (congrArg Prod.fst e).symm
          · exact Int.le_of_lt (u.1 _ e)
        omega
      have e2 : p.2 = p'.2 := by rw [← hp.2, ← hp'.2, e1]
      have e : p = p' := Prod.ext e1 e2
      subst e
      congr 1
      refine ih (f := fun d => if d = p.1 then .non else f d) ⟨u.2, fun d w => ?_⟩ ⟨u'.2, fun d w => ?_⟩
      · by_cases hd : d = p.1
        · rw [if_pos hd]
          constructor
          · intro hm
            have := u.1 _ hm
            omega
          · rintro ⟨a, b⟩
            exact absurd b.symm a
        · rw [if_neg hd, ← h.mem]
          constructor
          · exact List.mem_cons_of_mem _
          · intro hm
            rcases List.mem_cons.mp hm with e | e
            · exact absurd (congrArg Prod.fst e) hd
            · exact e
      · by_cases hd : d = p.1
        · rw [if_pos hd]
          constructor
          · intro hm
            have := u'.1 _ hm
            omega
          · rintro ⟨a, b⟩
            exact absurd b.symm a
        · rw [if_neg hd, ← h'.mem]
          constructor
          · exact List.mem_cons_of_mem _
          · intro hm
            rcases List.mem_cons.mp hm with e | e
            · exact absurd (congrArg Prod.fst e) hd
            · exact e
/-- where one is on a day, by what holds of each day -/
def IsWhere (f : Int → V) (day : Int) (r : V) : Prop :=
  (∃ on, on ≤ day ∧ f on = r ∧ r ≠ .non ∧ ∀ o, o ≤ day → f o ≠ .non → o ≤ on) ∨ ((∀ o, o ≤ day → f o = .non) ∧ r = .str (Str.ofString ""))
theorem IsWhere.uniq {f : Int → V} {day : Int} {r r' : V} (h : IsWhere f day r) (h' : IsWhere f day r') : r = r' := by
  rcases h with ⟨o, a1, a2, a3, a4⟩ | ⟨a, rfl⟩
  · rcases h' with ⟨o', b1, b2, b3, b4⟩ | ⟨b, rfl⟩
    · have : o = o' := Int.le_antisymm (b4 _ a1 (by rw [a2]; exact a3)) (a4 _ b1 (by rw [b2]; exact b3))
      rw [← a2, ← b2, this]
    · exact absurd (a2.symm.trans (b o a1)) a3
  · rcases h' with ⟨o', b1, b2, b3, b4⟩ | ⟨b, rfl⟩
    · exact absurd (b2.symm.trans (a o' b1)) b3
    · rfl
/-- the place by a list that holds, as far as it is gone through -/
def whereL (L : List (Int × V)) (day : Int) : V := L.foldl (fun r p => if p.1 ≤ day then p.2 else r) (.str (Str.ofString ""))
theorem whereL_is {f : Int → V} {L : List (Int × V)} {day : Int} (h : HoldF f L) : IsWhere f day (whereL L day) := by
  have key : ∀ L : List (Int × V), (L.Pairwise fun a b => a.1 < b.1) → (∃ p ∈ L, p.1 ≤ day ∧ whereL L day = p.2 ∧ ∀ q ∈ L, q.1 ≤ day → q.1 ≤ p.1) ∨ ((∀ q ∈ L, ¬ q.1 ≤ day) ∧ whereL L day = .str (Str.ofString "")) := by
    refine snoc_ind (fun _ => .inr ⟨nofun, rfl⟩) fun L p ih hu => ?_
    rw [List.pairwise_append] at hu
    have ew : whereL (L ++ [p]) day = if p.1 ≤ day then p.2 else whereL L day := by
      unfold whereL
      rw [List.foldl_append]
      rfl
    rw [ew]
    by_cases hp : p.1 ≤ day
    · rw [if_pos hp]
      refine .inl ⟨p, List.mem_append_right _ List.mem_cons_self, hp, rfl, fun q hq _ => ?_⟩
      rcases List.mem_append.mp hq with hq | hq
      · exact Int.le_of_lt (hu.2.2 q hq p List.mem_cons_self)
      · rw [List.mem_singleton.mp hq]
        exact Int.le_refl _
    · rw [if_neg hp]
      rcases ih hu.1 with ⟨q, a, b, c, d⟩ | ⟨a, b⟩
      · refine .inl ⟨q, List.mem_append_left _ a, b, c, fun q' hq' hle => ?_⟩
        rcases List.mem_append.mp hq' with hq' | hq'
        · exact d q' hq' hle
        · rw [List.mem_singleton.mp hq'] at hle
          exact absurd hle hp
      · refine .inr ⟨fun q hq => ?_, b⟩
        rcases List.mem_append.mp hq with hq | hq
        · exact a q hq
        · rw [List.mem_singleton.mp hq]
          exact hp
  rcases key L h.up with ⟨p, a, b, c, d⟩ | ⟨a, b⟩
  · obtain ⟨n, e⟩ := (h.mem p.1 p.2).mp a
    exact .inl ⟨p.1, b, e.trans c.symm, by rw [c]; exact n, fun o ho hn => d (o, f o) ((h.mem o (f o)).mpr ⟨hn, rfl⟩) ho⟩
  · refine .inr ⟨fun o ho => Classical.byContradiction fun hn => ?_, b⟩
    exact a (o, f o) ((h.mem o (f o)).mpr ⟨hn, rfl⟩) ho
end LT
set_option Elab.async false
set_option linter.all false
set_option maxRecDepth 100000
set_option maxHeartbeats 1600000
/-! Own layer: a reading told anew; indices. -/
namespace LT
open PySem PySem.Spec PyProof.Rows L2 NdefX
theorem paired_imp {α β : Type} {R S : α → β → Prop} (f : ∀ a b, R a b → S a b) : ∀ {xs : List α} {ys : List β}, Paired R xs ys → Paired S xs ys
  | _, _, .nil => .nil
  | _, _, .cons h t => .cons (f _ _ h) (paired_imp f t)
theorem ne_of_none' {H : Hp} {a b : Addr} {o : HO} (n : H a = none) (e : H b = some o) : a ≠ b := (ne_of_none e n).symm
/-- a row without one letter -/
def dropA (r : KRow) (z : Str) : KRow := r.filter fun p => decide (p.1 ≠ z)
theorem KRw.drop {n : Nat} {r : KRow} {z : Str} (h : KRw n r) (hl : 1 < r.length) : KRw n (dropA r z) := by
  refine ⟨fun e => ?_, ?_, fun p hp => h.lt p (List.mem_filter.mp hp).1, fun p hp => h.bd p (List.mem_filter.mp hp).1⟩
  · have all : ∀ p ∈ r, p.1 = z := by
      intro p hp
      by_cases hz : p.1 = z
      · exact hz
      · have : p ∈ dropA r z := List.mem_filter.mpr ⟨hp, decide_eq_true hz⟩
        rw [e] at this
        cases this
    match r, hl, h.nd, all with
    | a :: b :: r, _, nd, all =>
      rw [List.map_cons, List.map_cons, List.nodup_cons] at nd
      refine nd.1 ?_
      rw [all a List.mem_cons_self, ← all b (List.mem_cons_of_mem _ List.mem_cons_self)]
      exact List.mem_cons_self
  · exact h.nd.sublist (List.Sublist.map _ List.filter_sublist)
end LT
set_option Elab.async false
set_option linter.all false
set_option maxRecDepth 100000
set_option maxHeartbeats 1600000
/-! Own layer: books on the heap. -/
namespace LT
open PySem PySem.Spec PyProof.Rows L2 NdefX
/-- all but what stands at some addresses is as it was -/
def SameL (S : List Addr) (H H' : Hp) : Prop := ∀ b o, b ∉ S → H b = some o → H' b = some o
theorem SameL.of {S : List Addr} {H H' : Hp} (s : Same H H') : SameL S H H' := fun b o _ e => s b o e
theorem SameL.ofB {p : Addr} {S : List Addr} {H H' : Hp} (hp : p ∈ S) (s : SameB p H H') : SameL S H H' := fun b o n e => s b o (fun h => n (h ▸ hp)) e
theorem SameL.trans {S : List Addr} {H H1 H2 : Hp} (a : SameL S H H1) (b : SameL S H1 H2) : SameL S H H2 := fun c o n e => b c o n (a c o n e)
theorem SameL.mono {S T : List Addr} {H H' : Hp} (h : ∀ a ∈ S, a ∈ T) (s : SameL S H H') : SameL T H H' := fun b o n e => s b o (fun z => n (h b z)) e
theorem SameL.upd {S : List Addr} {H H' : Hp} {p : Addr} {o : HO} (hp : p ∈ S) (s : SameL S H H') : SameL S H (L2.upd H' p o) := fun b x n e => by
  rw [upd_ne (fun z : b = p => n (by rw [z]; exact hp))]
  exact s b x n e
/-- what was new may change, too -/
theorem SameL.fresh {S T : List Addr} {H H1 H2 : Hp} (a : SameL S H H1) (b : SameL T H1 H2) (h : ∀ c ∈ T, c ∈ S ∨ H c = none) : SameL S H H2 := fun c o n e => by
  refine b c o (fun z => ?_) (a c o n e)
  rcases h c z with h | h
  · exact n h
  · rw [h] at e
    cases e
theorem SameL.free {S : List Addr} {H H' : Hp} {a : Addr} (s : SameL S H H') (h : H' a = none) (n : a ∉ S) : H a = none := by
  cases e : H a with
  | none => rfl
  | some o =>
    rw [s a o n e] at h
    cases h
/-! ### a heap without what may change -/
def Ho (M : List Addr) (H : Hp) : Hp := fun a => if a ∈ M then none else H a
theorem ho_iff {M : List Addr} {H : Hp} {a : Addr} {o : HO} : Ho M H a = some o ↔ a ∉ M ∧ H a = some o := by
  unfold Ho
  split <;> simp_all
theorem ho_le {M : List Addr} {H : Hp} : Same (Ho M H) H := fun a o e => (ho_iff.mp e).2
theorem ho_step {M M' S : List Addr} {H H' : Hp} (s : SameL S H H') (hs : ∀ a ∈ S, a ∈ M) (hm : ∀ a ∈ M', a ∈ M ∨ H a = none) : Same (Ho M H) (Ho M' H') := fun a o e => by
  obtain ⟨n, e⟩ := ho_iff.mp e
  refine ho_iff.mpr ⟨fun h => ?_, s a o (fun h => n (hs a h)) e⟩
  rcases hm a h with h | h
  · exact n h
  · rw [h] at e
    cases e
theorem ho_in {M : List Addr} {H : Hp} {a : Addr} {o : HO} (n : a ∉ M) (e : H a = some o) : Ho M H a = some o := ho_iff.mpr ⟨n, e⟩
/-! ### histories -/
structure HA where
  x : Addr
  dx : Addr
  D : Addr
  g : List (Int × Addr)
  h : Hist
def HA.fp (a : HA) : List Addr := a.x :: a.D :: a.g.map (·.2)
def toldK (t : Told) : List (Key × V) := enA Sum.inl id t
def dayK (g : List (Int × Addr)) : List (Key × V) := enA Sum.inl V.ref g
def DayR (H : Hp) (p : Int × Addr) (e : Int × Told) : Prop := p.1 = e.1 ∧ H p.2 = some (.dK (toldK e.2))
structure HistAt (C : Addr) (H : Hp) (a : HA) : Prop where
  ix : H a.x = some (.ins C a.dx [("by_day", .ref a.D)])
  bd : H a.D = some (.dK (dayK a.g))
  ta : Paired (DayR H) a.g a.h
  nd : a.fp.Nodup
  nk : (a.h.map (·.1)).Nodup
theorem HistAt.by {C : Addr} {H H' : Hp} {a : HA} (h : HistAt C H a) (f : ∀ c ∈ a.fp, ∀ o, H c = some o → H' c = some o) : HistAt C H' a := by
  refine ⟨f _ List.mem_cons_self _ h.ix, f _ (List.mem_cons_of_mem _ List.mem_cons_self) _ h.bd, ?_, h.nd, h.nk⟩
  have : ∀ {g : List (Int × Addr)} {t : Hist}, (∀ c ∈ g.map (·.2), c ∈ a.fp) → Paired (DayR H) g t → Paired (DayR H') g t := by
    intro g t hg hp
    induction hp with
    | nil => exact .nil
    | cons r _ ih => exact .cons ⟨r.1, f _ (hg _ List.mem_cons_self) _ r.2⟩ (ih fun c hc => hg c (List.mem_cons_of_mem _ hc))
  exact this (fun c hc => List.mem_cons_of_mem _ (List.mem_cons_of_mem _ hc)) h.ta
theorem HistAt.mono {C : Addr} {H H' : Hp} {a : HA} (h : HistAt C H a) (s : Same H H') : HistAt C H' a := h.by fun c _ o e => s c o e
theorem HistAt.monoL {C : Addr} {S : List Addr} {H H' : Hp} {a : HA} (h : HistAt C H a) (s : SameL S H H') (n : ∀ c ∈ a.fp, c ∉ S) : HistAt C H' a := h.by fun c hc o e => s c o (n c hc) e
theorem HistAt.ex {C : Addr} {H : Hp} {a : HA} (h : HistAt C H a) : ∀ c ∈ a.fp, ∃ o, H c = some o := by
  intro c hc
  rcases List.mem_cons.mp hc with rfl | hc
  · exact ⟨_, h.ix⟩
  rcases List.mem_cons.mp hc with rfl | hc
  · exact ⟨_, h.bd⟩
  have : ∀ {g : List (Int × Addr)} {t : Hist}, Paired (DayR H) g t → c ∈ g.map (·.2) → ∃ o, H c = some o := by
    intro g t hp
    induction hp with
    | nil => exact nofun
    | cons r _ ih =>
      intro hc
      rcases List.mem_cons.mp hc with rfl | hc
      · exact ⟨_, r.2⟩
      · exact ih hc
  exact this h.ta hc
theorem paired_keys {H : Hp} {g : List (Int × Addr)} {h : Hist} (p : Paired (DayR H) g h) : g.map (·.1) = h.map (·.1) := by
  induction p with
  | nil => rfl
  | cons r _ ih => rw [List.map_cons, List.map_cons, ih, r.1]
theorem paired_at {H : Hp} {d : Int} {g : List (Int × Addr)} {h : Hist} (p : Paired (DayR H) g h) : (getA g d = none ∧ getA h d = none) ∨ ∃ T t, getA g d = some T ∧ getA h d = some t ∧ H T = some (.dK (toldK t)) := by
  induction p with
  | nil => exact .inl ⟨rfl, rfl⟩
  | cons r _ ih =>
    rename_i x y xs ys _
    by_cases e : y.1 = d
    · exact .inr ⟨x.2, y.2, getA_pos (r.1.trans e), getA_pos e, r.2⟩
    · rw [getA_neg (fun z => e (r.1.symm.trans z)), getA_neg e]
      exact ih
theorem day_val (g : List (Int × Addr)) (d : Int) : valV (dayK g) (Sum.inl d) = (getA g d).map V.ref := val_en inl_inj d g
theorem told_val (t : Told) (k : Int) : valV (toldK t) (Sum.inl k) = getA t k := by
  have := val_en (f := id) inl_inj k t
  rw [Option.map_id] at this
  exact this
theorem told_put (t : Told) (k : Int) (v : V) : putK (toldK t) (Sum.inl k) v = toldK (putA t k v) := put_en (f := id) inl_inj t k v
theorem day_put (g : List (Int × Addr)) (d : Int) (T : Addr) : putK (dayK g) (Sum.inl d) (V.ref T) = dayK (putA g d T) := put_en inl_inj g d T
theorem told_len (t : Told) : (toldK t).length = t.length := enA_len ..
theorem day_len (g : List (Int × Addr)) : (dayK g).length = g.length := enA_len ..
theorem dayK_keys (g : List (Int × Addr)) : (dayK g).map (·.1) = (g.map (·.1)).map Sum.inl := by
  unfold dayK enA
  rw [List.map_map, List.map_map]
  rfl
/-- a day's dict put anew -/
theorem paired_set {H H' : Hp} {d : Int} {T : Addr} {t' : Told} {g : List (Int × Addr)} {h : Hist} (p : Paired (DayR H) g h) (hg : getA g d = some T) (nk : (h.map (·.1)).Nodup)
    (hT : H' T = some (.dK (toldK t'))) (ho : ∀ c ∈ g.map (·.2), c ≠ T → ∀ o, H c = some o → H' c = some o) (nd : (g.map (·.2)).Nodup) : Paired (DayR H') g (h.map fun e => if e.1 = d then (e.1, t') else e) := by
  induction p with
  | nil => exact .nil
  | cons r p ih =>
    rename_i x y xs ys
    have nk' := (List.nodup_cons.mp nk)
    have nd' := (List.nodup_cons.mp nd)
    by_cases e : y.1 = d
    · have e1 : x.2 = T := by
        rw [getA_pos (r.1.trans e)] at hg
        exact Option.some.inj hg
      refine .cons ?_ ?_
      · show DayR H' x (if y.1 = d then (y.1, t') else y)
        rw [if_pos e]
        exact ⟨r.1, by rw [e1]; exact hT⟩
      · have em : ys.map (fun e => if e.1 = d then (e.1, t') else e) = ys := by
          have : ∀ q ∈ ys, (if q.1 = d then (q.1, t') else q) = q := fun q hq => if_neg fun z => nk'.1 (List.mem_map.mpr ⟨q, hq, z.trans e.symm⟩)
          exact (List.map_congr_left this).trans (List.map_id _)
        rw [em]
        have : ∀ {g : List (Int × Addr)} {t : Hist}, (∀ c ∈ g.map (·.2), c ∈ xs.map (·.2)) → Paired (DayR H) g t → Paired (DayR H') g t := by
          intro g t hg hp
          induction hp with
          | nil => exact .nil
          | cons r' _ ih' =>
            refine .cons ⟨r'.1, ho _ (List.mem_cons_of_mem _ (hg _ List.mem_cons_self)) (fun z => ?_) _ r'.2⟩ (ih' fun c hc => hg c (List.mem_cons_of_mem _ hc))
            have := hg _ List.mem_cons_self
            rw [z, ← e1] at this
            exact nd'.1 this
        exact this (fun c hc => hc) p
    · rw [getA_neg (fun z => e (r.1.symm.trans z))] at hg
      have hx : x.2 ≠ T := fun z => nd'.1 (by show x.2 ∈ _; rw [z]; exact List.mem_map.mpr ⟨_, getA_mem hg, rfl⟩)
      refine .cons ?_ (ih hg nk'.2 (fun c hc => ho c (List.mem_cons_of_mem _ hc)) nd'.2)
      show DayR H' x (if y.1 = d then (y.1, t') else y)
      rw [if_neg e]
      exact ⟨r.1, ho _ List.mem_cons_self hx _ r.2⟩
theorem putA_old {κ α : Type} [DecidableEq κ] {kvs : List (κ × α)} {k : κ} {v x : α} (h : getA kvs k = some x) : putA kvs k v = kvs.map fun p => if p.1 = k then (p.1, v) else p := by
  unfold putA
  rw [getA_any, h]
  rfl
theorem paired_snoc' {α β : Type} {R : α → β → Prop} : ∀ {xs : List α} {ys : List β} {x : α} {y : β}, Paired R xs ys → R x y → Paired R (xs ++ [x]) (ys ++ [y]) := by
  intro xs ys x y p r
  induction p with
  | nil => exact .cons r .nil
  | cons r' _ ih => exact .cons r' ih
/-- a note of a day that was told of -/
theorem HistAt.note1 {C : Addr} {H H' : Hp} {a : HA} {d kn : Int} {w : V} {T : Addr} {t : Told} (h : HistAt C H a) (hg : getA a.g d = some T) (hh : getA a.h d = some t)
    (hT : H' T = some (.dK (toldK (putA t kn w)))) (ho : ∀ c, c ≠ T → ∀ o, H c = some o → H' c = some o) : HistAt C H' { a with h := noteH a.h kn d w } := by
  have nd := h.nd
  have nd1 := List.nodup_cons.mp nd
  have nd2 := List.nodup_cons.mp nd1.2
  have mT : T ∈ a.g.map (·.2) := List.mem_map.mpr ⟨_, getA_mem hg, rfl⟩
  refine ⟨ho _ (fun z : a.x = T => nd1.1 (List.mem_cons_of_mem _ (by rw [z]; exact mT))) _ h.ix, ho _ (fun z : a.D = T => nd2.1 (by rw [z]; exact mT)) _ h.bd, ?_, h.nd, nodup_put h.nk⟩
  show Paired (DayR H') a.g (noteH a.h kn d w)
  unfold noteH
  rw [hh, Option.getD_some, putA_old hh]
  exact paired_set h.ta hg h.nk hT (fun c _ n o e => ho c n o e) nd2.2
/-- a note of another day -/
theorem HistAt.note2 {C : Addr} {H H' : Hp} {a : HA} {d kn : Int} {w : V} {T : Addr} (h : HistAt C H a) (hg : getA a.g d = none) (hh : getA a.h d = none) (nT : H T = none)
    (hT : H' T = some (.dK (toldK [(kn, w)]))) (hD : H' a.D = some (.dK (dayK (a.g ++ [(d, T)])))) (ho : ∀ c, c ≠ T → c ≠ a.D → ∀ o, H c = some o → H' c = some o) : HistAt C H' { a with g := a.g ++ [(d, T)], h := noteH a.h kn d w } := by
  have nd := h.nd
  have nd1 := List.nodup_cons.mp nd
  have nd2 := List.nodup_cons.mp nd1.2
  have nTf : T ∉ a.fp := fun z => by
    obtain ⟨o, e⟩ := h.ex T z
    rw [nT] at e
    cases e
  refine ⟨ho _ (fun z : a.x = T => nTf (by rw [← z]; exact List.mem_cons_self)) (fun z : a.x = a.D => nd1.1 (by rw [z]; exact List.mem_cons_self)) _ h.ix, hD, ?_, ?_, nodup_put h.nk⟩
  · show Paired (DayR H') (a.g ++ [(d, T)]) (noteH a.h kn d w)
    unfold noteH
    rw [hh, Option.getD_none, putA_new hh]
    refine paired_snoc' ?_ ⟨rfl, hT⟩
    have : ∀ {g : List (Int × Addr)} {t : Hist}, (∀ c ∈ g.map (·.2), c ∈ a.g.map (·.2)) → Paired (DayR H) g t → Paired (DayR H') g t := by
      intro g t hg hp
      induction hp with
      | nil => exact .nil
      | cons r' _ ih' =>
        have m := hg _ List.mem_cons_self
        exact .cons ⟨r'.1, ho _ (fun z => nTf (by rw [← z]; exact List.mem_cons_of_mem _ (List.mem_cons_of_mem _ m))) (fun z => nd2.1 (by rw [← z]; exact m)) _ r'.2⟩ (ih' fun c hc => hg c (List.mem_cons_of_mem _ hc))
    exact this (fun c hc => hc) h.ta
  · show (a.x :: a.D :: (a.g ++ [(d, T)]).map (·.2)).Nodup
    rw [List.map_append]
    have e : a.x :: a.D :: (a.g.map (·.2) ++ [T]) = a.fp ++ [T] := rfl
    show (a.x :: a.D :: (a.g.map (·.2) ++ [T])).Nodup
    rw [e, List.nodup_append]
    refine ⟨nd, List.nodup_cons.mpr ⟨nofun, List.nodup_nil⟩, fun x hx y hy z => ?_⟩
    rw [List.mem_singleton.mp hy] at z
    exact nTf (by rw [← z]; exact hx)
def OKH (a : HA) : Prop := a.h.length ≤ 60 ∧ ∀ e ∈ a.h, e.2.length ≤ 60
theorem OKH.of {es : List Evt} {mv : Bool} {who : Str} {a : HA} (h : a.h = histE es mv who) (hl : es.length ≤ 60) : OKH a := by
  obtain ⟨k1, k2⟩ := hist_keys mv who es
  refine ⟨by rw [h]; omega, fun e he => ?_⟩
  rw [h] at he
  have := (hist_of mv who es e.1 e.2 (getA_of_mem k1 he)).2.1
  omega
def spHInit (C : Addr) : Sp := fun vs H Q _ => ∃ (x dx : Addr), vs = [.ref x] ∧ H x = some (.ins C dx []) ∧
  ∀ (a : HA) (H' : Hp), a.x = x → a.h = [] → a.g = [] → H a.D = none → HistAt C H' a → SameB x H H' → Q .non H'
def spNote (C : Addr) : Sp := fun vs H Q _ => ∃ (a : HA) (kn d : Int) (w : V), vs = [.ref a.x, .int kn, .int d, w] ∧ HistAt C H a ∧ OKH a ∧
  ∀ (a' : HA) (H' : Hp), a'.x = a.x → a'.h = noteH a.h kn d w → HistAt C H' a' → (∀ c ∈ a'.fp, c ∈ a.fp ∨ H c = none) → SameL a.fp H H' → Q .non H'
def spLast (C : Addr) : Sp := fun vs H Q _ => ∃ (a : HA) (d : Int) (kn : Option Int), vs = [.ref a.x, .int d, knV kn] ∧ HistAt C H a ∧ OKH a ∧
  ∀ (w : V) (H' : Hp), LastW ((getA a.h d).getD []) kn w → Same H H' → Q w H'
/-- tuples of a day and a worth -/
def RowsP (H : Hp) (ts : List Addr) (L : List (Int × V)) : Prop := Paired (fun t (p : Int × V) => H t = some (.tup [.int p.1, p.2])) ts L
theorem RowsP.mono {H H' : Hp} {ts : List Addr} {L : List (Int × V)} (h : RowsP H ts L) (s : Same H H') : RowsP H' ts L := paired_imp (fun _ _ h => s _ _ h) h
theorem RowsP.snoc {H : Hp} {ts : List Addr} {L : List (Int × V)} {t : Addr} {d : Int} {w : V} (h : RowsP H ts L) (e : H t = some (.tup [.int d, w])) : RowsP H (ts ++ [t]) (L ++ [(d, w)]) := paired_snoc' h e
theorem RowsP.upd {H : Hp} {ts : List Addr} {L : List (Int × V)} {F : Addr} {xs : List V} {o : HO} (h : RowsP H ts L) (e : H F = some (.lst xs)) : RowsP (L2.upd H F o) ts L := paired_imp (fun t p h => by rw [upd_ne (ne_of h e (by intro z; cases z))]; exact h) h
theorem RowsP.at_ {H : Hp} {ts : List Addr} {L : List (Int × V)} {i : Nat} {v : V} (h : RowsP H ts L) (e : (ts.map V.ref)[i]? = some v) : ∃ t p, v = .ref t ∧ L[i]? = some p ∧ H t = some (.tup [.int p.1, p.2]) := by
  rw [List.getElem?_map, Option.map_eq_some_iff] at e
  obtain ⟨t, e, rfl⟩ := e
  obtain ⟨p, h1, h2⟩ := paired_get h e
  exact ⟨t, p, rfl, h1, h2⟩
/-- a list of them -/
def RowsAt (H : Hp) (l : Addr) (L : List (Int × V)) : Prop := ∃ ts : List Addr, H l = some (.lst (ts.map V.ref)) ∧ RowsP H ts L
theorem RowsAt.mono {H H' : Hp} {l : Addr} {L : List (Int × V)} (h : RowsAt H l L) (s : Same H H') : RowsAt H' l L := by
  obtain ⟨ts, a, b⟩ := h
  exact ⟨ts, s _ _ a, b.mono s⟩
theorem HistAt.glen {C : Addr} {H : Hp} {a : HA} (h : HistAt C H a) : a.g.length = a.h.length := Paired.length h.ta
/-- of all days, by rising days, those of which anything holds -/
theorem hold_of {h : Hist} {kn : Option Int} {ys : List Int} {rs : List (Int × V)} (nk : (h.map (·.1)).Nodup) (perm : ys.Perm (h.map (·.1))) (up : ys.Pairwise (· ≤ ·)) (ek : rs.map (·.1) = ys)
    (hl : ∀ p ∈ rs, LastW ((getA h p.1).getD []) kn p.2) : HoldH h kn (rs.filter fun p => !decide (p.2 = .non)) := by
  have nd : ys.Nodup := perm.nodup_iff.mpr nk
  have lt : ys.Pairwise (· < ·) := (up.and nd).imp fun ⟨a, b⟩ => by omega
  refine ⟨?_, ?_, fun d w => ?_⟩
  · rw [← ek, List.pairwise_map] at lt
    exact lt.filter _
  · refine Nat.le_trans (List.length_filter_le _ _) ?_
    have e1 := congrArg List.length ek
    have e2 := perm.length_eq
    rw [List.length_map] at e1 e2
    omega
  · rw [List.mem_filter]
    constructor
    · rintro ⟨a, b⟩
      refine ⟨fun e => ?_, hl _ a⟩
      have b : (!decide (w = V.non)) = true := b
      rw [decide_eq_true e] at b
      cases b
    · rintro ⟨a, b⟩
      have hd : d ∈ ys := by
        rw [perm.mem_iff]
        cases hg : getA h d with
        | none =>
          rw [hg] at b
          exact absurd (b.uniq .nil) a
        | some t => exact List.mem_map.mpr ⟨_, getA_mem hg, rfl⟩
      rw [← ek] at hd
      obtain ⟨p, hp, e⟩ := List.mem_map.mp hd
      have e2 := hl p hp
      rw [e] at e2
      have e3 := e2.uniq b
      refine ⟨by rw [← e, ← e3]; exact hp, ?_⟩
      show (!decide (w = V.non)) = true
      rw [decide_eq_false a]
      rfl
def spHolding (C : Addr) : Sp := fun vs H Q _ => ∃ (a : HA) (kn : Option Int), vs = [.ref a.x, knV kn] ∧ HistAt C H a ∧ OKH a ∧
  ∀ (l : Addr) (L : List (Int × V)) (H' : Hp), H l = none → RowsAt H' l L → HoldH a.h kn L → Same H H' → Q (.ref l) H'
end LT
set_option Elab.async false
set_option linter.all false
set_option maxRecDepth 100000
set_option maxHeartbeats 1600000
/-! Own layer: a book on the heap. -/
namespace LT
open PySem PySem.Spec PyProof.Rows L2 NdefX
structure BA where
  b : Addr
  dx : Addr
  R : Addr
  M : Addr
  L : Addr
  mv : List (Str × HA)
  ld : List (Str × HA)
  rk : List (Str × Int)
  es : List Evt
def hsfp (hs : List (Str × HA)) : List Addr := hs.flatMap fun e => e.2.fp
def hsK (hs : List (Str × HA)) : List (Key × V) := enA Sum.inr (fun a : HA => V.ref a.x) hs
def BA.fp (B : BA) : List Addr := B.b :: B.R :: B.M :: B.L :: (hsfp B.mv ++ hsfp B.ld)
def lateV (es : List Evt) : V := match es.getLast? with
  | none => .non
  | some e => .int e.kn
/-- ranks -/
structure Rk (rk : List (Str × Int)) : Prop where
  nd : (rk.map (·.1)).Nodup
  nm : ∀ p ∈ rk, Nm p.1
  b1 : ∀ p ∈ rk, 1 ≤ p.2 ∧ p.2 ≤ 9
  ln : rk.length ≤ 30
def Pl (z : Str) : Prop := z = Str.ofString "" ∨ Nm z
structure EvOK (rk : List (Str × Int)) (e : Evt) : Prop where
  k0 : 0 ≤ e.kn
  d0 : 0 ≤ e.day
  d1 : e.day < 10 ^ 55
  mw : e.mv = true → e.who ∈ rk.map (·.1) ∧ (e.w = .non ∨ ∃ z, e.w = .str z ∧ Pl z)
  lw : e.mv = false → Nm e.who ∧ ∃ n : Int, e.w = .int n ∧ 0 ≤ n ∧ n < 10 ^ 57
structure BkH (CB CH : Addr) (H : Hp) (B : BA) (v : V) : Prop where
  ix : H B.b = some (.ins CB B.dx [("rank_of", .ref B.R), ("moves", .ref B.M), ("landings", .ref B.L), ("latest_known", v)])
  rd : H B.R = some (.dK (sd B.rk))
  md : H B.M = some (.dK (hsK B.mv))
  ldd : H B.L = some (.dK (hsK B.ld))
  hm : ∀ e ∈ B.mv, HistAt CH H e.2
  hl : ∀ e ∈ B.ld, HistAt CH H e.2
  nd : B.fp.Nodup
structure BkP (B : BA) : Prop where
  rk : Rk B.rk
  km : B.mv.map (·.1) = B.rk.map (·.1)
  lk : (B.ld.map (·.1)).Nodup
  hm : ∀ e ∈ B.mv, e.2.h = histE B.es true e.1
  hl : ∀ e ∈ B.ld, e.2.h = histE B.es false e.1
  ln : ∀ e ∈ B.es, e.mv = false → e.who ∈ B.ld.map (·.1)
  up : Rising B.es
  ev : ∀ e ∈ B.es, EvOK B.rk e
theorem hsfp_app (a b : List (Str × HA)) : hsfp (a ++ b) = hsfp a ++ hsfp b := List.flatMap_append
theorem hsfp_cons (e : Str × HA) (b : List (Str × HA)) : hsfp (e :: b) = e.2.fp ++ hsfp b := rfl
theorem hsfp_mem {hs : List (Str × HA)} {c : Addr} : c ∈ hsfp hs ↔ ∃ e ∈ hs, c ∈ e.2.fp := List.mem_flatMap
theorem BkH.ex {CB CH : Addr} {H : Hp} {B : BA} {v : V} (h : BkH CB CH H B v) : ∀ c ∈ B.fp, ∃ o, H c = some o := by
  intro c hc
  rcases List.mem_cons.mp hc with rfl | hc
  · exact ⟨_, h.ix⟩
  rcases List.mem_cons.mp hc with rfl | hc
  · exact ⟨_, h.rd⟩
  rcases List.mem_cons.mp hc with rfl | hc
  · exact ⟨_, h.md⟩
  rcases List.mem_cons.mp hc with rfl | hc
  · exact ⟨_, h.ldd⟩
  rcases List.mem_append.mp hc with hc | hc
  · obtain ⟨e, he, hc⟩ := hsfp_mem.mp hc
    exact (h.hm e he).ex c hc
  · obtain ⟨e, he, hc⟩ := hsfp_mem.mp hc
    exact (h.hl e he).ex c hc
theorem BkH.by {CB CH : Addr} {H H' : Hp} {B : BA} {v : V} (h : BkH CB CH H B v) (f : ∀ c ∈ B.fp, ∀ o, H c = some o → H' c = some o) : BkH CB CH H' B v := by
  have m1 : B.b ∈ B.fp := List.mem_cons_self
  have m2 : B.R ∈ B.fp := List.mem_cons_of_mem _ List.mem_cons_self
  have m3 : B.M ∈ B.fp := List.mem_cons_of_mem _ (List.mem_cons_of_mem _ List.mem_cons_self)
  have m4 : B.L ∈ B.fp := List.mem_cons_of_mem _ (List.mem_cons_of_mem _ (List.mem_cons_of_mem _ List.mem_cons_self))
  have mt : ∀ c ∈ hsfp B.mv ++ hsfp B.ld, c ∈ B.fp := fun c hc => List.mem_cons_of_mem _ (List.mem_cons_of_mem _ (List.mem_cons_of_mem _ (List.mem_cons_of_mem _ hc)))
  exact ⟨f _ m1 _ h.ix, f _ m2 _ h.rd, f _ m3 _ h.md, f _ m4 _ h.ldd,
    fun e he => (h.hm e he).by fun c hc => f c (mt c (List.mem_append_left _ (hsfp_mem.mpr ⟨e, he, hc⟩))),
    fun e he => (h.hl e he).by fun c hc => f c (mt c (List.mem_append_right _ (hsfp_mem.mpr ⟨e, he, hc⟩))), h.nd⟩
theorem nodup_swap {X F F' Y : List Addr} (h : (X ++ (F ++ Y)).Nodup) (h' : F'.Nodup) (hs : ∀ c ∈ F', c ∈ F ∨ (c ∉ X ∧ c ∉ Y)) : (X ++ (F' ++ Y)).Nodup := by
  rw [List.nodup_append, List.nodup_append] at h ⊢
  obtain ⟨a, ⟨b, c, d⟩, e⟩ := h
  refine ⟨a, ⟨h', c, fun x hx y hy z => ?_⟩, fun x hx y hy z => ?_⟩
  · subst z
    rcases hs x hx with h | h
    · exact d x h x hy rfl
    · exact h.2 hy
  · subst z
    rcases List.mem_append.mp hy with hy | hy
    · rcases hs x hy with h | h
      · exact e x hx x (List.mem_append_left _ h) rfl
      · exact h.1 hx
    · exact e x hx x (List.mem_append_right _ hy) rfl
theorem get_split {α : Type} {z : Str} {a : α} : ∀ {hs : List (Str × α)}, getA hs z = some a → ∃ l1 l2, hs = l1 ++ (z, a) :: l2 ∧ z ∉ l1.map (·.1)
  | [], h => nomatch h
  | p :: r, h => by
    by_cases e : p.1 = z
    · rw [getA_pos e] at h
      cases h
      subst e
      exact ⟨[], r, rfl, nofun⟩
    · rw [getA_neg e] at h
      obtain ⟨l1, l2, rfl, n⟩ := get_split h
      refine ⟨p :: l1, l2, rfl, fun hm => ?_⟩
      rcases List.mem_cons.mp hm with hm | hm
      · exact e hm.symm
      · exact n hm
theorem hsK_swap {l1 l2 : List (Str × HA)} {z : Str} {a a' : HA} (h : a'.x = a.x) : hsK (l1 ++ (z, a') :: l2) = hsK (l1 ++ (z, a) :: l2) := by
  unfold hsK enA
  rw [List.map_append, List.map_append, List.map_cons, List.map_cons]
  show _ ++ ((Sum.inr z : Key), V.ref a'.x) :: _ = _ ++ ((Sum.inr z : Key), V.ref a.x) :: _
  rw [h]
theorem step_eq (mv : Bool) (kn : Int) (z : Str) (d : Int) (w : V) (h : Hist) : stepH mv z h ⟨mv, kn, z, d, w⟩ = noteH h kn d w := by
  unfold stepH
  rw [show ofE mv z ⟨mv, kn, z, d, w⟩ = true from ofE_iff.mpr ⟨rfl, rfl⟩]
  rfl
theorem step_ne {mv : Bool} {who : Str} {h : Hist} {e : Evt} (n : ¬ (e.mv = mv ∧ e.who = who)) : stepH mv who h e = h := by
  unfold stepH
  rw [if_neg (fun z => n (ofE_iff.mp z))]
/-- one keeper's history put otherwise -/
theorem BkH.setM {CB CH : Addr} {H H' : Hp} {B : BA} {v : V} {l1 l2 : List (Str × HA)} {z : Str} {a a' : HA} (h : BkH CB CH H B v) (e : B.mv = l1 ++ (z, a) :: l2)
    (h' : HistAt CH H' a') (ex : a'.x = a.x) (fr : ∀ c ∈ a'.fp, c ∈ a.fp ∨ H c = none) (s : SameL a.fp H H') :
    BkH CB CH H' { B with mv := l1 ++ (z, a') :: l2 } v ∧ (∀ c ∈ BA.fp { B with mv := l1 ++ (z, a') :: l2 }, c ∈ B.fp ∨ H c = none) ∧ SameL B.fp H H' := by
  have efp : B.fp = (B.b :: B.R :: B.M :: B.L :: hsfp l1) ++ (a.fp ++ (hsfp l2 ++ hsfp B.ld)) := by
    unfold BA.fp
    rw [e, hsfp_app, hsfp_cons, List.append_assoc, List.append_assoc]
    rfl
  have efp' : BA.fp { B with mv := l1 ++ (z, a') :: l2 } = (B.b :: B.R :: B.M :: B.L :: hsfp l1) ++ (a'.fp ++ (hsfp l2 ++ hsfp B.ld)) := by
    unfold BA.fp
    show B.b :: B.R :: B.M :: B.L :: (hsfp (l1 ++ (z, a') :: l2) ++ hsfp B.ld) = _
    rw [hsfp_app, hsfp_cons, List.append_assoc, List.append_assoc]
    rfl
  have nd := h.nd
  rw [efp] at nd
  have nd0 := nd
  rw [List.nodup_append, List.nodup_append] at nd
  obtain ⟨_, ⟨_, _, n3⟩, n4⟩ := nd
  have offX : ∀ c ∈ B.b :: B.R :: B.M :: B.L :: hsfp l1, c ∉ a.fp := fun c hc hf => n4 c hc c (List.mem_append_left _ hf) rfl
  have offY : ∀ c ∈ hsfp l2 ++ hsfp B.ld, c ∉ a.fp := fun c hc hf => n3 c hf c hc rfl
  have exf := h.ex
  refine ⟨⟨s _ _ (offX _ List.mem_cons_self) h.ix, s _ _ (offX _ (List.mem_cons_of_mem _ List.mem_cons_self)) h.rd, ?_, s _ _ (offX _ (List.mem_cons_of_mem _ (List.mem_cons_of_mem _ (List.mem_cons_of_mem _ List.mem_cons_self)))) h.ldd, ?_, ?_, ?_⟩, ?_, ?_⟩
  · show H' B.M = some (.dK (hsK (l1 ++ (z, a') :: l2)))
    rw [hsK_swap ex, ← e]
    exact s _ _ (offX _ (List.mem_cons_of_mem _ (List.mem_cons_of_mem _ List.mem_cons_self))) h.md
  · intro q hq
    rcases List.mem_append.mp hq with hq | hq
    · exact (h.hm q (by rw [e]; exact List.mem_append_left _ hq)).monoL s fun c hc => offX c (List.mem_cons_of_mem _ (List.mem_cons_of_mem _ (List.mem_cons_of_mem _ (List.mem_cons_of_mem _ (hsfp_mem.mpr ⟨q, hq, hc⟩)))))
    · rcases List.mem_cons.mp hq with rfl | hq
      · exact h'
      · exact (h.hm q (by rw [e]; exact List.mem_append_right _ (List.mem_cons_of_mem _ hq))).monoL s fun c hc => offY c (List.mem_append_left _ (hsfp_mem.mpr ⟨q, hq, hc⟩))
  · exact fun q hq => (h.hl q hq).monoL s fun c hc => offY c (List.mem_append_right _ (hsfp_mem.mpr ⟨q, hq, hc⟩))
  · rw [efp']
    refine nodup_swap nd0 h'.nd fun c hc => ?_
    rcases fr c hc with f | f
    · exact .inl f
    · refine .inr ⟨fun z => ?_, fun z => ?_⟩
      · obtain ⟨o, w⟩ := exf c (by rw [efp]; exact List.mem_append_left _ z)
        rw [f] at w
        cases w
      · obtain ⟨o, w⟩ := exf c (by rw [efp]; exact List.mem_append_right _ (List.mem_append_right _ z))
        rw [f] at w
        cases w
  · intro c hc
    rw [efp'] at hc
    rw [efp]
    rcases List.mem_append.mp hc with hc | hc
    · exact .inl (List.mem_append_left _ hc)
    · rcases List.mem_append.mp hc with hc | hc
      · exact (fr c hc).imp (fun f => List.mem_append_right _ (List.mem_append_left _ f)) id
      · exact .inl (List.mem_append_right _ (List.mem_append_right _ hc))
  · refine s.mono fun c hc => ?_
    rw [efp]
    exact List.mem_append_right _ (List.mem_append_left _ hc)
/-- one light's history put otherwise -/
theorem BkH.setL {CB CH : Addr} {H H' : Hp} {B : BA} {v : V} {l1 l2 : List (Str × HA)} {z : Str} {a a' : HA} (h : BkH CB CH H B v) (e : B.ld = l1 ++ (z, a) :: l2)
    (h' : HistAt CH H' a') (ex : a'.x = a.x) (fr : ∀ c ∈ a'.fp, c ∈ a.fp ∨ H c = none) (s : SameL a.fp H H') :
    BkH CB CH H' { B with ld := l1 ++ (z, a') :: l2 } v ∧ (∀ c ∈ BA.fp { B with ld := l1 ++ (z, a') :: l2 }, c ∈ B.fp ∨ H c = none) ∧ SameL B.fp H H' := by
  have efp : B.fp = (B.b :: B.R :: B.M :: B.L :: (hsfp B.mv ++ hsfp l1)) ++ (a.fp ++ hsfp l2) := by
    unfold BA.fp
    rw [e, hsfp_app, hsfp_cons, ← List.append_assoc]
    rfl
  have efp' : BA.fp { B with ld := l1 ++ (z, a') :: l2 } = (B.b :: B.R :: B.M :: B.L :: (hsfp B.mv ++ hsfp l1)) ++ (a'.fp ++ hsfp l2) := by
    unfold BA.fp
    show B.b :: B.R :: B.M :: B.L :: (hsfp B.mv ++ hsfp (l1 ++ (z, a') :: l2)) = _
    rw [hsfp_app, hsfp_cons, ← List.append_assoc]
    rfl
  have nd := h.nd
  rw [efp] at nd
  have nd0 := nd
  rw [List.nodup_append, List.nodup_append] at nd
  obtain ⟨_, ⟨_, _, n3⟩, n4⟩ := nd
  have offX : ∀ c ∈ B.b :: B.R :: B.M :: B.L :: (hsfp B.mv ++ hsfp l1), c ∉ a.fp := fun c hc hf => n4 c hc c (List.mem_append_left _ hf) rfl
  have offY : ∀ c ∈ hsfp l2, c ∉ a.fp := fun c hc hf => n3 c hf c hc rfl
  have exf := h.ex
  have d4 : ∀ {c : Addr} {X : List Addr}, c ∈ X → c ∈ B.b :: B.R :: B.M :: B.L :: X := fun h => List.mem_cons_of_mem _ (List.mem_cons_of_mem _ (List.mem_cons_of_mem _ (List.mem_cons_of_mem _ h)))
  refine ⟨⟨s _ _ (offX _ List.mem_cons_self) h.ix, s _ _ (offX _ (List.mem_cons_of_mem _ List.mem_cons_self)) h.rd, s _ _ (offX _ (List.mem_cons_of_mem _ (List.mem_cons_of_mem _ List.mem_cons_self))) h.md, ?_, ?_, ?_, ?_⟩, ?_, ?_⟩
  · show H' B.L = some (.dK (hsK (l1 ++ (z, a') :: l2)))
    rw [hsK_swap ex, ← e]
    exact s _ _ (offX _ (List.mem_cons_of_mem _ (List.mem_cons_of_mem _ (List.mem_cons_of_mem _ List.mem_cons_self)))) h.ldd
  · exact fun q hq => (h.hm q hq).monoL s fun c hc => offX c (d4 (List.mem_append_left _ (hsfp_mem.mpr ⟨q, hq, hc⟩)))
  · intro q hq
    rcases List.mem_append.mp hq with hq | hq
    · exact (h.hl q (by rw [e]; exact List.mem_append_left _ hq)).monoL s fun c hc => offX c (d4 (List.mem_append_right _ (hsfp_mem.mpr ⟨q, hq, hc⟩)))
    · rcases List.mem_cons.mp hq with rfl | hq
      · exact h'
      · exact (h.hl q (by rw [e]; exact List.mem_append_right _ (List.mem_cons_of_mem _ hq))).monoL s fun c hc => offY c (hsfp_mem.mpr ⟨q, hq, hc⟩)
  · rw [efp']
    refine nodup_swap nd0 h'.nd fun c hc => ?_
    rcases fr c hc with f | f
    · exact .inl f
    · refine .inr ⟨fun z => ?_, fun z => ?_⟩
      · obtain ⟨o, w⟩ := exf c (by rw [efp]; exact List.mem_append_left _ z)
        rw [f] at w
        cases w
      · obtain ⟨o, w⟩ := exf c (by rw [efp]; exact List.mem_append_right _ (List.mem_append_right _ z))
        rw [f] at w
        cases w
  · intro c hc
    rw [efp'] at hc
    rw [efp]
    rcases List.mem_append.mp hc with hc | hc
    · exact .inl (List.mem_append_left _ hc)
    · rcases List.mem_append.mp hc with hc | hc
      · exact (fr c hc).imp (fun f => List.mem_append_right _ (List.mem_append_left _ f)) id
      · exact .inl (List.mem_append_right _ (List.mem_append_right _ hc))
  · refine s.mono fun c hc => ?_
    rw [efp]
    exact List.mem_append_right _ (List.mem_append_left _ hc)
/-- one light more -/
theorem BkH.newL {CB CH : Addr} {H H1 H' : Hp} {B : BA} {v : V} {z : Str} {a : HA} (h : BkH CB CH H B v) (s1 : Same H H1) (h' : HistAt CH H1 a) (fr : ∀ c ∈ a.fp, H c = none)
    (hL : H' B.L = some (.dK (hsK (B.ld ++ [(z, a)])))) (s : SameB B.L H1 H') :
    BkH CB CH H' { B with ld := B.ld ++ [(z, a)] } v ∧ (∀ c ∈ BA.fp { B with ld := B.ld ++ [(z, a)] }, c ∈ B.fp ∨ H c = none) ∧ SameL B.fp H H' := by
  have efp' : BA.fp { B with ld := B.ld ++ [(z, a)] } = B.fp ++ a.fp := by
    unfold BA.fp
    show B.b :: B.R :: B.M :: B.L :: (hsfp B.mv ++ hsfp (B.ld ++ [(z, a)])) = _
    rw [hsfp_app, ← List.append_assoc]
    show _ = B.b :: B.R :: B.M :: B.L :: (hsfp B.mv ++ hsfp B.ld ++ a.fp)
    rw [show hsfp [(z, a)] = a.fp from List.append_nil _]
  have exf := h.ex
  have nd := h.nd
  have n1 := (List.nodup_cons.mp nd).1
  have n2 := (List.nodup_cons.mp (List.nodup_cons.mp nd).2).1
  have n3 := (List.nodup_cons.mp (List.nodup_cons.mp (List.nodup_cons.mp nd).2).2).1
  have n4 := (List.nodup_cons.mp (List.nodup_cons.mp (List.nodup_cons.mp (List.nodup_cons.mp nd).2).2).2).1
  have mL : B.L ∈ B.fp := List.mem_cons_of_mem _ (List.mem_cons_of_mem _ (List.mem_cons_of_mem _ List.mem_cons_self))
  have up : ∀ c o, c ≠ B.L → H c = some o → H' c = some o := fun c o n e => s c o n (s1 c o e)
  refine ⟨⟨up _ _ (fun z => n1 (by rw [z]; exact List.mem_cons_of_mem _ (List.mem_cons_of_mem _ List.mem_cons_self))) h.ix, up _ _ (fun z => n2 (by rw [z]; exact List.mem_cons_of_mem _ List.mem_cons_self)) h.rd,
    up _ _ (fun z => n3 (by rw [z]; exact List.mem_cons_self)) h.md, hL, ?_, ?_, ?_⟩, ?_, ?_⟩
  · exact fun q hq => (h.hm q hq).by fun c hc o e => up c o (fun z => n4 (by rw [← z]; exact List.mem_append_left _ (hsfp_mem.mpr ⟨q, hq, hc⟩))) e
  · intro q hq
    rcases List.mem_append.mp hq with hq | hq
    · exact (h.hl q hq).by fun c hc o e => up c o (fun z => n4 (by rw [← z]; exact List.mem_append_right _ (hsfp_mem.mpr ⟨q, hq, hc⟩))) e
    · rw [List.mem_singleton.mp hq]
      refine h'.by fun c hc o e => s c o (fun z => ?_) e
      obtain ⟨o', w⟩ := exf B.L mL
      rw [← z, fr c hc] at w
      cases w
  · rw [efp', List.nodup_append]
    refine ⟨nd, h'.nd, fun x hx y hy z => ?_⟩
    obtain ⟨o', w⟩ := exf x hx
    rw [z, fr y hy] at w
    cases w
  · intro c hc
    rw [efp'] at hc
    exact (List.mem_append.mp hc).imp id (fr c)
  · exact fun c o n e => up c o (fun z => n (by rw [z]; exact mL)) e
/-- another latest day -/
theorem BkH.late {CB CH : Addr} {H : Hp} {B : BA} {v : V} (h : BkH CB CH H B v) (v' : V) :
    BkH CB CH (upd H B.b (.ins CB B.dx [("rank_of", .ref B.R), ("moves", .ref B.M), ("landings", .ref B.L), ("latest_known", v')])) B v' := by
  have n1 := (List.nodup_cons.mp h.nd).1
  have up : ∀ {c : Addr} {o : HO}, c ∈ B.R :: B.M :: B.L :: (hsfp B.mv ++ hsfp B.ld) → H c = some o → upd H B.b (.ins CB B.dx [("rank_of", .ref B.R), ("moves", .ref B.M), ("landings", .ref B.L), ("latest_known", v')]) c = some o := fun hc e => by
    rw [upd_ne (fun z => n1 (by rw [← z]; exact hc))]
    exact e
  have d3 : ∀ {c : Addr}, c ∈ hsfp B.mv ++ hsfp B.ld → c ∈ B.R :: B.M :: B.L :: (hsfp B.mv ++ hsfp B.ld) := fun h => List.mem_cons_of_mem _ (List.mem_cons_of_mem _ (List.mem_cons_of_mem _ h))
  exact ⟨upd_same, up List.mem_cons_self h.rd, up (List.mem_cons_of_mem _ List.mem_cons_self) h.md, up (List.mem_cons_of_mem _ (List.mem_cons_of_mem _ List.mem_cons_self)) h.ldd,
    fun q hq => (h.hm q hq).by fun c hc o e => up (d3 (List.mem_append_left _ (hsfp_mem.mpr ⟨q, hq, hc⟩))) e,
    fun q hq => (h.hl q hq).by fun c hc o e => up (d3 (List.mem_append_right _ (hsfp_mem.mpr ⟨q, hq, hc⟩))) e, h.nd⟩
/-- a book of these ranks stands at b, told these things; its own addresses are fp -/
def Bk (CB CH : Addr) (H : Hp) (b : Addr) (rk : List (Str × Int)) (es : List Evt) (fp : List Addr) : Prop :=
  ∃ B : BA, B.b = b ∧ B.rk = rk ∧ B.es = es ∧ B.fp = fp ∧ BkH CB CH H B (lateV es) ∧ BkP B ∧ B.ld.length ≤ B.es.length
theorem Bk.by {CB CH : Addr} {H H' : Hp} {b : Addr} {rk : List (Str × Int)} {es : List Evt} {fp : List Addr} (h : Bk CB CH H b rk es fp) (f : ∀ c ∈ fp, ∀ o, H c = some o → H' c = some o) : Bk CB CH H' b rk es fp := by
  obtain ⟨B, rfl, rfl, rfl, rfl, h1, h2⟩ := h
  exact ⟨B, rfl, rfl, rfl, rfl, h1.by f, h2⟩
theorem Bk.mono {CB CH : Addr} {H H' : Hp} {b : Addr} {rk : List (Str × Int)} {es : List Evt} {fp : List Addr} (h : Bk CB CH H b rk es fp) (s : Same H H') : Bk CB CH H' b rk es fp := h.by fun c _ o e => s c o e
theorem Bk.monoL {CB CH : Addr} {H H' : Hp} {S : List Addr} {b : Addr} {rk : List (Str × Int)} {es : List Evt} {fp : List Addr} (h : Bk CB CH H b rk es fp) (s : SameL S H H') (n : ∀ c ∈ fp, c ∉ S) : Bk CB CH H' b rk es fp := h.by fun c hc o e => s c o (n c hc) e
theorem Bk.ex {CB CH : Addr} {H : Hp} {b : Addr} {rk : List (Str × Int)} {es : List Evt} {fp : List Addr} (h : Bk CB CH H b rk es fp) : ∀ c ∈ fp, ∃ o, H c = some o := by
  obtain ⟨B, rfl, rfl, rfl, rfl, h1, _⟩ := h
  exact h1.ex
theorem Bk.ev {CB CH : Addr} {H : Hp} {b : Addr} {rk : List (Str × Int)} {es : List Evt} {fp : List Addr} (h : Bk CB CH H b rk es fp) : Rk rk ∧ Rising es ∧ ∀ e ∈ es, EvOK rk e := by
  obtain ⟨B, rfl, rfl, rfl, rfl, _, h2, _⟩ := h
  exact ⟨h2.rk, h2.up, h2.ev⟩
theorem lateV_snoc (es : List Evt) (e : Evt) : lateV (es ++ [e]) = .int e.kn := by
  unfold lateV
  rw [List.getLast?_append]
  rfl
theorem late_le {es : List Evt} {kn : Int} (h : ∀ e ∈ es, e.kn ≤ kn) : lateV es = .non ∨ ∃ l, lateV es = .int l ∧ l ≤ kn := by
  unfold lateV
  cases e : es.getLast? with
  | none => exact .inl rfl
  | some x => exact .inr ⟨x.kn, rfl, h x (List.mem_of_getLast? e)⟩
theorem rising_app {es : List Evt} {e : Evt} (h : Rising es) (g : ∀ a ∈ es, a.kn ≤ e.kn) : Rising (es ++ [e]) := by
  rw [Rising, List.pairwise_append]
  refine ⟨h, List.pairwise_singleton _ _, fun a ha b hb => ?_⟩
  rw [List.mem_singleton.mp hb]
  exact g a ha
/-- the pure side of a told move -/
theorem BkP.tell {B : BA} {l1 l2 : List (Str × HA)} {z : Str} {a a' : HA} {kn d : Int} {w : V} (h : BkP B) (e : B.mv = l1 ++ (z, a) :: l2) (ha : a'.h = noteH a.h kn d w)
    (hk : ∀ x ∈ B.es, x.kn ≤ kn) (ok : EvOK B.rk ⟨true, kn, z, d, w⟩) : BkP { B with mv := l1 ++ (z, a') :: l2, es := B.es ++ [⟨true, kn, z, d, w⟩] } := by
  have nk : (B.mv.map (·.1)).Nodup := by rw [h.km]; exact h.rk.nd
  rw [e, List.map_append, List.map_cons, List.nodup_append, List.nodup_cons] at nk
  obtain ⟨_, ⟨k2, _⟩, k4⟩ := nk
  have hne : ∀ q ∈ l1 ++ l2, q.1 ≠ z := by
    intro q hq hz
    rcases List.mem_append.mp hq with hq | hq
    · exact k4 z (by rw [← hz]; exact List.mem_map.mpr ⟨q, hq, rfl⟩) z List.mem_cons_self rfl
    · exact k2 (by show z ∈ _; rw [← hz]; exact List.mem_map.mpr ⟨q, hq, rfl⟩)
  have old : ∀ q ∈ l1 ++ l2, q.2.h = histE (B.es ++ [⟨true, kn, z, d, w⟩]) true q.1 := by
    intro q hq
    rw [histE_snoc, step_ne (fun he => hne q hq he.2.symm)]
    exact h.hm q (by
      rw [e]
      rcases List.mem_append.mp hq with hq | hq
      · exact List.mem_append_left _ hq
      · exact List.mem_append_right _ (List.mem_cons_of_mem _ hq))
  refine ⟨h.rk, ?_, h.lk, ?_, ?_, ?_, rising_app h.up hk, ?_⟩
  · have := h.km
    rw [e] at this
    show (l1 ++ (z, a') :: l2).map (·.1) = _
    rw [← this, List.map_append, List.map_append]
    rfl
  · intro q hq
    rcases List.mem_append.mp hq with hq | hq
    · exact old q (List.mem_append_left _ hq)
    rcases List.mem_cons.mp hq with rfl | hq
    · show a'.h = histE (B.es ++ [⟨true, kn, z, d, w⟩]) true z
      rw [histE_snoc]
      rw [step_eq, ha]
      have := h.hm (z, a) (by rw [e]; exact List.mem_append_right _ List.mem_cons_self)
      rw [show a.h = _ from this]
    · exact old q (List.mem_append_right _ hq)
  · intro q hq
    show q.2.h = histE (B.es ++ [⟨true, kn, z, d, w⟩]) false q.1
    rw [histE_snoc, step_ne (fun he => by cases he.1)]
    exact h.hl q hq
  · intro x hx hm
    rcases List.mem_append.mp hx with hx | hx
    · exact h.ln x hx hm
    · rw [List.mem_singleton.mp hx] at hm
      cases hm
  · intro x hx
    rcases List.mem_append.mp hx with hx | hx
    · exact h.ev x hx
    · rw [List.mem_singleton.mp hx]
      exact ok
/-- the pure side of a told landing, of a light that has a history -/
theorem BkP.land {B : BA} {l1 l2 : List (Str × HA)} {z : Str} {a a' : HA} {kn d : Int} {w : V} (h : BkP B) (e : B.ld = l1 ++ (z, a) :: l2) (ha : a'.h = noteH a.h kn d w)
    (hk : ∀ x ∈ B.es, x.kn ≤ kn) (ok : EvOK B.rk ⟨false, kn, z, d, w⟩) : BkP { B with ld := l1 ++ (z, a') :: l2, es := B.es ++ [⟨false, kn, z, d, w⟩] } := by
  have nk := h.lk
  rw [e, List.map_append, List.map_cons, List.nodup_append, List.nodup_cons] at nk
  obtain ⟨_, ⟨k2, _⟩, k4⟩ := nk
  have hne : ∀ q ∈ l1 ++ l2, q.1 ≠ z := by
    intro q hq hz
    rcases List.mem_append.mp hq with hq | hq
    · exact k4 z (by rw [← hz]; exact List.mem_map.mpr ⟨q, hq, rfl⟩) z List.mem_cons_self rfl
    · exact k2 (by show z ∈ _; rw [← hz]; exact List.mem_map.mpr ⟨q, hq, rfl⟩)
  have old : ∀ q ∈ l1 ++ l2, q.2.h = histE (B.es ++ [⟨false, kn, z, d, w⟩]) false q.1 := by
    intro q hq
    rw [histE_snoc, step_ne (fun he => hne q hq he.2.symm)]
    exact h.hl q (by
      rw [e]
      rcases List.mem_append.mp hq with hq | hq
      · exact List.mem_append_left _ hq
      · exact List.mem_append_right _ (List.mem_cons_of_mem _ hq))
  have ek : (l1 ++ (z, a') :: l2).map (·.1) = B.ld.map (·.1) := by
    rw [e, List.map_append, List.map_append]
    rfl
  refine ⟨h.rk, h.km, ?_, ?_, ?_, ?_, rising_app h.up hk, ?_⟩
  · show ((l1 ++ (z, a') :: l2).map (·.1)).Nodup
    rw [ek]
    exact h.lk
  · intro q hq
    show q.2.h = histE (B.es ++ [⟨false, kn, z, d, w⟩]) true q.1
    rw [histE_snoc, step_ne (fun he => by cases he.1)]
    exact h.hm q hq
  · intro q hq
    rcases List.mem_append.mp hq with hq | hq
    · exact old q (List.mem_append_left _ hq)
    rcases List.mem_cons.mp hq with rfl | hq
    · show a'.h = histE (B.es ++ [⟨false, kn, z, d, w⟩]) false z
      rw [histE_snoc]
      rw [step_eq, ha]
      have := h.hl (z, a) (by rw [e]; exact List.mem_append_right _ List.mem_cons_self)
      rw [show a.h = _ from this]
    · exact old q (List.mem_append_right _ hq)
  · intro x hx hm
    show x.who ∈ (l1 ++ (z, a') :: l2).map (·.1)
    rw [ek]
    rcases List.mem_append.mp hx with hx | hx
    · exact h.ln x hx hm
    · rw [List.mem_singleton.mp hx, e, List.map_append]
      exact List.mem_append_right _ List.mem_cons_self
  · intro x hx
    rcases List.mem_append.mp hx with hx | hx
    · exact h.ev x hx
    · rw [List.mem_singleton.mp hx]
      exact ok
theorem hist_none {z : Str} : ∀ es : List Evt, (∀ e ∈ es, e.mv = false → e.who ≠ z) → histE es false z = [] := by
  refine snoc_ind (fun _ => rfl) fun es e ih h => ?_
  rw [histE_snoc, ih fun x hx => h x (List.mem_append_left _ hx)]
  unfold stepH
  rw [if_neg (fun he => h e (List.mem_append_right _ List.mem_cons_self) (ofE_iff.mp he).1 (ofE_iff.mp he).2)]
/-- one light more, of which nothing was told -/
theorem BkP.newL {B : BA} {z : Str} {a : HA} (h : BkP B) (hz : z ∉ B.ld.map (·.1)) (ha : a.h = []) : BkP { B with ld := B.ld ++ [(z, a)] } := by
  refine ⟨h.rk, h.km, ?_, h.hm, ?_, ?_, h.up, h.ev⟩
  · show ((B.ld ++ [(z, a)]).map (·.1)).Nodup
    rw [List.map_append, List.nodup_append]
    refine ⟨h.lk, List.nodup_cons.mpr ⟨nofun, List.nodup_nil⟩, fun x hx y hy e => ?_⟩
    rw [List.map_singleton, List.mem_singleton] at hy
    exact hz (by rw [← show y = z from hy, ← e]; exact hx)
  · intro q hq
    rcases List.mem_append.mp hq with hq | hq
    · exact h.hl q hq
    · rw [List.mem_singleton.mp hq]
      show a.h = _
      rw [ha, hist_none B.es fun e he hm (e2 : e.who = z) => hz (by rw [← e2]; exact h.ln e he hm)]
  · intro x hx hm
    show x.who ∈ (B.ld ++ [(z, a)]).map (·.1)
    rw [List.map_append]
    exact List.mem_append_left _ (h.ln x hx hm)
end LT
set_option Elab.async false
set_option linter.all false
set_option maxRecDepth 100000
set_option maxHeartbeats 1600000
/-! Own layer: {k: v} with a tuple as key; "".join(reversed(a list)). -/
namespace LT
open PySem PySem.Spec PyProof.Rows L2 NdefX
/-! ### {k: v}, k a tuple -/
/-! ### "".join(reversed(xs)) -/
end LT
set_option Elab.async false
set_option linter.all false
set_option maxRecDepth 100000
set_option maxHeartbeats 1600000
/-! Own layer: weathers along tables, and the search for the first one beyond (pure). -/
namespace LT
open PySem PySem.Spec PyProof.Rows L2 NdefX
/-- where some weather leads -/
def aftF (t : KTab) : Int → List Nat → Option Int
  | i, [] => some i
  | i, c :: cs => match (t[i.toNat]?).bind (fun r => getA r ⟨#[c]⟩) with
    | none => none
    | some j => aftF t j cs
def rowAt (t : KTab) (i : Int) : KRow := (t[i.toNat]?).getD []
theorem rowAt_of {t : KTab} {i : Int} {r : KRow} (e : t[i.toNat]? = some r) : rowAt t i = r := by unfold rowAt; rw [e]; rfl
theorem bind_row (t : KTab) (i : Int) (z : Str) : (t[i.toNat]?).bind (fun r => getA r z) = getA (rowAt t i) z := by
  unfold rowAt
  cases t[i.toNat]? with
  | none => rfl
  | some r => rfl
theorem aft_cons (t : KTab) (i : Int) (c : Nat) (cs : List Nat) : aftF t i (c :: cs) = (getA (rowAt t i) ⟨#[c]⟩).bind fun j => aftF t j cs := by
  rw [aftF, bind_row]
  cases getA (rowAt t i) ⟨#[c]⟩ <;> rfl
theorem aft_app (t : KTab) : ∀ (a b : List Nat) (i : Int), aftF t i (a ++ b) = (aftF t i a).bind fun j => aftF t j b
  | [], b, i => rfl
  | c :: a, b, i => by
    rw [List.cons_append, aft_cons, aft_cons]
    cases getA (rowAt t i) ⟨#[c]⟩ with
    | none => rfl
    | some j => exact aft_app t a b j
theorem aft_snoc (t : KTab) (w : List Nat) (c : Nat) (i : Int) : aftF t i (w ++ [c]) = (aftF t i w).bind fun j => getA (rowAt t j) ⟨#[c]⟩ := by
  rw [aft_app]
  cases aftF t i w with
  | none => rfl
  | some j =>
    show aftF t j [c] = getA (rowAt t j) ⟨#[c]⟩
    rw [aft_cons]
    cases getA (rowAt t j) ⟨#[c]⟩ <;> rfl
theorem KTb.rowAt {t : KTab} (k : KTb t) {i : Int} (h0 : 0 ≤ i) (h1 : i < t.length) : KRw t.length (rowAt t i) := by
  have : i.toNat < t.length := by omega
  have e : t[i.toNat]? = some t[i.toNat] := List.getElem?_eq_getElem this
  rw [rowAt_of e]
  exact k.at_ e
/-! ### the search -/
abbrev Ent := (Int × Int) × List Nat
def addE (es : List Ent) (p : Int × Int) (w : List Nat) : List Ent := if p ∈ es.map (·.1) then es else es ++ [(p, w)]
theorem addE_pre (es : List Ent) (p : Int × Int) (w : List Nat) : es <+: addE es p w := by
  unfold addE
  split
  · exact List.prefix_refl _
  · exact List.prefix_append _ _
theorem addE_mem (es : List Ent) (p : Int × Int) (w : List Nat) : p ∈ (addE es p w).map (·.1) := by
  unfold addE
  split
  · assumption
  · rw [List.map_append, List.mem_append]
    exact .inr List.mem_cons_self
theorem addE_in {es : List Ent} {p : Int × Int} {w : List Nat} {e : Ent} (h : e ∈ addE es p w) : e ∈ es ∨ e = (p, w) := by
  unfold addE at h
  split at h
  · exact .inl h
  · rcases List.mem_append.mp h with h | h
    · exact .inl h
    · exact .inr (List.mem_singleton.mp h)
def scanR (w : List Nat) (o : KRow) : KRow → List Ent → (List Nat) ⊕ (List Ent)
  | [], es => .inr es
  | (z, v) :: r, es => match getA o z with
    | none => .inl (w ++ z.cps.toList)
    | some u => scanR w o r (addE es (v, u) (w ++ z.cps.toList))
inductive BSt
  | run (a : Nat) (es : List Ent)
  | stop (x : Option (List Nat))
def stepB (t u : KTab) : BSt → BSt
  | .stop x => .stop x
  | .run a es => match es[a]? with
    | none => .stop none
    | some e => match scanR e.2 (rowAt u e.1.2) (rowAt t e.1.1) es with
      | .inl w => .stop (some w)
      | .inr es' => .run (a + 1) es'
def iterB (t u : KTab) : Nat → BSt
  | 0 => .run 0 [((0, 0), [])]
  | n + 1 => stepB t u (iterB t u n)
def Res (t u : KTab) (x : Option (List Nat)) : Prop := ∃ n, iterB t u n = .stop x
theorem iter_stay {t u : KTab} {n : Nat} {x : Option (List Nat)} (h : iterB t u n = .stop x) : ∀ m, iterB t u (n + m) = .stop x
  | 0 => h
  | m + 1 => by
    show stepB t u (iterB t u (n + m)) = _
    rw [iter_stay h m]
    rfl
theorem Res.uniq {t u : KTab} {x y : Option (List Nat)} (h : Res t u x) (g : Res t u y) : x = y := by
  obtain ⟨n, h⟩ := h
  obtain ⟨m, g⟩ := g
  have a := iter_stay h m
  have b := iter_stay g n
  rw [Nat.add_comm] at b
  rw [a] at b
  injection b
/-- what holds of all that is met -/
structure BI (t u : KTab) (es : List Ent) : Prop where
  nd : (es.map (·.1)).Nodup
  bd : ∀ e ∈ es, (0 ≤ e.1.1 ∧ e.1.1 < t.length) ∧ (0 ≤ e.1.2 ∧ e.1.2 < u.length)
  re : ∀ e ∈ es, aftF t 0 e.2 = some e.1.1 ∧ aftF u 0 e.2 = some e.1.2
  hd : es[0]? = some ((0, 0), [])
theorem BI.start {t u : KTab} (k1 : KTb t) (k2 : KTb u) : BI t u [((0, 0), [])] := by
  have a := k1.l1
  have b := k2.l1
  refine ⟨List.nodup_cons.mpr ⟨nofun, List.nodup_nil⟩, fun e he => ?_, fun e he => ?_, rfl⟩
  · rw [List.mem_singleton.mp he]
    exact ⟨⟨Int.le_refl _, by show (0 : Int) < _; omega⟩, ⟨Int.le_refl _, by show (0 : Int) < _; omega⟩⟩
  · rw [List.mem_singleton.mp he]
    exact ⟨rfl, rfl⟩
theorem BI.add {t u : KTab} {es : List Ent} (h : BI t u es) {i j : Int} {w : List Nat} (hi : 0 ≤ i ∧ i < t.length) (hj : 0 ≤ j ∧ j < u.length) (ht : aftF t 0 w = some i) (hu : aftF u 0 w = some j) : BI t u (addE es (i, j) w) := by
  refine ⟨?_, fun e he => ?_, fun e he => ?_, ?_⟩
  · unfold addE
    split
    · exact h.nd
    · rename_i hn
      rw [List.map_append, List.nodup_append]
      refine ⟨h.nd, List.nodup_cons.mpr ⟨nofun, List.nodup_nil⟩, fun x hx y hy => ?_⟩
      rw [List.mem_singleton.mp hy]
      rintro rfl
      exact hn hx
  · rcases addE_in he with he | rfl
    · exact h.bd e he
    · exact ⟨hi, hj⟩
  · rcases addE_in he with he | rfl
    · exact h.re e he
    · exact ⟨ht, hu⟩
  · obtain ⟨s, hs⟩ := addE_pre es (i, j) w
    rw [← hs, List.getElem?_append_left, h.hd]
    exact (List.getElem?_eq_some_iff.mp h.hd).1
theorem box_len (n m : Nat) (ps : List (Int × Int)) (nd : ps.Nodup) (h : ∀ p ∈ ps, (0 ≤ p.1 ∧ p.1 < n) ∧ (0 ≤ p.2 ∧ p.2 < m)) : ps.length ≤ n * m := by
  have hs : ps ⊆ (List.range n).flatMap fun i => (List.range m).map fun j => (((i : Nat) : Int), ((j : Nat) : Int)) := by
    intro p hp
    obtain ⟨⟨a, b⟩, c, d⟩ := h p hp
    rw [List.mem_flatMap]
    refine ⟨p.1.toNat, List.mem_range.mpr (by omega), List.mem_map.mpr ⟨p.2.toNat, List.mem_range.mpr (by omega), ?_⟩⟩
    rw [show ((p.1.toNat : Nat) : Int) = p.1 by omega, show ((p.2.toNat : Nat) : Int) = p.2 by omega]
  have hl := List.Nodup.length_le_of_subset nd hs
  have e : ((List.range n).flatMap fun i => (List.range m).map fun j => (((i : Nat) : Int), ((j : Nat) : Int))).length = n * m := by
    clear hl hs h nd ps
    induction n with
    | zero => simp
    | succ n ih => rw [List.range_succ, List.flatMap_append, List.length_append, ih]; simp [Nat.succ_mul]
  omega
theorem BI.len {t u : KTab} {es : List Ent} (h : BI t u es) (k1 : KTb t) (k2 : KTb u) : es.length ≤ 1000000 := by
  have := box_len t.length u.length (es.map (·.1)) h.nd (fun p hp => by
    obtain ⟨e, he, rfl⟩ := List.mem_map.mp hp
    exact h.bd e he)
  rw [List.length_map] at this
  have := Nat.mul_le_mul k1.l2 k2.l2
  omega
/-- a row scanned -/
theorem scan_ok {t u : KTab} (k1 : KTb t) (k2 : KTb u) {i j : Int} {w : List Nat} (hi : 0 ≤ i ∧ i < t.length) (hj : 0 ≤ j ∧ j < u.length) (ht : aftF t 0 w = some i) (hu : aftF u 0 w = some j) :
    ∀ (r : KRow) (es : List Ent), (∀ p ∈ r, getA (rowAt t i) p.1 = some p.2) → BI t u es →
    (∀ es', scanR w (rowAt u j) r es = .inr es' → es <+: es' ∧ BI t u es' ∧ ∀ p ∈ r, ∃ l, getA (rowAt u j) p.1 = some l ∧ (p.2, l) ∈ es'.map (·.1)) ∧
    (∀ x, scanR w (rowAt u j) r es = .inl x → ∃ p ∈ r, getA (rowAt u j) p.1 = none ∧ x = w ++ p.1.cps.toList)
  | [], es, _, h => ⟨fun es' e => by cases e; exact ⟨List.prefix_refl _, h, nofun⟩, fun x e => by cases e⟩
  | (z, v) :: r, es, hr, h => by
    have hz := hr _ List.mem_cons_self
    have kt := k1.rowAt hi.1 hi.2
    have ku := k2.rowAt hj.1 hj.2
    obtain ⟨c, _, rfl⟩ : Ltr z := kt.lt _ (getA_mem hz)
    unfold scanR
    cases hg : getA (rowAt u j) ⟨#[c]⟩ with
    | none =>
      refine ⟨fun es' e => ?_, fun x e => ?_⟩
      · cases e
      · cases e
        exact ⟨_, List.mem_cons_self, hg, rfl⟩
    | some l =>
      have a1 : aftF t 0 (w ++ [c]) = some v := by rw [aft_snoc, ht]; exact hz
      have a2 : aftF u 0 (w ++ [c]) = some l := by rw [aft_snoc, hu]; exact hg
      have h' := h.add (kt.get hz) (ku.get hg) a1 a2
      obtain ⟨i1, i2⟩ := scan_ok k1 k2 hi hj ht hu r _ (fun p hp => hr p (List.mem_cons_of_mem _ hp)) h'
      refine ⟨fun es' e => ?_, fun x e => ?_⟩
      · obtain ⟨p1, p2, p3⟩ := i1 es' e
        refine ⟨(addE_pre _ _ _).trans p1, p2, fun p hp => ?_⟩
        rcases List.mem_cons.mp hp with rfl | hp
        · refine ⟨l, hg, ?_⟩
          obtain ⟨s, rfl⟩ := p1
          rw [List.map_append, List.mem_append]
          exact .inl (addE_mem _ _ _)
        · exact p3 p hp
      · obtain ⟨p, hp, q⟩ := i2 x e
        exact ⟨p, List.mem_cons_of_mem _ hp, q⟩
/-- at the head of the loop -/
structure BH (t u : KTab) (n : Nat) (es : List Ent) : Prop where
  it : iterB t u n = .run n es
  bi : BI t u es
  cl : ∀ (k : Nat) (e : Ent), k < n → es[k]? = some e → ∀ z l, getA (rowAt t e.1.1) z = some l → ∃ l', getA (rowAt u e.1.2) z = some l' ∧ (l, l') ∈ es.map (·.1)
theorem BH.start {t u : KTab} (k1 : KTb t) (k2 : KTb u) : BH t u 0 [((0, 0), [])] := ⟨rfl, BI.start k1 k2, fun k e h => by omega⟩
theorem row_all {n : Nat} {r : KRow} (h : KRw n r) : ∀ p ∈ r, getA r p.1 = some p.2 := fun p hp => getA_of_mem h.nd hp
theorem BH.next {t u : KTab} (k1 : KTb t) (k2 : KTb u) {n : Nat} {es es' : List Ent} (h : BH t u n es) {e : Ent} (he : es[n]? = some e) (hs : scanR e.2 (rowAt u e.1.2) (rowAt t e.1.1) es = .inr es') : BH t u (n + 1) es' := by
  have hm := List.mem_of_getElem? he
  obtain ⟨hi, hj⟩ := h.bi.bd e hm
  obtain ⟨ht, hu⟩ := h.bi.re e hm
  obtain ⟨p1, p2, p3⟩ := (scan_ok k1 k2 hi hj ht hu _ es (row_all (k1.rowAt hi.1 hi.2)) h.bi).1 es' hs
  refine ⟨?_, p2, fun k e' hk he' z l hz => ?_⟩
  · show stepB t u (iterB t u n) = _
    rw [h.it]
    show (match es[n]? with | none => _ | some e => _) = _
    rw [he]
    show (match scanR e.2 (rowAt u e.1.2) (rowAt t e.1.1) es with | .inl w => BSt.stop (some w) | .inr es' => .run (n + 1) es') = _
    rw [hs]
  · obtain ⟨s, rfl⟩ := p1
    by_cases hkn : k = n
    · subst hkn
      have : k < es.length := (List.getElem?_eq_some_iff.mp he).1
      rw [List.getElem?_append_left this, he] at he'
      cases he'
      exact p3 (z, l) (getA_mem hz)
    · have hk2 : k < n := by omega
      have hn : n < es.length := (List.getElem?_eq_some_iff.mp he).1
      rw [List.getElem?_append_left (by omega)] at he'
      obtain ⟨l', q1, q2⟩ := h.cl k e' hk2 he' z l hz
      exact ⟨l', q1, by rw [List.map_append, List.mem_append]; exact .inl q2⟩
theorem BH.done {t u : KTab} {n : Nat} {es : List Ent} (h : BH t u n es) (he : es.length ≤ n) : Res t u none := by
  refine ⟨n + 1, ?_⟩
  show stepB t u (iterB t u n) = _
  rw [h.it]
  show (match es[n]? with | none => _ | some e => _) = _
  rw [List.getElem?_eq_none he]
/-! ### what it tells -/
theorem bh_all {t u : KTab} (k1 : KTb t) (k2 : KTb u) : ∀ n, (∃ es, BH t u n es) ∨ ∃ m es, m < n ∧ BH t u m es ∧ iterB t u (m + 1) = iterB t u n ∧ ∀ a es', iterB t u n ≠ .run a es'
  | 0 => .inl ⟨_, BH.start k1 k2⟩
  | n + 1 => by
    rcases bh_all k1 k2 n with ⟨es, h⟩ | ⟨m, es, hm, h, e, hs⟩
    · cases he : es[n]? with
      | none =>
        refine .inr ⟨n, es, Nat.lt_succ_self _, h, rfl, fun a es' => ?_⟩
        show stepB t u (iterB t u n) ≠ _
        rw [h.it]
        show (match es[n]? with | none => _ | some e => _) ≠ _
        rw [he]
        nofun
      | some e =>
        cases hsc : scanR e.2 (rowAt u e.1.2) (rowAt t e.1.1) es with
        | inr es' => exact .inl ⟨es', h.next k1 k2 he hsc⟩
        | inl x =>
          refine .inr ⟨n, es, Nat.lt_succ_self _, h, rfl, fun a es' => ?_⟩
          show stepB t u (iterB t u n) ≠ _
          rw [h.it]
          show (match es[n]? with | none => _ | some e => _) ≠ _
          rw [he]
          show (match scanR e.2 (rowAt u e.1.2) (rowAt t e.1.1) es with | .inl w => BSt.stop (some w) | .inr es' => .run (n + 1) es') ≠ _
          rw [hsc]
          nofun
    · refine .inr ⟨m, es, by omega, h, ?_, ?_⟩
      · rw [e]
        show _ = stepB t u (iterB t u n)
        cases hi : iterB t u n with
        | run a es' => exact absurd hi (hs a es')
        | stop x => rfl
      · intro a es'
        show stepB t u (iterB t u n) ≠ _
        cases hi : iterB t u n with
        | run a es' => exact absurd hi (hs a es')
        | stop x => nofun
/-- it comes to an end -/
theorem Res.ex {t u : KTab} (k1 : KTb t) (k2 : KTb u) : ∃ x, Res t u x := by
  rcases bh_all k1 k2 1000001 with ⟨es, h⟩ | ⟨m, es, _, h, e, hs⟩
  · refine ⟨none, h.done ?_⟩
    have := h.bi.len k1 k2
    omega
  · cases hi : iterB t u 1000001 with
    | run a es' => exact absurd hi (hs a es')
    | stop x => exact ⟨x, _, hi⟩
end LT
set_option Elab.async false
set_option linter.all false
set_option maxRecDepth 100000
set_option maxHeartbeats 1600000
/-! Own layer: promises of the defs that every law over kinds has. -/
namespace LT
open PySem PySem.Spec PyProof.Rows L2 NdefX
theorem small2k {n : Nat} (h : n ≤ 2000) : n < sizeLine := by rw [sizeLine_eq]; omega
def spWhole : Sp := fun vs H Q _ => ∃ v, vs = [v] ∧ Odd H v ∧ Q (.bl (wholeB v)) H
def spWithin : Sp := fun vs H Q _ => ∃ v l m, vs = [v, .int l, .int m] ∧ Odd H v ∧ Q (.bl (withinB v l m)) H
/-- a kind stands at x, its rows as they are kept -/
def Kd (C : Addr) (H : Hp) (x : Addr) (t : KTab) : Prop := ∃ dx l ds, H x = some (.ins C dx [("rows", .ref l)]) ∧ TabAt H l ds t
theorem Kd.mono {C : Addr} {H H' : Hp} {x : Addr} {t : KTab} (h : Kd C H x t) (s : Same H H') : Kd C H' x t := by
  obtain ⟨dx, l, ds, h1, h2⟩ := h
  exact ⟨dx, l, ds, s _ _ h1, h2.mono s⟩
theorem Kd.monoB {C : Addr} {H H' : Hp} {p x : Addr} {t : KTab} (h : Kd C H x t) (hp : Pot H p) (s : SameB p H H') : Kd C H' x t := by
  obtain ⟨dx, l, ds, h1, h2⟩ := h
  exact ⟨dx, l, ds, s _ _ (ne_of_pot hp h1) h1, h2.monoB hp s⟩
def spPot (K : PySem.W.Frag) : Sp := fun vs H Q _ => ∃ (a : Addr) (ns : List Int) (k : Nat), vs = [.ref a, .int (k : Nat)] ∧ SqL K H a (ns.map V.int) ∧ k ≤ 1000 ∧
  ∀ p H', H p = none → Same H H' → Pot H' p → Q (.ref p) H'
/-- unlike letters -/
structure Lts (zs : List Str) : Prop where
  nd : zs.Nodup
  lt : ∀ z ∈ zs, Ltr z
theorem Lts.len {zs : List Str} (h : Lts zs) : zs.length ≤ 26 := letts_few h.nd h.lt
theorem str_at {zs : List Str} {i : Int} (h0 : 0 ≤ i) (h1 : i < zs.length) : ∃ z, zs[i.toNat]? = some z ∧ z ∈ zs ∧ atI (zs.map V.str) i = some (.str z) := by
  obtain ⟨m, rfl⟩ : ∃ m : Nat, i = (m : Nat) := ⟨i.toNat, by omega⟩
  have h2 : m < zs.length := by omega
  exact ⟨zs[m], List.getElem?_eq_getElem h2, List.getElem_mem h2, atI_nat (by rw [List.getElem?_map, List.getElem?_eq_getElem h2]; rfl)⟩
theorem strs_not_ints {zs : List Str} {i j : Int} : (HO.lst (zs.map V.str)) ≠ .lst [.int i, .int j] := by
  intro e
  have e := HO.lst.inj e
  cases zs with
  | nil => cases e
  | cons d r => simp at e
/-- a row under way -/
def KRq (n : Nat) (r : KRow) : Prop := r = [] ∨ KRw n r
theorem KRq.put {n : Nat} {r : KRow} {z : Str} {v : Int} (h : KRq n r) (hz : Ltr z) (h0 : 0 ≤ v) (h1 : v < n) : KRw n (putA r z v) := by
  rcases h with rfl | h
  · refine ⟨nofun, List.nodup_cons.mpr ⟨nofun, List.nodup_nil⟩, fun p hp => ?_, fun p hp => ?_⟩
    · rw [List.mem_singleton.mp hp]
      exact hz
    · rw [List.mem_singleton.mp hp]
      exact ⟨h0, h1⟩
  · exact h.put hz h0 h1
theorem KRq.len {n : Nat} {r : KRow} (h : KRq n r) : r.length ≤ 26 := by
  rcases h with rfl | h
  · exact Nat.zero_le _
  · exact h.len
/-- rows that stand, new since H -/
structure RowsN (H Hx : Hp) (F : Addr) (ds : List Addr) (t : KTab) (n : Nat) : Prop where
  at_ : TabAt Hx F ds t
  nF : H F = none
  nd : ∀ d ∈ ds, H d = none
  rw : ∀ r ∈ t, KRw n r
theorem RowsN.monoB {H Hx Hy : Hp} {p F : Addr} {ds : List Addr} {t : KTab} {n : Nat} (h : RowsN H Hx F ds t n) (hp : Pot Hx p) (s : SameB p Hx Hy) : RowsN H Hy F ds t n := ⟨h.at_.monoB hp s, h.nF, h.nd, h.rw⟩
theorem RowsN.mono {H Hx Hy : Hp} {F : Addr} {ds : List Addr} {t : KTab} {n : Nat} (h : RowsN H Hx F ds t n) (s : Same Hx Hy) : RowsN H Hy F ds t n := ⟨h.at_.mono s, h.nF, h.nd, h.rw⟩
theorem RowsN.upd {H Hx : Hp} {F R : Addr} {o : HO} {ds : List Addr} {t : KTab} {n : Nat} (h : RowsN H Hx F ds t n) (h1 : F ≠ R) (h2 : R ∉ ds) : RowsN H (L2.upd Hx R o) F ds t n :=
  ⟨⟨by rw [upd_ne h1]; exact h.at_.ls, h.at_.rows.upd h2, h.at_.nd⟩, h.nF, h.nd, h.rw⟩
theorem RowsN.snoc {H Hx : Hp} {F R : Addr} {ds : List Addr} {t : KTab} {r : KRow} {n : Nat} (h : RowsN H Hx F ds t n) (nR : H R = none) (hR : Hx R = some (.dK (sd r))) (h2 : R ∉ ds) (hr : KRw n r) :
    RowsN H (L2.upd Hx F (.lst (ds.map V.ref ++ [V.ref R]))) F (ds ++ [R]) (t ++ [r]) n := by
  have hRF : R ≠ F := ne_of hR h.at_.ls (by intro z; cases z)
  have hF : F ∉ ds := fun hd => h.at_.ne hd rfl
  refine ⟨⟨by rw [upd_same, List.map_append]; rfl, KRows.snoc (h.at_.rows.upd hF) (by rw [upd_ne hRF]; exact hR), ?_⟩, h.nF, fun d hd => ?_, fun r' hr' => ?_⟩
  · rw [List.nodup_append]
    refine ⟨h.at_.nd, List.nodup_cons.mpr ⟨nofun, List.nodup_nil⟩, fun x hx y hy => ?_⟩
    rw [List.mem_singleton.mp hy]
    rintro rfl
    exact h2 hx
  · rcases List.mem_append.mp hd with hd | hd
    · exact h.nd d hd
    · rw [List.mem_singleton.mp hd]
      exact nR
  · rcases List.mem_append.mp hr' with hr' | hr'
    · exact h.rw r' hr'
    · rw [List.mem_singleton.mp hr']
      exact hr
/-- the same weathers -/
def LgEq (t' t : KTab) : Prop := ∀ w, (aftF t' 0 w).isSome = (aftF t 0 w).isSome
theorem LgEq.trans {a b c : KTab} (h : LgEq a b) (g : LgEq b c) : LgEq a c := fun w => (h w).trans (g w)
theorem str_app_len (i j : Str) : (i ++ j).length = i.length + j.length := strLen_append i j
theorem small_txt {n : Nat} (h : n ≤ 3000) : n ≤ sizeLine := by rw [sizeLine_eq]; omega
end LT
set_option Elab.async false
set_option linter.all false
set_option maxRecDepth 100000
set_option maxHeartbeats 1600000
/-! Own layer: a sign taken many times; a text within a text; dict.update with a dict; len(set(text)). -/
namespace LT
open PySem PySem.Spec PyProof.Rows L2 NdefX
end LT
set_option Elab.async false
set_option linter.all false
set_option maxRecDepth 100000
set_option maxHeartbeats 3200000
/-! Own layer: len(set(text)). -/
namespace LT
open PySem PySem.Spec PyProof.Rows L2 NdefX
end LT
set_option Elab.async false
set_option linter.all false
set_option maxRecDepth 100000
set_option maxHeartbeats 1600000
/-! Own layer: y = {k: v for ..} as a statement. -/
namespace LT
open PySem PySem.Spec PyProof.Rows L2 NdefX
end LT
set_option Elab.async false
set_option linter.all false
set_option maxRecDepth 100000
set_option maxHeartbeats 1600000
/-! Own layer: a walk on the heap. -/
namespace LT
open PySem PySem.Spec PyProof.Rows L2 NdefX
theorem RiseT.rowAt {t t' : KTab} (h : RiseT t t') (k : KTb t) (i : Int) (z : Str) : getA (rowAt t' i) z = getA (rowAt t i) z := by
  unfold LT.rowAt
  cases hr : t[i.toNat]? with
  | none =>
    have : t'[i.toNat]? = none := by
      rw [List.getElem?_eq_none_iff] at hr ⊢
      rw [h.len]
      exact hr
    rw [this]
  | some r =>
    obtain ⟨r', e1, e2⟩ := h.row hr
    rw [e1]
    exact e2.get (k.at_ hr).nd _
def keyE (p : Int × Int) : List Key := [Sum.inl p.1, Sum.inl p.2]
def numF : Nat → List Ent → List (List Key × V)
  | _, [] => []
  | n, e :: es => (keyE e.1, .int (n : Nat)) :: numF (n + 1) es
/-- a walk that has met es -/
structure WkA (C : Addr) (H : Hp) (x dx P N Y : Addr) (es : List Ent) : Prop where
  ix : H x = some (.ins C dx [("places", .ref P), ("numbers", .ref N), ("ways", .ref Y)])
  pl : ∃ ps : List Addr, H P = some (.lst (ps.map V.ref)) ∧ Paired (fun q (e : Ent) => H q = some (.tup [.int e.1.1, .int e.1.2])) ps es
  nu : H N = some (.dT (numF 0 es))
  wy : ∃ ys : List Addr, H Y = some (.lst (V.non :: ys.map V.ref)) ∧ ys.length + 1 = es.length ∧ ∀ (k : Nat) (y : Addr) (e : Ent), ys[k]? = some y → es[k + 1]? = some e →
    ∃ (o : Nat) (z : Str) (e0 : Ent), H y = some (.tup [.int (o : Nat), .str z]) ∧ o ≤ k ∧ es[o]? = some e0 ∧ Ltr z ∧ e.2 = e0.2 ++ z.cps.toList
  h0 : ∃ p, es[0]? = some (p, [])
def Same3 (P N Y : Addr) (H H' : Hp) : Prop := ∀ b o, b ≠ P → b ≠ N → b ≠ Y → H b = some o → H' b = some o
theorem Same3.of {P N Y : Addr} {H H' : Hp} (s : Same H H') : Same3 P N Y H H' := fun b o _ _ _ e => s b o e
theorem Same3.trans {P N Y : Addr} {H H1 H2 : Hp} (a : Same3 P N Y H H1) (b : Same3 P N Y H1 H2) : Same3 P N Y H H2 := fun c o h1 h2 h3 e => b c o h1 h2 h3 (a c o h1 h2 h3 e)
/-- what another thing's writing leaves -/
theorem WkA.by {C : Addr} {H H' : Hp} {x dx P N Y : Addr} {es : List Ent} (h : WkA C H x dx P N Y es) (f : ∀ b o, H b = some o → (match o with | .ins _ _ _ => True | .lst _ => True | .tup _ => True | .dT _ => True | _ => False) → H' b = some o) : WkA C H' x dx P N Y es := by
  obtain ⟨ps, p1, p2⟩ := h.pl
  obtain ⟨ys, y1, y2, y3⟩ := h.wy
  refine ⟨f _ _ h.ix trivial, ⟨ps, f _ _ p1 trivial, paired_imp (fun q e h => f _ _ h trivial) p2⟩, f _ _ h.nu trivial, ⟨ys, f _ _ y1 trivial, y2, fun k y e h1 h2 => ?_⟩, h.h0⟩
  obtain ⟨o, z, e0, a, b⟩ := y3 k y e h1 h2
  exact ⟨o, z, e0, f _ _ a trivial, b⟩
theorem WkA.mono {C : Addr} {H H' : Hp} {x dx P N Y : Addr} {es : List Ent} (h : WkA C H x dx P N Y es) (s : Same H H') : WkA C H' x dx P N Y es := h.by fun b o e _ => s b o e
theorem WkA.lock {C : Addr} {H : Hp} {x dx P N Y d : Addr} {es : List Ent} {kvs : List (Key × V)} {u : HO} (h : WkA C H x dx P N Y es) (e : H d = some (.dK kvs)) : WkA C (upd H d u) x dx P N Y es := h.by fun b o eb ho => by
  rw [upd_ne (fun z => by rw [z, e] at eb; cases eb; exact ho)]
  exact eb
theorem WkA.len {C : Addr} {H : Hp} {x dx P N Y : Addr} {es : List Ent} (h : WkA C H x dx P N Y es) : ∃ (ps : List Addr), H P = some (.lst (ps.map V.ref)) ∧ ps.length = es.length := by
  obtain ⟨ps, p1, p2⟩ := h.pl
  exact ⟨ps, p1, Paired.length p2⟩
theorem str_eq {a b : Str} (h : a.cps.toList = b.cps.toList) : a = b := by
  obtain ⟨⟨a⟩⟩ := a
  obtain ⟨⟨b⟩⟩ := b
  have : a = b := h
  rw [this]
theorem str_app_codes (a b : Str) : (a ++ b).cps.toList = a.cps.toList ++ b.cps.toList := by
  show (a.cps ++ b.cps).toList = _
  exact Array.toList_append
end LT
set_option Elab.async false
set_option linter.all false
set_option maxRecDepth 100000
set_option maxHeartbeats 1600000
/-! Own layer: == of an own thing with any thing; lists of texts; letters that rise. -/
namespace LT
open PySem PySem.Spec PyProof.Rows L2 NdefX
/-! ### lists of texts -/
/-! ### letters that rise -/
/-! ### pairs met by the law -/
end LT
namespace LT
open PySem PySem.Spec PyProof.Rows L2 NdefX
theorem LgEq.symm {a b : KTab} (h : LgEq a b) : LgEq b a := fun w => (h w).symm
end LT
set_option Elab.async false
set_option linter.all false
set_option maxRecDepth 100000
set_option maxHeartbeats 1600000
/-! Own layer: promises of the defs over books. -/
namespace LT
open PySem PySem.Spec PyProof.Rows L2 NdefX
/-- keys of any dict, one by one -/
theorem walk_enk {κ α : Type} [DecidableEq κ] {gk : κ → Key} {f : α → V} {d : Addr} {o : Obj} {r : List (κ × α)} : Walk (Itk d o (enA gk f r)) r.length (fun H => H d = some (.frz o (.dK (enA gk f r)))) (fun i H x H' => H' = H ∧ ∃ p, r[i]? = some p ∧ x = kV (gk p.1)) := by
  refine ⟨fun i H hi q => ⟨q, by rw [enA_len]; exact hi⟩, fun H q => ⟨q, by rw [enA_len]; exact Nat.le_refl _⟩, fun i H x H' hi _ y => ?_⟩
  obtain ⟨rfl, k, v, h1, rfl⟩ := y
  unfold enA at h1
  rw [List.getElem?_map, List.getElem?_eq_getElem hi] at h1
  cases h1
  exact ⟨rfl, r[i], List.getElem?_eq_getElem hi, rfl⟩
def spFromB : Sp := fun vs H Q _ => ∃ (v : V) (l : Int), vs = [v, .int l] ∧ Odd H v ∧ Q (.bl (fromB v l)) H
def spDayB : Sp := fun vs H Q _ => ∃ (v : V), vs = [v] ∧ Odd H v ∧ Q (.bl (fromB v 0)) H
def spNameB : Sp := fun vs H Q _ => ∃ (v : V), vs = [v] ∧ Odd H v ∧ (∀ z, v = .str z → z.length ≤ sizeLine) ∧ ∀ H', Same H H' → Q (.bl (nameB v)) H'
def placeB : V → Bool
  | .str z => nameB (.str z) || decide (z = Str.ofString "")
  | _ => false
def spPlaceB : Sp := fun vs H Q _ => ∃ (v : V), vs = [v] ∧ Odd H v ∧ (∀ z, v = .str z → z.length ≤ sizeLine) ∧ ∀ H', Same H H' → Q (.bl (placeB v)) H'
theorem pl_b {z : Str} (h : Pl z) : placeB (.str z) = true := by
  rcases h with rfl | h
  · show (nameB (.str (Str.ofString "")) || decide (Str.ofString "" = Str.ofString "")) = true
    rw [decide_eq_true rfl, Bool.or_true]
  · show (nameB (.str z) || _) = true
    rw [h.b]
    rfl
theorem pl_len {z : Str} (h : Pl z) : z.length ≤ 8 := by
  rcases h with rfl | h
  · decide +kernel
  · exact h.l8
def spCkDay : Sp := fun vs H Q _ => ∃ (i : Int), vs = [.int i] ∧ 0 ≤ i ∧ Q .non H
def knOK (kn : Option Int) : Prop := ∀ k, kn = some k → 0 ≤ k
def spCkKnown : Sp := fun vs H Q _ => ∃ (kn : Option Int), vs = [knV kn] ∧ knOK kn ∧ Q .non H
def spCkDays : Sp := fun vs H Q _ => ∃ (i : Int) (kn : Option Int), vs = [.int i, knV kn] ∧ 0 ≤ i ∧ knOK kn ∧ Q .non H
def spCkLight : Sp := fun vs H Q _ => ∃ (z : Str), vs = [.str z] ∧ Nm z ∧ ∀ H', Same H H' → Q .non H'
def spCkPlace : Sp := fun vs H Q _ => ∃ (z : Str), vs = [.str z] ∧ Pl z ∧ ∀ H', Same H H' → Q .non H'
def spCkNumber : Sp := fun vs H Q _ => ∃ (i l : Int), vs = [.int i, .int l] ∧ l ≤ i ∧ Q .non H
def spRanks : Sp := fun vs H Q _ => ∃ (r : Addr) (rk : List (Str × Int)), vs = [.ref r] ∧ H r = some (.dK (sd rk)) ∧ Rk rk ∧ ∀ H', Same H H' → Q (.bl true) H'
def spBInit (CB CH : Addr) : Sp := fun vs H Q _ => ∃ (b dx r : Addr) (rk : List (Str × Int)), vs = [.ref b, .ref r] ∧ H b = some (.ins CB dx []) ∧ H r = some (.dK (sd rk)) ∧ Rk rk ∧
  ∀ (fp : List Addr) (H' : Hp), Bk CB CH H' b rk [] fp → (∀ c ∈ fp, c = b ∨ H c = none) → SameB b H H' → Q .non H'
def spBRanks (CB CH : Addr) : Sp := fun vs H Q _ => ∃ (b : Addr) (rk : List (Str × Int)) (es : List Evt) (fp : List Addr), vs = [.ref b] ∧ Bk CB CH H b rk es fp ∧
  ∀ (r : Addr) (H' : Hp), H r = none → H' r = some (.dK (sd rk)) → Same H H' → Q (.ref r) H'
def spTell (CB CH : Addr) : Sp := fun vs H Q _ => ∃ (b : Addr) (rk : List (Str × Int)) (es : List Evt) (fp : List Addr) (kn d : Int) (z : Str) (w : V), vs = [.ref b, .int kn, .str z, .int d, w] ∧ Bk CB CH H b rk es fp ∧
  EvOK rk ⟨true, kn, z, d, w⟩ ∧ (∀ e ∈ es, e.kn ≤ kn) ∧ es.length < 60 ∧
  ∀ (fp' : List Addr) (H' : Hp), Bk CB CH H' b rk (es ++ [⟨true, kn, z, d, w⟩]) fp' → (∀ c ∈ fp', c ∈ fp ∨ H c = none) → SameL fp H H' → Q .non H'
def spLand (CB CH : Addr) : Sp := fun vs H Q _ => ∃ (b : Addr) (rk : List (Str × Int)) (es : List Evt) (fp : List Addr) (kn d : Int) (z : Str) (w : V), vs = [.ref b, .int kn, .str z, .int d, w] ∧ Bk CB CH H b rk es fp ∧
  EvOK rk ⟨false, kn, z, d, w⟩ ∧ (∀ e ∈ es, e.kn ≤ kn) ∧ es.length < 60 ∧
  ∀ (fp' : List Addr) (H' : Hp), Bk CB CH H' b rk (es ++ [⟨false, kn, z, d, w⟩]) fp' → (∀ c ∈ fp', c ∈ fp ∨ H c = none) → SameL fp H H' → Q .non H'
def spMKn (CB CH : Addr) : Sp := fun vs H Q _ => ∃ (b : Addr) (rk : List (Str × Int)) (es : List Evt) (fp : List Addr) (z : Str) (kn : Option Int), vs = [.ref b, .str z, knV kn] ∧ Bk CB CH H b rk es fp ∧ z ∈ rk.map (·.1) ∧ es.length ≤ 60 ∧
  ∀ (l : Addr) (L : List (Int × V)) (H' : Hp), H l = none → RowsAt H' l L → HoldF (heldE es true z kn) L → L.length ≤ es.length → Same H H' → Q (.ref l) H'
def spLKn (CB CH : Addr) : Sp := fun vs H Q _ => ∃ (b : Addr) (rk : List (Str × Int)) (es : List Evt) (fp : List Addr) (z : Str) (kn : Option Int), vs = [.ref b, .str z, knV kn] ∧ Bk CB CH H b rk es fp ∧ es.length ≤ 60 ∧
  ∀ (l : Addr) (L : List (Int × V)) (H' : Hp), H l = none → RowsAt H' l L → HoldF (heldE es false z kn) L → L.length ≤ es.length → Same H H' → Q (.ref l) H'
def spWhere (CB CH : Addr) : Sp := fun vs H Q _ => ∃ (b : Addr) (rk : List (Str × Int)) (es : List Evt) (fp : List Addr) (z : Str) (d : Int) (kn : Option Int), vs = [.ref b, .str z, .int d, knV kn] ∧ Bk CB CH H b rk es fp ∧ z ∈ rk.map (·.1) ∧ es.length ≤ 60 ∧ 0 ≤ d ∧ knOK kn ∧
  ∀ (r : V) (H' : Hp), IsWhere (heldE es true z kn) d r → Same H H' → Q r H'
def spLanded (CB CH : Addr) : Sp := fun vs H Q _ => ∃ (b : Addr) (rk : List (Str × Int)) (es : List Evt) (fp : List Addr) (z : Str) (d : Int) (kn : Option Int), vs = [.ref b, .str z, .int d, knV kn] ∧ Bk CB CH H b rk es fp ∧ Nm z ∧ es.length ≤ 60 ∧ 0 ≤ d ∧ knOK kn ∧
  ∀ (H' : Hp), Same H H' → Q ((heldO es false z kn d).getD (.int 0)) H'
def spCkKeeper (CB CH : Addr) : Sp := fun vs H Q _ => ∃ (b : Addr) (rk : List (Str × Int)) (es : List Evt) (fp : List Addr) (z : Str), vs = [.ref b, .str z] ∧ Bk CB CH H b rk es fp ∧ z ∈ rk.map (·.1) ∧ ∀ H', Same H H' → Q .non H'
def spNotEarly (CB CH : Addr) : Sp := fun vs H Q _ => ∃ (b : Addr) (rk : List (Str × Int)) (es : List Evt) (fp : List Addr) (kn : Int), vs = [.ref b, .int kn] ∧ Bk CB CH H b rk es fp ∧ (∀ e ∈ es, e.kn ≤ kn) ∧ Q .non H
end LT
set_option Elab.async false
set_option linter.all false
set_option maxRecDepth 100000
set_option maxHeartbeats 1600000
/-! Own layer: books, what the readings want. -/
namespace LT
open PySem PySem.Spec PyProof.Rows L2 NdefX
theorem merge_en {κ α : Type} [DecidableEq κ] {g : κ → Key} {f : α → V} (hg : ∀ a b, g a = g b → a = b) {kvs : List (κ × α)} (nd : (kvs.map (·.1)).Nodup) : mergeK [] (enA g f kvs) = enA g f kvs := by
  suffices h : ∀ (r acc : List (κ × α)), ((acc ++ r).map (·.1)).Nodup → mergeK (enA g f acc) (enA g f r) = enA g f (acc ++ r) from h kvs [] nd
  intro r
  induction r with
  | nil =>
    intro acc _
    rw [List.append_nil]
    rfl
  | cons p r ih =>
    intro acc h
    have e : putK (enA g f acc) (g p.1) (f p.2) = enA g f (acc ++ [p]) := by
      rw [put_en hg, putA_new]
      rw [getA_none_iff]
      rw [List.map_append, List.nodup_append] at h
      exact fun hm => h.2.2 _ hm _ List.mem_cons_self rfl
    show mergeK (putK (enA g f acc) (g p.1) (f p.2)) (enA g f r) = _
    rw [e, ih (acc ++ [p]) (by rw [List.append_assoc]; exact h), List.append_assoc]
    rfl
theorem hsK_val (hs : List (Str × HA)) (z : Str) : valV (hsK hs) (Sum.inr z) = (getA hs z).map fun a => V.ref a.x := val_en inr_inj z hs
theorem hsK_put (hs : List (Str × HA)) (z : Str) (a : HA) : putK (hsK hs) (Sum.inr z) (V.ref a.x) = hsK (putA hs z a) := put_en (f := fun a : HA => V.ref a.x) inr_inj hs z a
theorem hsK_len (hs : List (Str × HA)) : (hsK hs).length = hs.length := enA_len ..
theorem get_key {α : Type} {kvs : List (Str × α)} {z : Str} (h : z ∈ kvs.map (·.1)) : ∃ a, getA kvs z = some a := by
  cases e : getA kvs z with
  | none => exact absurd h (getA_none_iff.mp e)
  | some a => exact ⟨a, rfl⟩
theorem dget_hs {H : Hp} {M : Addr} {hs : List (Str × HA)} {z : Str} {a : HA} (h : H M = some (.dK (hsK hs))) (e : getA hs z = some a) : DGet H M (.str z) (some (.ref a.x)) := by
  have := DGet.k (k := Sum.inr z) h
  rw [hsK_val, e] at this
  exact this
theorem dget_no {H : Hp} {M : Addr} {hs : List (Str × HA)} {z : Str} (h : H M = some (.dK (hsK hs))) (e : getA hs z = none) : DGet H M (.str z) none := by
  have := DGet.k (k := Sum.inr z) h
  rw [hsK_val, e] at this
  exact this
theorem dget_sd {H : Hp} {M : Addr} {r : KRow} {z : Str} {v : Int} (h : H M = some (.dK (sd r))) (e : getA r z = some v) : DGet H M (.str z) (some (.int v)) := by
  have := DGet.k (k := Sum.inr z) h
  rw [val_row, e] at this
  exact this
theorem held_none {es : List Evt} {mv : Bool} {z : Str} {kn : Option Int} {d : Int} (h : ∀ e ∈ es, e.mv = mv → e.who ≠ z) : heldO es mv z kn d = none := by
  cases e : heldO es mv z kn d with
  | none => rfl
  | some w =>
    obtain ⟨e', h1, h2, _⟩ := heldO_mem e
    have := (heldP_iff.mp h2).1
    exact absurd this.2 (h e' h1 this.1)
/-- a landing's worth is a number -/
theorem held_land {rk : List (Str × Int)} {es : List Evt} {z : Str} {kn : Option Int} {d : Int} {w : V} (h : ∀ e ∈ es, EvOK rk e) (e : heldO es false z kn d = some w) : ∃ n : Int, w = .int n ∧ 0 ≤ n ∧ n < 10 ^ 57 := by
  obtain ⟨e', h1, h2, rfl⟩ := heldO_mem e
  exact ((h e' h1).lw (heldP_iff.mp h2).1.1).2
theorem held_move {rk : List (Str × Int)} {es : List Evt} {z : Str} {kn : Option Int} {d : Int} {w : V} (h : ∀ e ∈ es, EvOK rk e) (e : heldO es true z kn d = some w) : w = .non ∨ ∃ y, w = .str y ∧ Pl y := by
  obtain ⟨e', h1, h2, rfl⟩ := heldO_mem e
  exact ((h e' h1).mw (heldP_iff.mp h2).1.1).2
theorem hold_get {rk : List (Str × Int)} {es : List Evt} {z : Str} {kn : Option Int} {L : List (Int × V)} (h : ∀ e ∈ es, EvOK rk e) (hL : HoldF (heldE es false z kn) L) (d : Int) : getA L d = heldO es false z kn d := by
  have nd : (L.map (·.1)).Nodup := by
    rw [List.Nodup, List.pairwise_map]
    exact hL.up.imp fun h => by omega
  cases e : heldO es false z kn d with
  | some w =>
    obtain ⟨n, rfl, _⟩ := held_land h e
    exact getA_of_mem nd ((hL.mem d _).mpr ⟨nofun, by unfold heldE; rw [e]; rfl⟩)
  | none =>
    rw [getA_none_iff]
    intro hm
    obtain ⟨p, hp, rfl⟩ := List.mem_map.mp hm
    obtain ⟨a, b⟩ := (hL.mem p.1 p.2).mp hp
    unfold heldE at b
    rw [e] at b
    exact a b.symm
theorem whereL_snoc (L : List (Int × V)) (p : Int × V) (d : Int) : whereL (L ++ [p]) d = if p.1 ≤ d then p.2 else whereL L d := by
  unfold whereL
  rw [List.foldl_append]
  rfl
theorem take_snoc {α : Type} {xs : List α} {i : Nat} {x : α} (h : xs[i]? = some x) : xs.take (i + 1) = xs.take i ++ [x] := by
  rw [List.take_add_one, h]
  rfl
theorem rows_pairs {K : PySem.W.Frag} {H : Hp} {ts : List Addr} {L : List (Int × V)} (h : RowsP H ts L) : Paired (fun p (kv : Key × V) => SqT K H p [kV kv.1, kv.2]) ts (enA Sum.inl id L) := by
  induction h with
  | nil => exact .nil
  | cons r _ ih => exact .cons (SqT.of r) ih
theorem holdF_nodup {f : Int → V} {L : List (Int × V)} (h : HoldF f L) : (L.map (·.1)).Nodup := by
  rw [List.Nodup, List.pairwise_map]
  exact h.up.imp fun h => by omega
end LT
set_option Elab.async false
set_option linter.all false
set_option maxRecDepth 100000
set_option maxHeartbeats 1000000
namespace LT
open PySem PySem.Spec PyProof.Rows L2 LamX
/-! ### a lambda of one parameter -/
end LT
set_option Elab.async false
set_option linter.all false
set_option maxRecDepth 100000
set_option maxHeartbeats 1000000
namespace LT
open PySem PySem.Spec PyProof.Rows L2 LamX
/-! ### sorted(list or tuple, key=f) -/
end LT
set_option Elab.async false
set_option linter.all false
set_option maxRecDepth 100000
set_option maxHeartbeats 1000000
namespace LT
open PySem PySem.Spec PyProof.Rows L2 LamX
theorem extN_seqL {K : PySem.W.Frag} {H H' : Hp} {a : Addr} {xs : List V} (e : ExtN H H') (h : SqL K H a xs) : SqL K H' a xs := by
  rcases h with (h | ⟨o, h⟩) | h
  · exact .inl (.inl (e _ _ h nofun))
  · exact .inl (.inr ⟨o, e _ _ h nofun⟩)
  · exact .inr h
theorem extN_seqT {K : PySem.W.Frag} {H H' : Hp} {a : Addr} {xs : List V} (e : ExtN H H') (h : SqT K H a xs) : SqT K H' a xs := by
  rcases h with (h | ⟨o, h⟩) | h
  · exact .inl (.inl (e _ _ h nofun))
  · exact .inl (.inr ⟨o, e _ _ h nofun⟩)
  · exact .inr h
end LT
set_option Elab.async false
set_option linter.all false
namespace LD
abbrev Row := Int × Option Int
def In (r : Row) (d : Int) : Prop := r.1 ≤ d ∧ ∀ j, r.2 = some j → d ≤ j
def Ins (L : List Row) (d : Int) : Prop := ∃ r, r ∈ L ∧ In r d
def Ok (r : Row) : Prop := 0 ≤ r.1 ∧ ∀ j, r.2 = some j → r.1 ≤ j
theorem Ok.self {r : Row} (h : Ok r) : In r r.1 := ⟨Int.le_refl _, h.2⟩
/-- told in one way alone, the last row ahead -/
def Can : List Row → Prop
  | [] => True
  | [r] => Ok r
  | r :: s :: t => Ok r ∧ (∃ j, s.2 = some j ∧ j + 1 < r.1) ∧ Can (s :: t)
theorem Can.tail {r : Row} : ∀ {t : List Row}, Can (r :: t) → Can t
  | [], _ => trivial
  | _ :: _, h => h.2.2
theorem Can.hd {r : Row} : ∀ {t : List Row}, Can (r :: t) → Ok r
  | [], h => h
  | _ :: _, h => h.1
/-- the rows behind the head end two days ahead of it -/
theorem Can.under : ∀ {t : List Row} {r : Row}, Can (r :: t) → ∀ s ∈ t, ∃ j, s.2 = some j ∧ j + 1 < r.1
  | [], _, _, s, hs => nomatch hs
  | u :: t, r, h, s, hs => by
    obtain ⟨j, e, hj⟩ := h.2.1
    rcases List.mem_cons.mp hs with rfl | hs
    · exact ⟨j, e, hj⟩
    · obtain ⟨i, e2, hi⟩ := Can.under h.2.2 s hs
      have := h.2.2.hd.2 j e
      exact ⟨i, e2, by omega⟩
theorem Can.ok : ∀ {L : List Row}, Can L → ∀ s ∈ L, Ok s
  | [], _, s, hs => nomatch hs
  | r :: t, h, s, hs => by
    rcases List.mem_cons.mp hs with rfl | hs
    · exact h.hd
    · exact h.tail.ok s hs
theorem ins_cons {r : Row} {t : List Row} {d : Int} : Ins (r :: t) d ↔ In r d ∨ Ins t d := by
  constructor
  · rintro ⟨s, hs, h⟩
    rcases List.mem_cons.mp hs with rfl | hs
    · exact .inl h
    · exact .inr ⟨s, hs, h⟩
  · rintro (h | ⟨s, hs, h⟩)
    · exact ⟨r, .head _, h⟩
    · exact ⟨s, .tail _ hs, h⟩
theorem not_nil {d : Int} : ¬ Ins [] d := fun ⟨_, h, _⟩ => nomatch h
/-- what is of the tail is two days ahead of the head -/
theorem Can.below {r : Row} {t : List Row} (h : Can (r :: t)) {d : Int} (hd : Ins t d) : d + 1 < r.1 := by
  obtain ⟨s, hs, hi⟩ := hd
  obtain ⟨j, e, hj⟩ := h.under s hs
  have := hi.2 j e
  omega
/-- the same days, told in one way -/
theorem uniq : ∀ {L L' : List Row}, Can L → Can L' → (∀ d, Ins L d ↔ Ins L' d) → L = L'
  | [], [], _, _, _ => rfl
  | [], r :: t, _, h', e => absurd ((e r.1).mpr (ins_cons.mpr (.inl h'.hd.self))) not_nil
  | r :: t, [], h, _, e => absurd ((e r.1).mp (ins_cons.mpr (.inl h.hd.self))) not_nil
  | (a, x) :: t, (b, y) :: t', h, h', e => by
    have ha := h.hd
    have hb := h'.hd
    have lo : ∀ {a b : Int} {x y : Option Int} {t t' : List Row}, Can ((a, x) :: t) → Can ((b, y) :: t') → (∀ d, Ins ((a, x) :: t) d ↔ Ins ((b, y) :: t') d) → y = x → b ≤ a := by
      intro a b x y t t' h h' e exy
      by_cases hlt : a < b
      · exfalso
        have hin : In (a, x) (b - 1) := ⟨by show a ≤ b - 1; omega, fun j ej => by
          have := h'.hd.2 j (by show y = some j; rw [exy]; exact ej)
          show b - 1 ≤ j
          have : b ≤ j := this
          omega⟩
        rcases ins_cons.mp ((e (b - 1)).mp (ins_cons.mpr (.inl hin))) with z | z
        · have := z.1
          have : b ≤ b - 1 := this
          omega
        · have := h'.below z
          have : b - 1 + 1 < b := this
          omega
      · omega
    have hi : ∀ {a b : Int} {x y : Option Int} {t t' : List Row}, Can ((a, x) :: t) → Can ((b, y) :: t') → (∀ d, Ins ((a, x) :: t) d ↔ Ins ((b, y) :: t') d) → ∀ j, y = some j → ∃ i, x = some i ∧ i ≤ j := by
      intro a b x y t t' h h' e j ej
      have top : ∀ d, Ins ((b, y) :: t') d → d ≤ j := fun d hd => by
        rcases ins_cons.mp hd with z | z
        · exact z.2 j ej
        · have := h'.below z
          have h2 := h'.hd.2 j ej
          have : d + 1 < b := this
          have : b ≤ j := h2
          omega
      cases x with
      | none =>
        exfalso
        by_cases hc : a ≤ j + 1
        · have := top (j + 1) ((e _).mp (ins_cons.mpr (.inl ⟨hc, nofun⟩)))
          omega
        · have := top a ((e _).mp (ins_cons.mpr (.inl h.hd.self)))
          omega
      | some i =>
        refine ⟨i, rfl, ?_⟩
        exact top i ((e _).mp (ins_cons.mpr (.inl ⟨h.hd.2 i rfl, fun k ek => by cases ek; exact Int.le_refl _⟩)))
    have exy : x = y := by
      cases y with
      | some j =>
        obtain ⟨i, rfl, hij⟩ := hi h h' e j rfl
        obtain ⟨k, ek, hk⟩ := hi h' h (fun d => (e d).symm) i rfl
        cases ek
        exact congrArg some (by omega)
      | none =>
        cases x with
        | none => rfl
        | some i =>
          obtain ⟨k, ek, _⟩ := hi h' h (fun d => (e d).symm) i rfl
          cases ek
    subst exy
    have eab : a = b := by
      have h1 := lo h h' e rfl
      have h2 := lo h' h (fun d => (e d).symm) rfl
      omega
    subst eab
    have et : t = t' := uniq h.tail h'.tail fun d => by
      constructor
      · intro hd
        have lt := h.below hd
        rcases ins_cons.mp ((e d).mp (ins_cons.mpr (.inr hd))) with z | z
        · have := z.1
          have : a ≤ d := this
          have : d + 1 < a := lt
          omega
        · exact z
      · intro hd
        have lt := h'.below hd
        rcases ins_cons.mp ((e d).mpr (ins_cons.mpr (.inr hd))) with z | z
        · have := z.1
          have : a ≤ d := this
          have : d + 1 < a := lt
          omega
        · exact z
    rw [et]
/-! ### merging -/
/-! ### the walk over the marks -/
/-! ### the rows' own look -/
end LD
set_option Elab.async false
set_option linter.all false
set_option maxRecDepth 100000
set_option maxHeartbeats 3200000
namespace LT
open PySem PySem.Spec PyProof.Rows L2
end LT
set_option Elab.async false
set_option linter.all false
set_option maxRecDepth 100000
namespace LT
open PySem PySem.Spec PyProof.Rows L2 LamX
/-- a list or a tuple -/
def Sq2 (K : PySem.W.Frag) (H : Hp) (a : Addr) (xs : List V) : Prop := SqL K H a xs ∨ SqT K H a xs
def Still (K : PySem.W.Frag) (H1 : Hp) (a : Addr) (xs : List V) (H : Hp) : Prop := (SqL K H1 a xs → SqL K H a xs) ∧ (SqT K H1 a xs → SqT K H a xs)
theorem Still.of {K : PySem.W.Frag} {H1 H : Hp} {a : Addr} {xs : List V} (e : ExtN H1 H) : Still K H1 a xs H := ⟨extN_seqL e, extN_seqT e⟩
theorem Sq2.ext {K : PySem.W.Frag} {H1 H : Hp} {a : Addr} {xs : List V} (h : Sq2 K H1 a xs) (e : ExtN H1 H) : Sq2 K H a xs := h.imp (extN_seqL e) (extN_seqT e)
end LT
set_option Elab.async false
set_option linter.all false
set_option maxRecDepth 100000
set_option maxHeartbeats 1600000
namespace LT
open PySem PySem.Spec PyProof.Rows L2
section
variable {prog : Program} {w : World} {A : Around} {E : Value → Shared → Prop} {s : Shared}
/-- two lists that are not of one length -/
theorem ne_lens {Q : Value → Shared → Prop} {l b : Addr} {items items2 : Array Value} {n n2 : Nat} (hu : A.units < cLine) (ho : s.heap.get? l = some { cls := .type "list", data := .seq items n }) (ho2 : s.heap.get? b = some { cls := .type "list", data := .seq items2 n2 }) (hd : items.size ≠ items2.size)
    (h : Q (.bool true) s) : wpAny (model prog w) A (richCompare .NotEq (.ref l) (.ref b)) Q E s := by
  refine wpAny_richCompare_same_room (op := .NotEq) ⟨_, ho, rfl⟩ ⟨_, ho2, rfl⟩ PySem.F.slot_list_ne (GQ.call_here PySem.F.slot_list_ne ⟨_, ho, rfl⟩ PySem.F.entry_list_ne (PySem.F.args_list_ne_2 _ _) ?_) hu
  have f3 := AutoSeq1.sub_list_list
  have hne : (items.size != items2.size) = true := by simpa using hd
  obtain ⟨hp, g, d, tk, os⟩ := s
  wp_walk using wpAny_loadPart' ho, wpAny_loadPart' ho2
  exact ⟨(fun z => nomatch z), h⟩
end
def rNeNil (K : PySem.W.Frag) : R2 := fun x y H Q => ∃ (l k : Addr) (xs : List V), x = .ref l ∧ y = .ref k ∧ H l = some (.lst xs) ∧ H k = some (.lst []) ∧ Q (.bl (!xs.isEmpty)) H
/-- xs != [] -/
theorem op_neNil {X : Cx} (hu : X.A.units + 64 < cLine) : OpR X (compareOp .NotEq) (rNeNil X.K) := by
  intro pins s σ H x y v u Q I rx ry h
  obtain ⟨l, k, xs, rfl, rfl, hl, hk, q⟩ := h
  cases xs with
  | nil => exact op_neD hu pins s σ H _ _ v u Q I rx ry ⟨.list [], .list [], .lst (SqL.of hl) .nil, .lst (SqL.of hk) .nil, by decide +kernel, by decide +kernel, by
      rw [show PyData.eqv (.list []) (.list []) = true by decide +kernel]
      exact q⟩
  | cons x xs =>
    cases rx
    cases ry
    obtain ⟨_, its, n, rv, ho⟩ := (show ObjOk X.prog X.w H s.heap l (.lst (x :: xs)) from I.hok l _ hl)
    obtain ⟨_, its2, n2, rv2, ho2⟩ := (show ObjOk X.prog X.w H s.heap k (.lst []) from I.hok k _ hk)
    cases rv2
    refine ne_lens (by omega) ho ho2 ?_ ⟨.bl true, H, I, rfl, q⟩
    have := rv.length
    rw [List.length_cons] at this
    show its.toArray.size ≠ 0
    rw [List.size_toArray]
    omega
end LT
set_option Elab.async false
set_option linter.all false
set_option maxRecDepth 100000
set_option maxHeartbeats 1600000
/-! Own layer: what the laws over books draw: names, plans, events. -/
namespace LT
open PySem PySem.Spec PyProof.Rows L2 NdefX
def spTakeW : Sp := fun vs H Q _ => ∃ (p : Addr) (r : Int), vs = [.ref p, .int r] ∧ Pot H p ∧ 0 < r ∧ r ≤ 10 ^ 61 ∧
  ∀ (d : Int) (H' : Hp), 0 ≤ d → d < r → Pot H' p → SameB p H H' → Q (.int d) H'
theorem nopy61 {x r : Int} (h0 : 0 < r) (h : r ≤ 10 ^ 61) : Builtin.divisionGoesByPylong x r = false := by
  refine PyProof.noPylong_of_log2 (Nat.lt_trans ?_ (show 1920 < 9000 by decide))
  exact lg61 (by omega)
def spFarB : Sp := fun vs H Q _ => ∃ (p : Addr), vs = [.ref p] ∧ Pot H p ∧ ∀ (d : Int) (H' : Hp), 0 ≤ d → d < 10 ^ 54 → Pot H' p → SameB p H H' → Q (.int d) H'
/-- unlike names -/
structure Names (zs : List Str) : Prop where
  nd : zs.Nodup
  nm : ∀ z ∈ zs, Nm z
theorem Names.nil : Names [] := ⟨List.nodup_nil, nofun⟩
theorem Names.snoc {zs : List Str} {z : Str} (h : Names zs) (hz : Nm z) (n : z ∉ zs) : Names (zs ++ [z]) := by
  refine ⟨?_, fun y hy => ?_⟩
  · rw [List.nodup_append]
    refine ⟨h.nd, List.nodup_cons.mpr ⟨nofun, List.nodup_nil⟩, fun a ha b hb e => ?_⟩
    rw [List.mem_singleton.mp hb] at e
    exact n (e ▸ ha)
  · rcases List.mem_append.mp hy with h1 | h1
    · exact h.nm y h1
    · rw [List.mem_singleton.mp h1]
      exact hz
def spNamesD : Sp := fun vs H Q _ => ∃ (p : Addr) (m : Int), vs = [.ref p, .int m] ∧ Pot H p ∧ 0 ≤ m ∧ m ≤ 30 ∧
  ∀ (L : Addr) (zs : List Str) (H' : Hp), H L = none → H' L = some (.lst (zs.map V.str)) → Names zs → zs.length = m.toNat → Pot H' p → SameB p H H' → Q (.ref L) H'
theorem at_small26 {d : Int} (d0 : 0 ≤ d) (d1 : d < 26) : ∃ c, atI (Str.ofString "abcdefghijklmnopqrstuvwxyz").cps.toList d = some c ∧ small c = true ∧ (c : Int) = 97 + d := by
  obtain ⟨j, rfl⟩ := Int.eq_ofNat_of_zero_le d0
  have hj : j < (Str.ofString "abcdefghijklmnopqrstuvwxyz").cps.toList.length := by
    rw [letters, List.length_range']
    omega
  have hg : (Str.ofString "abcdefghijklmnopqrstuvwxyz").cps.toList[j]? = some (97 + j) := by
    rw [letters, List.getElem?_range' (by omega)]
    congr 1
    omega
  refine ⟨97 + j, atI_nat hg, ?_, by omega⟩
  rw [← small_mem]
  exact decide_eq_true (List.mem_of_getElem? hg)
/-- a stand-in name -/
def cand (j : Nat) : Str := ⟨#[113, 97 + j / 26, 97 + j % 26]⟩
theorem cand_nm {j : Nat} (h : j < 676) : Nm (cand j) := by
  refine ⟨by show 1 ≤ 3; decide, by show 3 ≤ 8; decide, fun c hc => ?_⟩
  have hc : c ∈ [113, 97 + j / 26, 97 + j % 26] := hc
  simp only [List.mem_cons, List.not_mem_nil, or_false] at hc
  unfold small
  rw [Bool.and_eq_true, decide_eq_true_iff, decide_eq_true_iff]
  rcases hc with rfl | rfl | rfl <;> omega
theorem cand_inj {i j : Nat} (h : cand i = cand j) : i = j := by
  have h : (#[113, 97 + i / 26, 97 + i % 26] : Array Nat) = #[113, 97 + j / 26, 97 + j % 26] := congrArg Str.cps h
  have h := congrArg Array.toList h
  simp only [List.cons.injEq, and_true, true_and] at h
  omega
/-- so many stand-ins are not all among few names -/
theorem cand_few {zs : List Str} {m : Nat} (h : ∀ i, i < m → cand i ∈ zs) : m ≤ zs.length := by
  have nd : ((List.range m).map cand).Nodup := by
    rw [List.Nodup, List.pairwise_map]
    exact (List.nodup_range (n := m)).imp fun h e => h (cand_inj e)
  have := List.Nodup.length_le_of_subset nd (l₂ := zs) fun z hz => by
    obtain ⟨i, hi, rfl⟩ := List.mem_map.mp hz
    exact h i (List.mem_range.mp hi)
  rw [List.length_map, List.length_range] at this
  exact this
theorem inV_dec (z : Str) : ∀ zs : List Str, inV (.str z) (zs.map V.str) = decide (z ∈ zs)
  | [] => rfl
  | y :: ys => by
    show (eqV (.str y) (.str z) || inV (.str z) (ys.map V.str)) = _
    rw [inV_dec z ys]
    have e : eqV (.str y) (.str z) = decide (z = y) := by
      show (y == z) = _
      by_cases h : z = y
      · rw [decide_eq_true h, h]
        exact beq_self_eq_true y
      · rw [decide_eq_false h]
        exact beq_eq_false_iff_ne.mpr (Ne.symm h)
    rw [e]
    by_cases h : z = y
    · rw [decide_eq_true h, decide_eq_true (List.mem_cons.mpr (.inl h))]
      rfl
    · rw [decide_eq_false h]
      by_cases h2 : z ∈ ys
      · rw [decide_eq_true h2, decide_eq_true (List.mem_cons_of_mem _ h2)]
        rfl
      · rw [decide_eq_false h2, decide_eq_false (fun e => (List.mem_cons.mp e).elim h h2)]
        rfl
theorem strs_flat : ∀ zs : List Str, (zs.map V.str).all flatV = true
  | [] => rfl
  | _ :: zs => strs_flat zs
/-- a name one sign of which is put otherwise -/
theorem nm_turned {z : Str} {d : Nat} {c : Nat} (h : Nm z) (hd : d < z.length) (hc : small c = true) :
    Nm ⟨(z.cps.toList.take d ++ [c] ++ z.cps.toList.drop (d + 1)).toArray⟩ := by
  have e : (z.cps.toList.take d ++ [c] ++ z.cps.toList.drop (d + 1)).length = z.length := by
    have : z.cps.toList.length = z.length := Array.length_toList
    rw [List.length_append, List.length_append, List.length_take, List.length_drop, List.length_singleton, this]
    omega
  refine ⟨?_, ?_, ?_⟩
  · show 1 ≤ (z.cps.toList.take d ++ [c] ++ z.cps.toList.drop (d + 1)).toArray.size
    rw [List.size_toArray, e]
    exact h.l1
  · show (z.cps.toList.take d ++ [c] ++ z.cps.toList.drop (d + 1)).toArray.size ≤ 8
    rw [List.size_toArray, e]
    exact h.l8
  · intro x hx
    have hx : x ∈ z.cps.toList.take d ++ [c] ++ z.cps.toList.drop (d + 1) := hx
    rcases List.mem_append.mp hx with hx | hx
    · rcases List.mem_append.mp hx with hx | hx
      · exact h.al x (List.mem_of_mem_take hx)
      · rw [List.mem_singleton.mp hx]
        exact hc
    · exact h.al x (List.mem_of_mem_drop hx)
theorem cutS_take {z : Str} {i : Int} (h : 0 ≤ i) : (cutS z none (some i)).cps.toList = z.cps.toList.take i.toNat := by
  have hl : z.length = z.cps.toList.length := Array.length_toList.symm
  show (z.cps.toList.drop (HT.sIx z.length 0 none)).take (HT.sIx z.length z.length (some i) - HT.sIx z.length 0 none) = _
  rw [HT.sIx_none, sIx_pos h, List.drop_zero, Nat.sub_zero, hl, List.take_eq_take_iff]
  omega
theorem cutS_drop {z : Str} {i : Int} (h : 0 ≤ i) : (cutS z (some i) none).cps.toList = z.cps.toList.drop i.toNat := by
  have hl : z.length = z.cps.toList.length := Array.length_toList.symm
  show (z.cps.toList.drop (HT.sIx z.length 0 (some i))).take (HT.sIx z.length z.length none - HT.sIx z.length 0 (some i)) = _
  rw [HT.sIx_none, sIx_pos h, hl]
  by_cases hi : i.toNat ≤ z.cps.toList.length
  · rw [Nat.min_eq_left hi, List.take_of_length_le (by rw [List.length_drop]; exact Nat.le_refl _)]
  · rw [Nat.min_eq_right (by omega), Nat.sub_self, List.take_zero, List.drop_eq_nil_of_le (by omega)]
theorem turned_eq {z : Str} {d : Int} {c : Nat} (h : 0 ≤ d) : cutS z none (some d) ++ (⟨#[c]⟩ : Str) ++ cutS z (some (d + 1)) none = ⟨(z.cps.toList.take d.toNat ++ [c] ++ z.cps.toList.drop (d.toNat + 1)).toArray⟩ := str_eq (by
  rw [str_app_codes, str_app_codes, cutS_take h, cutS_drop (by omega)]
  rw [show (d + 1).toNat = d.toNat + 1 by omega])
theorem cand_eq {j : Nat} {c d : Nat} (hc : (c : Int) = 97 + ((j : Nat) : Int) / 26) (hd : (d : Int) = 97 + ((j : Nat) : Int) % 26) : Str.ofString "q" ++ (⟨#[c]⟩ : Str) ++ (⟨#[d]⟩ : Str) = cand j := str_eq (by
  rw [str_app_codes, str_app_codes, show (Str.ofString "q").cps.toList = [113] by decide +kernel]
  show [113, c, d] = [113, 97 + j / 26, 97 + j % 26]
  rw [show c = 97 + j / 26 by omega, show d = 97 + j % 26 by omega])
/-! ### plans -/
def kindS (mv : Bool) : Str := if mv = true then Str.ofString "move" else Str.ofString "land"
theorem kind_land (mv : Bool) : decide (V.str (kindS mv) = V.str (Str.ofString "land")) = !mv := by cases mv <;> decide +kernel
theorem kind_move (mv : Bool) : decide (V.str (kindS mv) = V.str (Str.ofString "move")) = mv := by cases mv <;> decide +kernel
theorem kind_eq (a b : Bool) : decide (V.str (kindS a) = V.str (kindS b)) = decide (a = b) := by cases a <;> cases b <;> decide +kernel
structure PlanD where
  n : Addr
  r : Addr
  l : Addr
  zs : List Str
  rk : List (Str × Int)
  ls : List Str
  far : Int
def planK (D : PlanD) (kn : Int) (la : Addr) : List (Key × V) :=
  [(.inr "names", .ref D.n), (.inr "ranks", .ref D.r), (.inr "lights", .ref D.l), (.inr "far", .int D.far), (.inr "known", .int kn), (.inr "last", .ref la)]
theorem plan_put_known (D : PlanD) (kn kn' : Int) (la : Addr) : putK (planK D kn la) (.inr "known") (.int kn') = planK D kn' la := rfl
theorem plan_put_last (D : PlanD) (kn : Int) (la la' : Addr) : putK (planK D kn la) (.inr "last") (.ref la') = planK D kn la' := rfl
section
variable {H : Hp} {P la : Addr} {D : PlanD} {kn : Int}
theorem pg_names (h : H P = some (.dK (planK D kn la))) : DGet H P (.str "names") (some (.ref D.n)) := DGet.k (k := .inr "names") h
theorem pg_ranks (h : H P = some (.dK (planK D kn la))) : DGet H P (.str "ranks") (some (.ref D.r)) := DGet.k (k := .inr "ranks") h
theorem pg_lights (h : H P = some (.dK (planK D kn la))) : DGet H P (.str "lights") (some (.ref D.l)) := DGet.k (k := .inr "lights") h
theorem pg_far (h : H P = some (.dK (planK D kn la))) : DGet H P (.str "far") (some (.int D.far)) := DGet.k (k := .inr "far") h
theorem pg_known (h : H P = some (.dK (planK D kn la))) : DGet H P (.str "known") (some (.int kn)) := DGet.k (k := .inr "known") h
theorem pg_last (h : H P = some (.dK (planK D kn la))) : DGet H P (.str "last") (some (.ref la)) := DGet.k (k := .inr "last") h
end
theorem merge_id {kvs : List (Key × V)} (nd : (kvs.map (·.1)).Nodup) : mergeK [] kvs = kvs := by
  have := merge_en (g := (id : Key → Key)) (f := (id : V → V)) (fun _ _ e => e) nd
  have e : enA (id : Key → Key) (id : V → V) kvs = kvs := List.map_id _
  rw [e] at this
  exact this
theorem plan_merge (D : PlanD) (kn : Int) (la : Addr) : mergeK [] (planK D kn la) = planK D kn la := merge_id (by
  show ([.inr "names", .inr "ranks", .inr "lights", .inr "far", .inr "known", .inr "last"] : List Key).Nodup
  decide +kernel)
theorem at_any {xs : List V} {d : Int} (h0 : 0 ≤ d) (h1 : d < xs.length) : ∃ v, v ∈ xs ∧ atI xs d = some v := by
  obtain ⟨n, rfl⟩ : ∃ n : Nat, d = (n : Nat) := ⟨d.toNat, by omega⟩
  have h : n < xs.length := by omega
  exact ⟨xs[n], List.getElem_mem h, atI_nat (List.getElem?_eq_getElem h)⟩
theorem SameL.new {S : List Addr} {H H' : Hp} {q : Addr} {o : HO} (n : H' q = none) (s : SameL S H H') : SameL S H (L2.upd H' q o) := fun b x h e => by
  rw [upd_ne (ne_of_none (s b x h e) n)]
  exact s b x h e
/-- pairs of a name and a number, as tuples -/
def PairsP (H : Hp) (ts : List Addr) (rs : List (Str × Int)) : Prop := Paired (fun t (q : Str × Int) => H t = some (.tup [.str q.1, .int q.2])) ts rs
theorem PairsP.monoB {H H' : Hp} {p : Addr} {ts : List Addr} {rs : List (Str × Int)} (h : PairsP H ts rs) (hp : Pot H p) (s : SameB p H H') : PairsP H' ts rs := paired_imp (fun _ _ h => s _ _ (ne_of_pot hp h) h) h
theorem PairsP.snoc {H : Hp} {ts : List Addr} {rs : List (Str × Int)} {t : Addr} {z : Str} {i : Int} (h : PairsP H ts rs) (e : H t = some (.tup [.str z, .int i])) : PairsP H (ts ++ [t]) (rs ++ [(z, i)]) := paired_snoc' h e
theorem PairsP.upd {H : Hp} {ts : List Addr} {rs : List (Str × Int)} {F : Addr} {xs : List V} {o : HO} (h : PairsP H ts rs) (e : H F = some (.lst xs)) : PairsP (L2.upd H F o) ts rs := paired_imp (fun t p h => by rw [upd_ne (ne_of h e (by intro z; cases z))]; exact h) h
theorem PairsP.new {H : Hp} {ts : List Addr} {rs : List (Str × Int)} {F : Addr} {o : HO} (h : PairsP H ts rs) (n : H F = none) : PairsP (L2.upd H F o) ts rs := paired_imp (fun t p h => by rw [upd_ne (ne_of_none h n)]; exact h) h
theorem PairsP.kv {K : PySem.W.Frag} {H : Hp} {ts : List Addr} {rs : List (Str × Int)} (h : PairsP H ts rs) : Paired (fun p (kv : Key × V) => SqT K H p [kV kv.1, kv.2]) ts (sd rs) := by
  induction h with
  | nil => exact .nil
  | cons r _ ih => exact .cons (SqT.of r) ih
structure PlanI (H : Hp) (D : PlanD) : Prop where
  hn : H D.n = some (.lst (D.zs.map V.str))
  hr : H D.r = some (.dK (sd D.rk))
  hl : H D.l = some (.lst (D.ls.map V.str))
theorem PlanI.mono {H H' : Hp} {D : PlanD} (h : PlanI H D) (s : Same H H') : PlanI H' D := ⟨s _ _ h.hn, s _ _ h.hr, s _ _ h.hl⟩
theorem strs_no_pot {zs : List Str} (a b : Int) : (HO.lst (zs.map V.str)) ≠ .lst [.int a, .int b] := strs_not_ints
theorem PlanI.monoB {H H' : Hp} {D : PlanD} {p : Addr} (h : PlanI H D) (hp : Pot H p) (s : SameB p H H') : PlanI H' D :=
  ⟨s _ _ (ne_of_pot hp h.hn strs_no_pot) h.hn, s _ _ (ne_of_pot hp h.hr) h.hr, s _ _ (ne_of_pot hp h.hl strs_no_pot) h.hl⟩
structure PlanG (D : PlanD) : Prop where
  zs : Names D.zs
  ls : Names D.ls
  l0 : 0 < D.ls.length
  zk : D.rk.map (·.1) = D.zs
  rk : Rk D.rk
  f0 : 0 ≤ D.far
  f1 : D.far < 10 ^ 54
  z8 : D.zs.length ≤ 30
  l8 : D.ls.length ≤ 3
/-- an event as a tuple -/
def EvT (H : Hp) (t : Addr) (e : Evt) : Prop := H t = some (.tup [.str (kindS e.mv), .int e.kn, .str e.who, .int e.day, e.w])
/-- what was told last, in short -/
def LastAt (H : Hp) (la : Addr) : Option Evt → Prop
  | none => H la = some (.lst [])
  | some e => ∃ t, H la = some (.lst [.ref t]) ∧ H t = some (.tup [.str (kindS e.mv), .str e.who, .int e.day])
theorem LastAt.mono {H H' : Hp} {la : Addr} {o : Option Evt} (h : LastAt H la o) (s : Same H H') : LastAt H' la o := by
  cases o with
  | none => exact s _ _ h
  | some e =>
    obtain ⟨t, a, b⟩ := h
    exact ⟨t, s _ _ a, s _ _ b⟩
theorem LastAt.monoB {H H' : Hp} {la p : Addr} {o : Option Evt} (h : LastAt H la o) (hp : Pot H p) (s : SameB p H H') : LastAt H' la o := by
  cases o with
  | none => exact s _ _ (ne_of_pot hp h) h
  | some e =>
    obtain ⟨t, a, b⟩ := h
    exact ⟨t, s _ _ (ne_of_pot hp a) a, s _ _ (ne_of_pot hp b) b⟩
def spPlanD : Sp := fun vs H Q _ => ∃ (p : Addr) (m : Int), vs = [.ref p, .int m] ∧ Pot H p ∧ 0 ≤ m ∧ m ≤ 29 ∧
  ∀ (P la : Addr) (D : PlanD) (kn : Int) (H' : Hp), H P = none → PlanG D → 0 ≤ kn → PlanI (Ho [P] (new H H')) D → LastAt (Ho [P] (new H H')) la none → H' P = some (.dK (planK D kn la)) → Pot H' p → SameB p H H' → Q (.ref P) H'
def spWorth : Sp := fun vs H Q _ => ∃ (p : Addr) (mv : Bool) (z : Str), vs = [.ref p, .str (kindS mv), .str z] ∧ Pot H p ∧
  ∀ (w : V) (H' : Hp), (mv = false → ∃ n : Int, w = .int n ∧ 0 ≤ n ∧ n < 10 ^ 55) → (mv = true → w = .non ∨ ∃ y, w = .str y ∧ (y = z ∨ y = Str.ofString "")) → Pot H' p → SameB p H H' → Q w H'
def spTellE (CB CH : Addr) (r : V) : Sp := fun vs H Q _ => ∃ (b T : Addr) (rk : List (Str × Int)) (es : List Evt) (fp : List Addr) (e : Evt), vs = [.ref b, .ref T] ∧ Bk CB CH H b rk es fp ∧ EvT H T e ∧ EvOK rk e ∧ (∀ x ∈ es, x.kn ≤ e.kn) ∧ es.length < 60 ∧
  ∀ (fp' : List Addr) (H' : Hp), Bk CB CH H' b rk (es ++ [e]) fp' → (∀ c ∈ fp', c ∈ fp ∨ H c = none) → SameL fp H H' → Q r H'
/-- a list of events -/
def EvsAt (H Hi : Hp) (E : Addr) (es : List Evt) : Prop := ∃ ts : List Addr, H E = some (.lst (ts.map V.ref)) ∧ Paired (EvT Hi) ts es
theorem EvsAt.mono {H H' Hi Hi' : Hp} {E : Addr} {es : List Evt} (h : EvsAt H Hi E es) (s : Same H H') (s' : Same Hi Hi') : EvsAt H' Hi' E es := by
  obtain ⟨ts, a, b⟩ := h
  exact ⟨ts, s _ _ a, paired_imp (fun _ _ h => s' _ _ h) b⟩
/-- by day, what is told last, as a dict is made of it -/
def heldD (es : List Evt) (mv : Bool) (z : Str) (kn : Option Int) : List (Int × V) := es.foldl (fun t e => if (ofE mv z e && ctK kn e.kn) = true then putA t e.day e.w else t) []
theorem heldD_snoc (es : List Evt) (e : Evt) (mv : Bool) (z : Str) (kn : Option Int) : heldD (es ++ [e]) mv z kn = if (ofE mv z e && ctK kn e.kn) = true then putA (heldD es mv z kn) e.day e.w else heldD es mv z kn := by
  unfold heldD
  rw [List.foldl_append]
  rfl
theorem heldD_get (mv : Bool) (z : Str) (kn : Option Int) (d : Int) : ∀ es : List Evt, getA (heldD es mv z kn) d = heldO es mv z kn d := by
  refine snoc_ind rfl fun es e ih => ?_
  rw [heldD_snoc, heldO_snoc]
  unfold heldP
  by_cases h : (ofE mv z e && ctK kn e.kn) = true
  · rw [if_pos h, getA_put, h]
    by_cases hd : d = e.day
    · rw [if_pos hd, if_pos (by rw [decide_eq_true hd.symm]; rfl)]
    · rw [if_neg hd, if_neg (by rw [decide_eq_false (Ne.symm hd)]; nofun), ih]
  · rw [if_neg h, bool_false h, if_neg (by nofun), ih]
theorem heldD_keys (mv : Bool) (z : Str) (kn : Option Int) : ∀ es : List Evt, ((heldD es mv z kn).map (·.1)).Nodup ∧ (heldD es mv z kn).length ≤ es.length := by
  refine snoc_ind ⟨List.nodup_nil, Nat.le_refl _⟩ fun es e ih => ?_
  rw [heldD_snoc]
  have hl : (es ++ [e]).length = es.length + 1 := by rw [List.length_append]; rfl
  rw [hl]
  split
  · refine ⟨nodup_put ih.1, ?_⟩
    have := putA_len (kvs := heldD es mv z kn) (k := e.day) (v := e.w)
    have := ih.2
    omega
  · exact ⟨ih.1, by have := ih.2; omega⟩
theorem same_put {H H' : Hp} {d : Addr} {o : HO} (n : H d = none) (s : Same H H') : Same H (L2.upd H' d o) := fun b x e => by
  rw [upd_ne (ne_of_none e n)]
  exact s b x e
end LT
set_option Elab.async false
set_option linter.all false
set_option maxRecDepth 100000
set_option maxHeartbeats 1600000
/-! Own layer: o.m(e, .., k = v, ..), defaults among the rest. -/
namespace LT
open PySem PySem.Spec PyProof.Rows L2
end LT
set_option Elab.async false
set_option linter.all false
set_option maxRecDepth 100000
set_option maxHeartbeats 1600000
/-! Own layer: a plan, its book and its list of events, side by side with others. -/
namespace LT
open PySem PySem.Spec PyProof.Rows L2 NdefX
structure Cl where
  P : Addr
  E : Addr
  b : Addr
  la : Addr
  D : PlanD
  kn : Int
  es : List Evt
  fp : List Addr
def Cl.m (c : Cl) : List Addr := c.P :: c.E :: c.fp
/-- what the plan holds as told last, if anything -/
def LastOK (H : Hp) (la : Addr) (rk : List (Str × Int)) : Prop := ∃ o, LastAt H la o ∧ ∀ e, o = some e → EvOK rk e
theorem LastOK.mono {H H' : Hp} {la : Addr} {rk : List (Str × Int)} (h : LastOK H la rk) (s : Same H H') : LastOK H' la rk := by
  obtain ⟨o, a, b⟩ := h
  exact ⟨o, a.mono s, b⟩
structure ClAt (CB CH : Addr) (H Hi : Hp) (c : Cl) : Prop where
  hP : H c.P = some (.dK (planK c.D c.kn c.la))
  hI : PlanI Hi c.D
  hG : PlanG c.D
  k0 : 0 ≤ c.kn
  la : LastOK Hi c.la c.D.rk
  ev : EvsAt H Hi c.E c.es
  bk : Bk CB CH H c.b c.D.rk c.es c.fp
  kl : ∀ e ∈ c.es, e.kn ≤ c.kn
  nPE : c.P ≠ c.E
  nPf : c.P ∉ c.fp
  nEf : c.E ∉ c.fp
theorem ClAt.frame {CB CH : Addr} {H H' Hi Hi' : Hp} {c : Cl} {S : List Addr} (h : ClAt CB CH H Hi c) (s : SameL S H H') (si : Same Hi Hi') (n : ∀ a ∈ c.m, a ∉ S) : ClAt CB CH H' Hi' c := by
  obtain ⟨ts, e1, e2⟩ := h.ev
  exact ⟨s _ _ (n _ List.mem_cons_self) h.hP, h.hI.mono si, h.hG, h.k0, h.la.mono si,
    ⟨ts, s _ _ (n _ (List.mem_cons_of_mem _ List.mem_cons_self)) e1, paired_imp (fun _ _ h => si _ _ h) e2⟩,
    h.bk.monoL s fun c hc => n c (List.mem_cons_of_mem _ (List.mem_cons_of_mem _ hc)), h.kl, h.nPE, h.nPf, h.nEf⟩
theorem ClAt.ex {CB CH : Addr} {H Hi : Hp} {c : Cl} (h : ClAt CB CH H Hi c) : ∀ a ∈ c.m, ∃ o, H a = some o := by
  intro a ha
  rcases List.mem_cons.mp ha with rfl | ha
  · exact ⟨_, h.hP⟩
  rcases List.mem_cons.mp ha with rfl | ha
  · obtain ⟨ts, e1, _⟩ := h.ev
    exact ⟨_, e1⟩
  · exact h.bk.ex a ha
theorem ClAt.evok {CB CH : Addr} {H Hi : Hp} {c : Cl} (h : ClAt CB CH H Hi c) : Rk c.D.rk ∧ Rising c.es ∧ ∀ e ∈ c.es, EvOK c.D.rk e := h.bk.ev
/-- an event made, put to the list and told to the book -/
theorem told_step {CB CH : Addr} {H H1 H3 : Hp} {c : Cl} {M M' fp' : List Addr} {p T la' : Addr} {e : Evt} {ts : List Addr} (A : ClAt CB CH H (Ho M H) c) (hM : ∀ a ∈ M, ∃ o, H a = some o) (pM : p ∈ M) (cm : ∀ a ∈ c.m, a ∈ M) (pn : p ∉ c.m)
    (s1 : SameL [p, c.P] H H1) (hT : EvT (new H H1) T e) (hla : LastOK (new H H1) la' c.D.rk ∨ la' = c.la) (hP1 : H1 c.P = some (.dK (planK c.D e.kn la'))) (hp1 : ∃ o, H1 p = some o) (kle : c.kn ≤ e.kn)
    (eE : H c.E = some (.lst (ts.map V.ref))) (hts : Paired (EvT (Ho M H)) ts c.es)
    (bk3 : Bk CB CH H3 c.b c.D.rk (c.es ++ [e]) fp') (fr : ∀ a ∈ fp', a ∈ c.fp ∨ L2.upd H1 c.E (.lst ((ts ++ [T]).map V.ref)) a = none) (s3 : SameL c.fp (L2.upd H1 c.E (.lst ((ts ++ [T]).map V.ref))) H3)
    (hM' : ∀ a ∈ M', a ∈ M ∨ a ∈ fp') :
    ClAt CB CH H3 (Ho M' H3) { c with kn := e.kn, la := la', es := c.es ++ [e], fp := fp' } ∧ SameL (p :: c.m) H H3 ∧ Same (Ho M H) (Ho M' H3) ∧ (∀ a ∈ fp', a ∈ c.fp ∨ H a = none) := by
  have exm := A.ex
  have mP : c.P ∈ c.m := List.mem_cons_self
  have mE : c.E ∈ c.m := List.mem_cons_of_mem _ List.mem_cons_self
  have mf : ∀ a ∈ c.fp, a ∈ c.m := fun a ha => List.mem_cons_of_mem _ (List.mem_cons_of_mem _ ha)
  have fr0 : ∀ a ∈ fp', a ∈ c.fp ∨ H a = none := by
    intro a ha
    rcases fr a ha with h | h
    · exact .inl h
    · refine .inr ?_
      have nE : a ≠ c.E := fun z => by
        rw [z, upd_same] at h
        cases h
      rw [upd_ne nE] at h
      refine s1.free h fun hm => ?_
      rcases List.mem_cons.mp hm with e1 | hm
      · obtain ⟨o, ho⟩ := hp1
        rw [e1, ho] at h
        cases h
      · rw [List.mem_singleton.mp hm, hP1] at h
        cases h
  have s02 : SameL (p :: c.m) H (L2.upd H1 c.E (.lst ((ts ++ [T]).map V.ref))) := SameL.upd (List.mem_cons_of_mem _ mE) (s1.mono fun a ha => by
    rcases List.mem_cons.mp ha with e1 | ha
    · rw [e1]
      exact List.mem_cons_self
    · rw [List.mem_singleton.mp ha]
      exact List.mem_cons_of_mem _ mP)
  have s03 : SameL (p :: c.m) H H3 := s02.trans (s3.mono fun a ha => List.mem_cons_of_mem _ (mf a ha))
  have sHo : Same (Ho M H) (Ho M' H3) := ho_step s03 (fun a ha => by
    rcases List.mem_cons.mp ha with e1 | ha
    · rw [e1]
      exact pM
    · exact cm a ha) fun a ha => by
      rcases hM' a ha with h | h
      · exact .inl h
      · rcases fr0 a h with h | h
        · exact .inl (cm a (mf a h))
        · exact .inr h
  have sN : Same (new H H1) (Ho M' H3) := by
    intro a o ha
    obtain ⟨h0, h1⟩ := new_iff.mp ha
    have nall : ∀ x ∈ M, a ≠ x := fun x hx z => by
      obtain ⟨o', ho⟩ := hM x hx
      rw [← z, h0] at ho
      cases ho
    have nE : a ≠ c.E := nall _ (cm _ mE)
    have h2 : L2.upd H1 c.E (.lst ((ts ++ [T]).map V.ref)) a = some o := by rw [upd_ne nE]; exact h1
    refine ho_in (fun hm => ?_) (s3 a o (fun hf => nall a (cm a (mf a hf)) rfl) h2)
    rcases hM' a hm with h | h
    · exact nall a h rfl
    · rcases fr a h with h | h
      · exact nall a (cm a (mf a h)) rfl
      · rw [h2] at h
        cases h
  have nPf' : c.P ∉ fp' := fun h => by
    rcases fr0 _ h with h | h
    · exact A.nPf h
    · rw [A.hP] at h
      cases h
  have nEf' : c.E ∉ fp' := fun h => by
    rcases fr0 _ h with h | h
    · exact A.nEf h
    · rw [eE] at h
      cases h
  refine ⟨⟨?_, A.hI.mono sHo, A.hG, Int.le_trans A.k0 kle, ?_, ?_, bk3, ?_, A.nPE, nPf', nEf'⟩, s03, sHo, fr0⟩
  · exact s3 _ _ A.nPf (by rw [upd_ne A.nPE]; exact hP1)
  · show LastOK (Ho M' H3) la' c.D.rk
    rcases hla with h | h
    · exact h.mono sN
    · rw [h]
      exact A.la.mono sHo
  · refine ⟨ts ++ [T], s3 _ _ A.nEf upd_same, paired_snoc' (paired_imp (fun _ _ h => sHo _ _ h) hts) (sN _ _ hT)⟩
  · intro x hx
    rcases List.mem_append.mp hx with hx | hx
    · exact Int.le_trans (A.kl x hx) kle
    · rw [List.mem_singleton.mp hx]
      exact Int.le_refl _
/-- two such, and a pot -/
structure Two (CB CH : Addr) (H : Hp) (p : Addr) (c d : Cl) : Prop where
  pot : Pot H p
  c1 : ClAt CB CH H (Ho (p :: (c.m ++ d.m)) H) c
  d1 : ClAt CB CH H (Ho (p :: (c.m ++ d.m)) H) d
  pc : p ∉ c.m
  pd : p ∉ d.m
  cd : ∀ a ∈ c.m, a ∉ d.m
theorem ho_perm {M M' : List Addr} {H : Hp} (h : ∀ a, a ∈ M' → a ∈ M) : Same (Ho M H) (Ho M' H) := fun a o e => by
  obtain ⟨h1, h2⟩ := ho_iff.mp e
  exact ho_in (fun z => h1 (h a z)) h2
theorem mem_two {p a : Addr} {x y : List Addr} : a ∈ p :: (x ++ y) ↔ a = p ∨ a ∈ x ∨ a ∈ y := by rw [List.mem_cons, List.mem_append]
theorem Two.ex {CB CH : Addr} {H : Hp} {p : Addr} {c d : Cl} (h : Two CB CH H p c d) : ∀ a ∈ p :: (c.m ++ d.m), ∃ o, H a = some o := by
  intro a ha
  rcases mem_two.mp ha with rfl | ha | ha
  · obtain ⟨x, y, e, _⟩ := h.pot
    exact ⟨_, e⟩
  · exact h.c1.ex a ha
  · exact h.d1.ex a ha
/-- what only looks, and draws -/
theorem Two.look {CB CH : Addr} {H H' : Hp} {p : Addr} {c d : Cl} (h : Two CB CH H p c d) (hp : Pot H' p) (s : SameB p H H') : Two CB CH H' p c d := by
  have sl : SameL [p] H H' := SameL.ofB List.mem_cons_self s
  have si : Same (Ho (p :: (c.m ++ d.m)) H) (Ho (p :: (c.m ++ d.m)) H') := ho_step sl (fun a ha => by rw [List.mem_singleton.mp ha]; exact List.mem_cons_self) fun a ha => .inl ha
  exact ⟨hp, h.c1.frame sl si fun a ha hm => h.pc (by rw [← List.mem_singleton.mp hm]; exact ha), h.d1.frame sl si fun a ha hm => h.pd (by rw [← List.mem_singleton.mp hm]; exact ha), h.pc, h.pd, h.cd⟩
theorem Two.mono {CB CH : Addr} {H H' : Hp} {p : Addr} {c d : Cl} (h : Two CB CH H p c d) (s : Same H H') : Two CB CH H' p c d := h.look (h.pot.mono s) (SameB.of s)
/-- an event made of the first one's plan, put to its list and told to its book -/
theorem Two.told {CB CH : Addr} {H H1 H3 : Hp} {c d : Cl} {fp' : List Addr} {p T la' : Addr} {e : Evt} {ts : List Addr} (W : Two CB CH H p c d)
    (s1 : SameL [p, c.P] H H1) (hT : EvT (new H H1) T e) (hla : LastOK (new H H1) la' c.D.rk ∨ la' = c.la) (hP1 : H1 c.P = some (.dK (planK c.D e.kn la'))) (hp1 : Pot H1 p) (kle : c.kn ≤ e.kn)
    (eE : H c.E = some (.lst (ts.map V.ref))) (hts : Paired (EvT (Ho (p :: (c.m ++ d.m)) H)) ts c.es)
    (bk3 : Bk CB CH H3 c.b c.D.rk (c.es ++ [e]) fp') (fr : ∀ a ∈ fp', a ∈ c.fp ∨ L2.upd H1 c.E (.lst ((ts ++ [T]).map V.ref)) a = none) (s3 : SameL c.fp (L2.upd H1 c.E (.lst ((ts ++ [T]).map V.ref))) H3) :
    Two CB CH H3 p { c with kn := e.kn, la := la', es := c.es ++ [e], fp := fp' } d ∧ Same (Ho (p :: (c.m ++ d.m)) H) (Ho (p :: (Cl.m { c with kn := e.kn, la := la', es := c.es ++ [e], fp := fp' } ++ d.m)) H3) ∧ SameL (p :: c.m) H H3 ∧
      ∀ a ∈ Cl.m { c with kn := e.kn, la := la', es := c.es ++ [e], fp := fp' }, a ∈ c.m ∨ H a = none := by
  have mE : c.E ∈ c.m := List.mem_cons_of_mem _ List.mem_cons_self
  have exp : ∃ o, H1 p = some o := by
    obtain ⟨x, y, e, _⟩ := hp1
    exact ⟨_, e⟩
  obtain ⟨a1, a2, a3, a4⟩ := told_step (M' := p :: (Cl.m { c with kn := e.kn, la := la', es := c.es ++ [e], fp := fp' } ++ d.m)) W.c1 W.ex List.mem_cons_self (fun a ha => mem_two.mpr (.inr (.inl ha))) W.pc s1 hT hla hP1 exp kle eE hts bk3 fr s3 (fun a ha => by
    rcases mem_two.mp ha with h | h | h
    · exact .inl (mem_two.mpr (.inl h))
    · rcases List.mem_cons.mp h with h | h
      · exact .inl (mem_two.mpr (.inr (.inl (by rw [h]; exact List.mem_cons_self))))
      rcases List.mem_cons.mp h with h | h
      · exact .inl (mem_two.mpr (.inr (.inl (by rw [h]; exact mE))))
      · exact .inr h
    · exact .inl (mem_two.mpr (.inr (.inr h))))
  have pfp : p ∉ fp' := fun h => by
    rcases a4 p h with h | h
    · exact W.pc (List.mem_cons_of_mem _ (List.mem_cons_of_mem _ h))
    · obtain ⟨x, y, e, _⟩ := W.pot
      rw [e] at h
      cases h
  have dfp : ∀ a ∈ fp', a ∉ d.m := fun a ha hd => by
    rcases a4 a ha with h | h
    · exact W.cd a (List.mem_cons_of_mem _ (List.mem_cons_of_mem _ h)) hd
    · obtain ⟨o, ho⟩ := W.d1.ex a hd
      rw [h] at ho
      cases ho
  have hp3 : Pot H3 p := by
    obtain ⟨x, y, e1, e2⟩ := hp1
    refine ⟨x, y, s3 _ _ (fun h => W.pc (List.mem_cons_of_mem _ (List.mem_cons_of_mem _ h))) ?_, e2⟩
    rw [upd_ne (fun z : p = c.E => W.pc (by rw [z]; exact mE))]
    exact e1
  refine ⟨⟨hp3, a1, W.d1.frame a2 a3 fun a ha hm => ?_, ?_, W.pd, ?_⟩, a3, a2, fun a ha => ?_⟩
  · rcases List.mem_cons.mp hm with h | h
    · exact W.pd (by rw [← h]; exact ha)
    · exact W.cd a h ha
  · intro h
    rcases List.mem_cons.mp h with h | h
    · exact W.pc (by rw [h]; exact List.mem_cons_self)
    rcases List.mem_cons.mp h with h | h
    · exact W.pc (by rw [h]; exact mE)
    · exact pfp h
  · intro a ha
    rcases List.mem_cons.mp ha with h | h
    · rw [h]
      exact W.cd _ List.mem_cons_self
    rcases List.mem_cons.mp h with h | h
    · rw [h]
      exact W.cd _ mE
    · exact dfp a h
  · rcases List.mem_cons.mp ha with h | h
    · exact .inl (by rw [h]; exact List.mem_cons_self)
    rcases List.mem_cons.mp h with h | h
    · exact .inl (by rw [h]; exact mE)
    · exact (a4 a h).imp (fun h => List.mem_cons_of_mem _ (List.mem_cons_of_mem _ h)) id
/-! ### what is asked of it -/
/-- the law's search, under way -/
def WhInv (t : List (Int × V)) (d : Int) (found : V) (since : Int) : Prop :=
  (∀ p ∈ t, p.2 ≠ .non → p.1 ≤ d → p.1 ≤ since) ∧ ((since = -1 ∧ found = .str (Str.ofString "")) ∨ ((since, found) ∈ t ∧ found ≠ .non ∧ since ≤ d))
theorem WhInv.nil {d : Int} : WhInv [] d (.str (Str.ofString "")) (-1) := ⟨nofun, .inl ⟨rfl, rfl⟩⟩
theorem WhInv.take {t : List (Int × V)} {d : Int} {found : V} {since : Int} {p : Int × V} (h : WhInv t d found since) (n : p.2 ≠ .non) (h1 : since < p.1) (h2 : p.1 ≤ d) : WhInv (t ++ [p]) d p.2 p.1 := by
  refine ⟨fun q hq a b => ?_, .inr ⟨List.mem_append_right _ List.mem_cons_self, n, h2⟩⟩
  rcases List.mem_append.mp hq with hq | hq
  · have := h.1 q hq a b
    omega
  · rw [List.mem_singleton.mp hq]
    exact Int.le_refl _
theorem WhInv.is {es : List Evt} {mv : Bool} {z : Str} {kn : Option Int} {d : Int} {found : V} {since : Int} (h : WhInv (heldD es mv z kn) d found since) (h0 : ∀ e ∈ es, 0 ≤ e.day) : IsWhere (heldE es mv z kn) d found := by
  have nd := (heldD_keys mv z kn es).1
  have key : ∀ o w, (o, w) ∈ heldD es mv z kn → heldE es mv z kn o = w := fun o w hm => by
    have := getA_of_mem nd hm
    rw [heldD_get] at this
    unfold heldE
    rw [this]
    rfl
  have back : ∀ o, heldE es mv z kn o ≠ .non → (o, heldE es mv z kn o) ∈ heldD es mv z kn := fun o ho => by
    unfold heldE at ho ⊢
    cases e : heldO es mv z kn o with
    | none => rw [e] at ho; exact absurd rfl ho
    | some w =>
      rw [← heldD_get] at e
      exact getA_mem e
  rcases h.2 with ⟨rfl, rfl⟩ | ⟨a, b, c⟩
  · refine .inr ⟨fun o ho => Classical.byContradiction fun hn => ?_, rfl⟩
    have h1 := h.1 _ (back o hn) hn ho
    have hm := getA_of_mem nd (back o hn)
    rw [heldD_get] at hm
    obtain ⟨e, he, hp, _⟩ := heldO_mem hm
    have := h0 e he
    have := (heldP_iff.mp hp).2.2
    simp only at h1
    omega
  · exact .inl ⟨since, c, key _ _ a, b, fun o ho hn => h.1 _ (back o hn) hn ho⟩
/-- one such, and a pot -/
structure One (CB CH : Addr) (H : Hp) (p : Addr) (c : Cl) : Prop where
  pot : Pot H p
  c1 : ClAt CB CH H (Ho (p :: c.m) H) c
  pc : p ∉ c.m
theorem Two.one {CB CH : Addr} {H : Hp} {p : Addr} {c d : Cl} (h : Two CB CH H p c d) : One CB CH H p c :=
  ⟨h.pot, h.c1.frame (S := []) (.of (Same.refl _)) (ho_perm fun a ha => mem_two.mpr ((List.mem_cons.mp ha).imp id .inl)) (fun _ _ => nofun), h.pc⟩
theorem One.look {CB CH : Addr} {H H' : Hp} {p : Addr} {c : Cl} (h : One CB CH H p c) (hp : Pot H' p) (s : SameB p H H') : One CB CH H' p c := by
  have sl : SameL [p] H H' := SameL.ofB List.mem_cons_self s
  have si : Same (Ho (p :: c.m) H) (Ho (p :: c.m) H') := ho_step sl (fun a ha => by rw [List.mem_singleton.mp ha]; exact List.mem_cons_self) fun a ha => .inl ha
  exact ⟨hp, h.c1.frame sl si fun a ha hm => h.pc (by rw [← List.mem_singleton.mp hm]; exact ha), h.pc⟩
theorem One.mono {CB CH : Addr} {H H' : Hp} {p : Addr} {c : Cl} (h : One CB CH H p c) (s : Same H H') : One CB CH H' p c := h.look (h.pot.mono s) (SameB.of s)
theorem One.ex {CB CH : Addr} {H : Hp} {p : Addr} {c : Cl} (h : One CB CH H p c) : ∀ a ∈ p :: c.m, ∃ o, H a = some o := by
  intro a ha
  rcases List.mem_cons.mp ha with rfl | ha
  · obtain ⟨x, y, e, _⟩ := h.pot
    exact ⟨_, e⟩
  · exact h.c1.ex a ha
theorem One.told {CB CH : Addr} {H H1 H3 : Hp} {c : Cl} {fp' : List Addr} {p T la' : Addr} {e : Evt} {ts : List Addr} (W : One CB CH H p c)
    (s1 : SameL [p, c.P] H H1) (hT : EvT (new H H1) T e) (hla : LastOK (new H H1) la' c.D.rk ∨ la' = c.la) (hP1 : H1 c.P = some (.dK (planK c.D e.kn la'))) (hp1 : Pot H1 p) (kle : c.kn ≤ e.kn)
    (eE : H c.E = some (.lst (ts.map V.ref))) (hts : Paired (EvT (Ho (p :: c.m) H)) ts c.es)
    (bk3 : Bk CB CH H3 c.b c.D.rk (c.es ++ [e]) fp') (fr : ∀ a ∈ fp', a ∈ c.fp ∨ L2.upd H1 c.E (.lst ((ts ++ [T]).map V.ref)) a = none) (s3 : SameL c.fp (L2.upd H1 c.E (.lst ((ts ++ [T]).map V.ref))) H3) :
    One CB CH H3 p { c with kn := e.kn, la := la', es := c.es ++ [e], fp := fp' } ∧ Same (Ho (p :: c.m) H) (Ho (p :: Cl.m { c with kn := e.kn, la := la', es := c.es ++ [e], fp := fp' }) H3) ∧ SameL (p :: c.m) H H3 ∧
      ∀ a ∈ Cl.m { c with kn := e.kn, la := la', es := c.es ++ [e], fp := fp' }, a ∈ c.m ∨ H a = none := by
  have mE : c.E ∈ c.m := List.mem_cons_of_mem _ List.mem_cons_self
  have exp : ∃ o, H1 p = some o := by
    obtain ⟨x, y, e, _⟩ := hp1
    exact ⟨_, e⟩
  obtain ⟨a1, a2, a3, a4⟩ := told_step (M' := p :: Cl.m { c with kn := e.kn, la := la', es := c.es ++ [e], fp := fp' }) W.c1 W.ex List.mem_cons_self (fun a ha => List.mem_cons_of_mem _ ha) W.pc s1 hT hla hP1 exp kle eE hts bk3 fr s3 (fun a ha => by
    rcases List.mem_cons.mp ha with h | h
    · exact .inl (by rw [h]; exact List.mem_cons_self)
    rcases List.mem_cons.mp h with h | h
    · exact .inl (List.mem_cons_of_mem _ (by rw [h]; exact List.mem_cons_self))
    rcases List.mem_cons.mp h with h | h
    · exact .inl (List.mem_cons_of_mem _ (by rw [h]; exact mE))
    · exact .inr h)
  have pfp : p ∉ fp' := fun h => by
    rcases a4 p h with h | h
    · exact W.pc (List.mem_cons_of_mem _ (List.mem_cons_of_mem _ h))
    · obtain ⟨x, y, e, _⟩ := W.pot
      rw [e] at h
      cases h
  have hp3 : Pot H3 p := by
    obtain ⟨x, y, e1, e2⟩ := hp1
    refine ⟨x, y, s3 _ _ (fun h => W.pc (List.mem_cons_of_mem _ (List.mem_cons_of_mem _ h))) ?_, e2⟩
    rw [upd_ne (fun z : p = c.E => W.pc (by rw [z]; exact mE))]
    exact e1
  refine ⟨⟨hp3, a1, fun h => ?_⟩, a3, a2, fun a ha => ?_⟩
  · rcases List.mem_cons.mp h with h | h
    · exact W.pc (by rw [h]; exact List.mem_cons_self)
    rcases List.mem_cons.mp h with h | h
    · exact W.pc (by rw [h]; exact mE)
    · exact pfp h
  · rcases List.mem_cons.mp ha with h | h
    · exact .inl (by rw [h]; exact List.mem_cons_self)
    rcases List.mem_cons.mp h with h | h
    · exact .inl (by rw [h]; exact mE)
    · exact (a4 a h).imp (fun h => List.mem_cons_of_mem _ (List.mem_cons_of_mem _ h)) id
section
variable {CB CH : Addr} {H : Hp} {p : Addr} {c : Cl}
theorem Bk.ix {b : Addr} {rk : List (Str × Int)} {es : List Evt} {fp : List Addr} (h : Bk CB CH H b rk es fp) : ∃ dx R M L v, H b = some (.ins CB dx [("rank_of", .ref R), ("moves", .ref M), ("landings", .ref L), ("latest_known", v)]) := by
  obtain ⟨B, rfl, rfl, rfl, rfl, bh, _⟩ := h
  exact ⟨_, _, _, _, _, bh.ix⟩
theorem One.hn (h : One CB CH H p c) : H c.D.n = some (.lst (c.D.zs.map V.str)) := ho_le _ _ h.c1.hI.hn
theorem One.hl (h : One CB CH H p c) : H c.D.l = some (.lst (c.D.ls.map V.str)) := ho_le _ _ h.c1.hI.hl
theorem One.hr (h : One CB CH H p c) : H c.D.r = some (.dK (sd c.D.rk)) := ho_le _ _ h.c1.hI.hr
theorem One.days (h : One CB CH H p c) : ∀ e ∈ c.es, 0 ≤ e.day := fun e he => (h.c1.evok.2.2 e he).d0
end
/-- where one is is a text -/
theorem where_str {rk : List (Str × Int)} {es : List Evt} {z : Str} {kn : Option Int} {d : Int} {r : V} (h : IsWhere (heldE es true z kn) d r) (ok : ∀ e ∈ es, EvOK rk e) : ∃ y, r = .str y ∧ Pl y := by
  rcases h with ⟨on, _, a, b, _⟩ | ⟨_, rfl⟩
  · unfold heldE at a
    cases e : heldO es true z kn on with
    | none =>
      rw [e] at a
      exact absurd a.symm b
    | some w =>
      rw [e] at a
      cases a
      rcases held_move ok e with rfl | h
      · exact absurd rfl b
      · exact h
  · exact ⟨_, rfl, .inl rfl⟩
end LT
set_option Elab.async false
set_option linter.all false
set_option maxRecDepth 100000
set_option maxHeartbeats 1600000
/-! Own layer: runs of days, heads, what is left (pure). -/
namespace LT
open PySem PySem.Spec PyProof.Rows L2 NdefX
/-! ### values by day -/
def atL (s : V) (B : List (Int × V)) (d : Int) : V := B.foldl (fun r p => if p.1 ≤ d then p.2 else r) s
theorem atL_snoc (s : V) (B : List (Int × V)) (p : Int × V) (d : Int) : atL s (B ++ [p]) d = if p.1 ≤ d then p.2 else atL s B d := by
  unfold atL
  rw [List.foldl_append]
  rfl
theorem whereL_at (L : List (Int × V)) (d : Int) : whereL L d = atL (.str (Str.ofString "")) L d := rfl
/-- where one is on day n -/
def plN (f : Int → V) : Nat → V
  | 0 => if f 0 = .non then .str (Str.ofString "") else f 0
  | n + 1 => if f ((n : Int) + 1) = .non then plN f n else f ((n : Int) + 1)
theorem plN_is {f : Int → V} (h0 : ∀ d, d < 0 → f d = .non) : ∀ n : Nat, IsWhere f (n : Nat) (plN f n)
  | 0 => by
    unfold plN
    split
    · rename_i h
      refine .inr ⟨fun o ho => ?_, rfl⟩
      by_cases e : o = 0
      · rw [e]
        exact h
      · exact h0 o (by omega)
    · rename_i h
      refine .inl ⟨0, Int.le_refl _, rfl, h, fun o ho _ => ho⟩
  | n + 1 => by
    unfold plN
    split
    · rename_i h
      rcases plN_is h0 n with ⟨on, a, b, c, d⟩ | ⟨a, b⟩
      · refine .inl ⟨on, by omega, b, c, fun o ho hn => ?_⟩
        by_cases e : o = (n : Int) + 1
        · rw [e] at hn
          exact absurd h hn
        · exact d o (by omega) hn
      · refine .inr ⟨fun o ho => ?_, b⟩
        by_cases e : o = (n : Int) + 1
        · rw [e]
          exact h
        · exact a o (by omega)
    · rename_i h
      exact .inl ⟨(n : Int) + 1, by omega, rfl, h, fun o ho _ => by omega⟩
def plI (f : Int → V) (d : Int) : V := plN f d.toNat
theorem plI_is {f : Int → V} (h0 : ∀ d, d < 0 → f d = .non) {d : Int} (hd : 0 ≤ d) : IsWhere f d (plI f d) := by
  have := plN_is h0 d.toNat
  rw [Int.toNat_of_nonneg hd] at this
  exact this
theorem plI_of {f : Int → V} (h0 : ∀ d, d < 0 → f d = .non) {d : Int} (hd : 0 ≤ d) {r : V} (h : IsWhere f d r) : r = plI f d := h.uniq (plI_is h0 hd)
theorem held_neg {es : List Evt} {mv : Bool} {z : Str} {kn : Option Int} (h : ∀ e ∈ es, 0 ≤ e.day) : ∀ d, d < 0 → heldE es mv z kn d = .non := fun d hd => by
  unfold heldE
  cases e : heldO es mv z kn d with
  | none => rfl
  | some w =>
    obtain ⟨e', h1, h2, _⟩ := heldO_mem e
    have := h e' h1
    have := (heldP_iff.mp h2).2.2
    omega
/-! ### covers of all days -/
section
variable {β : Type}
def Cov (fi : β → Int) (la : β → Option Int) (K : β → Int → Prop) : Int → List β → Prop
  | _, [] => False
  | f, [b] => fi b = f ∧ la b = none ∧ ∀ d, f ≤ d → K b d
  | f, b :: c :: r => fi b = f ∧ (∃ e, la b = some e ∧ f ≤ e ∧ (∀ d, f ≤ d → d ≤ e → K b d) ∧ Cov fi la K (e + 1) (c :: r))
def CovT (fi : β → Int) (la : β → Option Int) (K : β → Int → Prop) : Int → List β → Int → Prop
  | f, [], x => f = x
  | f, b :: r, x => fi b = f ∧ ∃ e, la b = some e ∧ f ≤ e ∧ (∀ d, f ≤ d → d ≤ e → K b d) ∧ CovT fi la K (e + 1) r x
variable {fi : β → Int} {la : β → Option Int} {K : β → Int → Prop}
def HasD2 (fi : β → Int) (la : β → Option Int) (b : β) (d : Int) : Prop := fi b ≤ d ∧ ∀ e, la b = some e → d ≤ e
theorem CovT.snoc {b : β} {e : Int} : ∀ {S : List β} {f x : Int}, CovT fi la K f S x → fi b = x → la b = some e → x ≤ e → (∀ d, x ≤ d → d ≤ e → K b d) → CovT fi la K f (S ++ [b]) (e + 1)
  | [], f, x, h, h1, h2, h3, h4 => by
    have h : f = x := h
    subst h
    exact ⟨h1, e, h2, h3, h4, rfl⟩
  | c :: r, f, x, ⟨a1, e', a2, a3, a4, a5⟩, h1, h2, h3, h4 => ⟨a1, e', a2, a3, a4, CovT.snoc a5 h1 h2 h3 h4⟩
theorem CovT.last {b : β} : ∀ {S : List β} {f x : Int}, CovT fi la K f S x → fi b = x → la b = none → (∀ d, x ≤ d → K b d) → Cov fi la K f (S ++ [b])
  | [], f, x, h, h1, h2, h4 => by
    have h : f = x := h
    subst h
    exact ⟨h1, h2, h4⟩
  | [c], f, x, ⟨a1, e', a2, a3, a4, a5⟩, h1, h2, h4 => ⟨a1, e', a2, a3, a4, CovT.last (S := []) a5 h1 h2 h4⟩
  | c :: c' :: r, f, x, ⟨a1, e', a2, a3, a4, a5⟩, h1, h2, h4 => ⟨a1, e', a2, a3, a4, CovT.last (S := c' :: r) a5 h1 h2 h4⟩
theorem Cov.imp {K' : β → Int → Prop} (hk : ∀ b d, K b d → K' b d) : ∀ {S : List β} {f : Int}, Cov fi la K f S → Cov fi la K' f S
  | [], _, h => h
  | [b], f, ⟨a1, a2, a3⟩ => ⟨a1, a2, fun d h => hk b d (a3 d h)⟩
  | b :: c :: r, f, ⟨a1, e, a2, a3, a4, a5⟩ => ⟨a1, e, a2, a3, fun d h1 h2 => hk b d (a4 d h1 h2), Cov.imp (S := c :: r) hk a5⟩
/-- the one that has a day -/
theorem Cov.one : ∀ {S : List β} {f : Int}, Cov fi la K f S → ∀ d, f ≤ d → ∃ (i : Nat) (b : β), S[i]? = some b ∧ HasD2 fi la b d ∧ K b d ∧ ∀ j c, S[j]? = some c → HasD2 fi la c d → j = i
  | [], _, h, _, _ => h.elim
  | [b], f, ⟨a1, a2, a3⟩, d, hd => ⟨0, b, rfl, ⟨by omega, fun e he => by rw [a2] at he; cases he⟩, a3 d hd, fun j c hj _ => by
    have := (List.getElem?_eq_some_iff.mp hj).1
    simp at this
    exact this⟩
  | b :: c :: r, f, ⟨a1, e, a2, a3, a4, a5⟩, d, hd => by
    have low : ∀ {S : List β} {f : Int}, Cov fi la K f S → ∀ x ∈ S, f ≤ fi x := by
      intro S
      induction S with
      | nil => exact fun h => h.elim
      | cons y ys ih =>
        intro f h x hx
        cases ys with
        | nil =>
          obtain ⟨h1, _⟩ := h
          rw [List.mem_singleton.mp hx]
          omega
        | cons z zs =>
          obtain ⟨h1, e, _, h3, _, h5⟩ := h
          rcases List.mem_cons.mp hx with rfl | hx
          · omega
          · have := ih h5 x hx
            omega
    by_cases hde : d ≤ e
    · refine ⟨0, b, rfl, ⟨by omega, fun e' he => by rw [a2] at he; cases he; exact hde⟩, a4 d hd hde, fun j x hj hx => ?_⟩
      cases j with
      | zero => rfl
      | succ j =>
        have := low a5 x (List.mem_of_getElem? hj)
        have := hx.1
        omega
    · obtain ⟨i, x, h1, h2, h3, h4⟩ := Cov.one (S := c :: r) a5 d (by omega)
      refine ⟨i + 1, x, h1, h2, h3, fun j y hj hy => ?_⟩
      cases j with
      | zero =>
        cases hj
        have := hy.2 e a2
        omega
      | succ j => exact congrArg Nat.succ (h4 j y hj hy)
/-- how many of a sort have a day: one or none -/
theorem Cov.count {q : β → Bool} {g : Int → Bool} [∀ b d, Decidable (HasD2 fi la b d)] : ∀ {S : List β} {f : Int}, Cov fi la (fun b d => g d = q b) f S → ∀ d, 0 ≤ f →
    (S.filter fun b => q b && decide (HasD2 fi la b d)).length = if f ≤ d ∧ g d = true then 1 else 0
  | [], _, h, _, _ => h.elim
  | [b], f, ⟨a1, a2, a3⟩, d, _ => by
    by_cases hd : f ≤ d
    · have hh : HasD2 fi la b d := ⟨by omega, fun e he => by rw [a2] at he; cases he⟩
      have := a3 d hd
      rw [List.filter_cons, List.filter_nil, decide_eq_true hh, Bool.and_true]
      cases hq : q b with
      | true =>
        rw [if_pos rfl, if_pos ⟨hd, by rw [this, hq]⟩]
        rfl
      | false =>
        rw [if_neg (by nofun), if_neg (fun h => by have := h.2; rw [a3 d hd, hq] at this; cases this)]
        rfl
    · have hh : ¬ HasD2 fi la b d := fun h => hd (by have := h.1; omega)
      rw [List.filter_cons, List.filter_nil, decide_eq_false hh, Bool.and_false, if_neg (by nofun), if_neg (fun h => hd h.1)]
      rfl
  | b :: c :: r, f, ⟨a1, e, a2, a3, a4, a5⟩, d, h0 => by
    have ih := Cov.count (S := c :: r) a5 d (by omega)
    rw [List.filter_cons]
    by_cases hd : f ≤ d ∧ d ≤ e
    · have hh : HasD2 fi la b d := ⟨by omega, fun e' he => by rw [a2] at he; cases he; exact hd.2⟩
      have hg := a4 d hd.1 hd.2
      rw [decide_eq_true hh, Bool.and_true]
      rw [if_neg (by omega)] at ih
      cases hq : q b with
      | true =>
        rw [if_pos rfl, List.length_cons, ih, if_pos ⟨hd.1, by rw [hg, hq]⟩]
      | false =>
        rw [if_neg (by nofun), ih, if_neg (fun h => by have := h.2; rw [hg, hq] at this; cases this)]
    · have hh : ¬ HasD2 fi la b d := fun h => hd ⟨by have := h.1; omega, h.2 e a2⟩
      rw [decide_eq_false hh, Bool.and_false, if_neg (by nofun), ih]
      by_cases hg : g d = true
      · by_cases hfe : e + 1 ≤ d
        · rw [if_pos ⟨hfe, hg⟩, if_pos ⟨by omega, hg⟩]
        · rw [if_neg (fun h => hfe h.1), if_neg (fun h => hd ⟨h.1, by omega⟩)]
      · rw [if_neg (fun h => hg h.2), if_neg (fun h => hg h.2)]
end
/-! ### runs -/
abbrev Run := V × Int × Option Int
def rFi (r : Run) : Int := r.2.1
def rLa (r : Run) : Option Int := r.2.2
def lastW (B : List (Int × V)) : V := (B.getLast?.map (·.2)).getD .non
def begS (B : List (Int × V)) (p : Int × V) : List (Int × V) := if p.1 = 0 then [(0, p.2)] else if p.2 = lastW B then B else B ++ [p]
def begF (s : V) (ch : List (Int × V)) : List (Int × V) := ch.foldl begS [(0, s)]
theorem begF_snoc (s : V) (ch : List (Int × V)) (p : Int × V) : begF s (ch ++ [p]) = begS (begF s ch) p := by
  unfold begF
  rw [List.foldl_append]
  rfl
structure Begs (s : V) (ch B : List (Int × V)) : Prop where
  hd : ∃ w r, B = (0, w) :: r
  up : B.Pairwise fun a b => a.1 < b.1
  un : ∀ (i : Nat) a b, B[i]? = some a → B[i + 1]? = some b → a.2 ≠ b.2
  at_ : ∀ d, 0 ≤ d → atL s ch d = atL s B d
  le : ∀ x ∈ B, x.1 = 0 ∨ ∃ y ∈ ch, x.1 = y.1
  lw : ∀ d, (∀ x ∈ ch, x.1 ≤ d) → 0 ≤ d → atL s ch d = lastW B
theorem lastW_snoc (B : List (Int × V)) (p : Int × V) : lastW (B ++ [p]) = p.2 := by
  unfold lastW
  rw [List.getLast?_concat]
  rfl
theorem atL_high' (s : V) (d : Int) : ∀ B : List (Int × V), (∀ x ∈ B, ¬ x.1 ≤ d) → atL s B d = s := by
  refine snoc_ind (fun _ => rfl) fun B p ih h => ?_
  rw [atL_snoc, if_neg (h p (List.mem_append_right _ List.mem_cons_self)), ih fun x hx => h x (List.mem_append_left _ hx)]
theorem atL_high {s : V} {B : List (Int × V)} {d : Int} (h : ∀ x ∈ B, ¬ x.1 ≤ d) : atL s B d = s := atL_high' s d B h
theorem begs_of (s : V) : ∀ ch : List (Int × V), (ch.Pairwise fun a b => a.1 < b.1) → (∀ x ∈ ch, 0 ≤ x.1) → Begs s ch (begF s ch) := by
  refine snoc_ind (fun _ _ => ?_) fun ch p ih hu h0 => ?_
  · refine ⟨⟨s, [], rfl⟩, List.pairwise_singleton _ _, fun i a b h1 h2 => ?_, fun d hd => ?_, fun x hx => ?_, fun d _ _ => rfl⟩
    · have := (List.getElem?_eq_some_iff.mp h2).1
      have e : (begF s []).length = 1 := rfl
      omega
    · show s = (if (0 : Int) ≤ d then s else s)
      split <;> rfl
    · rw [List.mem_singleton.mp hx]
      exact .inl rfl
  · rw [List.pairwise_append] at hu
    have hp0 := h0 p (List.mem_append_right _ List.mem_cons_self)
    obtain ⟨⟨w, r, hB⟩, up, un, at_, le, lw⟩ := ih hu.1 fun x hx => h0 x (List.mem_append_left _ hx)
    have lt : ∀ x ∈ ch, x.1 < p.1 := fun x hx => hu.2.2 x hx p List.mem_cons_self
    rw [begF_snoc]
    unfold begS
    by_cases hz : p.1 = 0
    · rw [if_pos hz]
      have chn : ch = [] := by
        cases ch with
        | nil => rfl
        | cons x xs =>
          have := lt x List.mem_cons_self
          have := h0 x (List.mem_append_left _ List.mem_cons_self)
          omega
      subst chn
      refine ⟨⟨_, [], rfl⟩, List.pairwise_singleton _ _, fun i a b h1 h2 => ?_, fun d hd => ?_, fun x hx => ?_, fun d h hd => ?_⟩
      · have := (List.getElem?_eq_some_iff.mp h2).1
        simp at this
      · show (if p.1 ≤ d then p.2 else s) = (if (0 : Int) ≤ d then p.2 else s)
        rw [hz]
      · rw [List.mem_singleton.mp hx]
        exact .inl rfl
      · show (if p.1 ≤ d then p.2 else s) = p.2
        rw [if_pos (by omega)]
    · rw [if_neg hz]
      have ltB : ∀ x ∈ begF s ch, x.1 < p.1 := fun x hx => by
        rcases le x hx with h | ⟨y, hy, h⟩
        · omega
        · have := lt y hy
          omega
      by_cases hw : p.2 = lastW (begF s ch)
      · rw [if_pos hw]
        refine ⟨⟨w, r, hB⟩, up, un, fun d hd => ?_, fun x hx => (le x hx).imp id fun ⟨y, hy, h⟩ => ⟨y, List.mem_append_left _ hy, h⟩, fun d h hd => ?_⟩
        · rw [atL_snoc]
          by_cases hpd : p.1 ≤ d
          · rw [if_pos hpd, hw, ← lw d (fun x hx => by have := lt x hx; omega) hd]
            exact at_ d hd
          · rw [if_neg hpd]
            exact at_ d hd
        · rw [atL_snoc, if_pos (h p (List.mem_append_right _ List.mem_cons_self))]
          exact hw
      · rw [if_neg hw]
        refine ⟨⟨w, r ++ [p], by rw [hB]; rfl⟩, ?_, fun i a b h1 h2 => ?_, fun d hd => ?_, fun x hx => ?_, fun d h hd => ?_⟩
        · rw [List.pairwise_append]
          refine ⟨up, List.pairwise_singleton _ _, fun a ha b hb => ?_⟩
          rw [List.mem_singleton.mp hb]
          exact ltB a ha
        · by_cases hi : i + 1 < (begF s ch).length
          · rw [List.getElem?_append_left hi] at h2
            rw [List.getElem?_append_left (by omega)] at h1
            exact un i a b h1 h2
          · have hi2 := (List.getElem?_eq_some_iff.mp h2).1
            rw [List.length_append, List.length_singleton] at hi2
            have e : i + 1 = (begF s ch).length := by omega
            rw [e, List.getElem?_append_right (Nat.le_refl _), Nat.sub_self] at h2
            cases h2
            rw [List.getElem?_append_left (by omega)] at h1
            have e2 : lastW (begF s ch) = a.2 := by
              unfold lastW
              rw [List.getLast?_eq_getElem?, show (begF s ch).length - 1 = i by omega, h1]
              rfl
            rw [e2] at hw
            exact fun z => hw z.symm
        · rw [atL_snoc, atL_snoc, at_ d hd]
        · rcases List.mem_append.mp hx with hx | hx
          · exact (le x hx).imp id fun ⟨y, hy, h⟩ => ⟨y, List.mem_append_left _ hy, h⟩
          · rw [List.mem_singleton.mp hx]
            exact .inr ⟨p, List.mem_append_right _ List.mem_cons_self, rfl⟩
        · rw [atL_snoc, if_pos (h p (List.mem_append_right _ List.mem_cons_self)), lastW_snoc]
/-- the stretches between begins -/
def runF : List (Int × V) → List Run
  | [] => []
  | [p] => [(p.2, p.1, none)]
  | p :: q :: r => (p.2, p.1, some (q.1 - 1)) :: runF (q :: r)
theorem runF_len : ∀ B : List (Int × V), (runF B).length = B.length
  | [] => rfl
  | [_] => rfl
  | p :: q :: r => congrArg Nat.succ (runF_len (q :: r))
theorem runF_get : ∀ (B : List (Int × V)) (i : Nat) (p : Int × V), B[i]? = some p → (runF B)[i]? = some (p.2, p.1, (B[i + 1]?).map fun q => q.1 - 1)
  | [], _, _, h => by simp at h
  | [x], 0, p, h => by cases h; rfl
  | [x], i + 1, p, h => by simp at h
  | x :: y :: r, 0, p, h => by cases h; rfl
  | x :: y :: r, i + 1, p, h => runF_get (y :: r) i p h
theorem atL_from {s : V} : ∀ {r : List (Int × V)} {t : V} {p : Int × V} {d : Int}, p.1 ≤ d → atL s (p :: r) d = atL p.2 r d := by
  intro r t p d h
  show (r.foldl _ (if p.1 ≤ d then p.2 else s)) = _
  rw [if_pos h]
  rfl
/-- they cover all days, by their values -/
theorem runF_cov {g : Int → V} : ∀ {B : List (Int × V)} {f : Int} {w : V} {r : List (Int × V)}, B = (f, w) :: r → (B.Pairwise fun a b => a.1 < b.1) → (∀ d, f ≤ d → g d = atL w r d) → Cov rFi rLa (fun x d => g d = x.1) f (runF B)
  | [], _, _, _, e, _, _ => by cases e
  | [p], f, w, r, e, _, h => by
    cases e
    exact ⟨rfl, rfl, fun d hd => h d hd⟩
  | p :: q :: r', f, w, r, e, up, h => by
    cases e
    have u := List.pairwise_cons.mp up
    have hq := u.1 q List.mem_cons_self
    have key := runF_cov (g := g) (B := q :: r') (f := q.1) (w := q.2) (r := r') rfl u.2 (fun d hd => by
      rw [h d (by show f ≤ d; omega), atL_from (t := w) hd])
    have cov : Cov rFi rLa (fun x d => g d = x.1) (q.1 - 1 + 1) (runF (q :: r')) := by
      rw [show q.1 - 1 + 1 = q.1 by omega]
      exact key
    have hl : ∃ c cs, runF (q :: r') = c :: cs := by
      cases hr : runF (q :: r') with
      | nil =>
        have := runF_len (q :: r')
        rw [hr] at this
        cases this
      | cons c cs => exact ⟨c, cs, rfl⟩
    obtain ⟨c, cs, ec⟩ := hl
    show Cov rFi rLa _ f ((w, f, some (q.1 - 1)) :: runF (q :: r'))
    rw [ec] at cov ⊢
    refine ⟨rfl, q.1 - 1, rfl, by show f ≤ q.1 - 1; omega, fun d h1 h2 => ?_, cov⟩
    show g d = w
    rw [h d h1]
    refine atL_high fun x hx => ?_
    have : q.1 ≤ x.1 := by
      rcases List.mem_cons.mp hx with rfl | hx
      · exact Int.le_refl _
      · exact Int.le_of_lt ((List.pairwise_cons.mp u.2).1 x hx)
    omega
/-- runs of a value that changes on rising days -/
theorem runs_cov {s : V} {ch : List (Int × V)} (hu : ch.Pairwise fun a b => a.1 < b.1) (h0 : ∀ x ∈ ch, 0 ≤ x.1) : Cov rFi rLa (fun x d => atL s ch d = x.1) 0 (runF (begF s ch)) := by
  obtain ⟨⟨w, r, hB⟩, up, _, at_, _, _⟩ := begs_of s ch hu h0
  refine runF_cov hB up fun d hd => ?_
  rw [at_ d hd, hB, atL_from (t := s) hd]
/-! ### sums by day -/
def sumLe (t : List (Int × Int)) (d : Int) : Int := ((t.filter fun p => decide (p.1 ≤ d)).map (·.2)).sum
theorem sumLe_nil (d : Int) : sumLe [] d = 0 := rfl
theorem sumLe_cons (p : Int × Int) (t : List (Int × Int)) (d : Int) : sumLe (p :: t) d = (if p.1 ≤ d then p.2 else 0) + sumLe t d := by
  unfold sumLe
  rw [List.filter_cons]
  by_cases h : p.1 ≤ d
  · rw [if_pos (decide_eq_true h), List.map_cons, List.sum_cons, if_pos h]
  · rw [if_neg (by rw [decide_eq_false h]; nofun), if_neg h, Int.zero_add]
theorem sumLe_app (a b : List (Int × Int)) (d : Int) : sumLe (a ++ b) d = sumLe a d + sumLe b d := by
  unfold sumLe
  rw [List.filter_append, List.map_append, List.sum_append]
theorem sumLe_set {k x δ d : Int} : ∀ {t : List (Int × Int)}, (t.map (·.1)).Nodup → getA t k = some x → sumLe (t.map fun p => if p.1 = k then (p.1, x + δ) else p) d = sumLe t d + if k ≤ d then δ else 0
  | [], _, h => nomatch h
  | p :: r, nd, hg => by
    have nd' := List.nodup_cons.mp nd
    rw [List.map_cons, sumLe_cons, sumLe_cons]
    by_cases e : p.1 = k
    · rw [getA_pos e] at hg
      have hx : p.2 = x := Option.some.inj hg
      have em : r.map (fun p => if p.1 = k then (p.1, x + δ) else p) = r := by
        have : ∀ q ∈ r, (if q.1 = k then (q.1, x + δ) else q) = q := fun q hq => if_neg fun z => nd'.1 (List.mem_map.mpr ⟨q, hq, z.trans e.symm⟩)
        exact (List.map_congr_left this).trans (List.map_id _)
      rw [em, if_pos e, hx, e]
      show (if k ≤ d then x + δ else 0) + _ = _
      split <;> omega
    · rw [getA_neg e] at hg
      rw [if_neg e, sumLe_set nd'.2 hg]
      omega
/-- one entry more by so much -/
theorem sumLe_put {k δ d : Int} {t : List (Int × Int)} (nd : (t.map (·.1)).Nodup) : sumLe (putA t k ((getA t k).getD 0 + δ)) d = sumLe t d + if k ≤ d then δ else 0 := by
  cases hg : getA t k with
  | none =>
    rw [putA_new hg, sumLe_app, sumLe_cons, sumLe_nil]
    show sumLe t d + ((if k ≤ d then 0 + δ else 0) + 0) = _
    rw [Int.add_zero, Int.zero_add]
  | some x =>
    rw [putA_old hg]
    exact sumLe_set nd hg
/-- the sum over the first so many days -/
def sumN (g : Nat → Int) : Nat → Int
  | 0 => 0
  | n + 1 => sumN g n + g n
theorem sumN_congr {g h : Nat → Int} : ∀ {n : Nat}, (∀ i, i < n → g i = h i) → sumN g n = sumN h n
  | 0, _ => rfl
  | n + 1, e => by
    show sumN g n + g n = sumN h n + h n
    rw [sumN_congr fun i hi => e i (by omega), e n (by omega)]
/-- so many days on which it is the same -/
theorem sumN_const {g : Nat → Int} {m : Int} {a : Nat} : ∀ {k : Nat}, (∀ i, a ≤ i → i < a + k → g i = m) → sumN g (a + k) = sumN g a + m * k
  | 0, _ => by
    show sumN g a = _
    rw [show ((0 : Nat) : Int) = 0 from rfl, Int.mul_zero, Int.add_zero]
  | k + 1, h => by
    show sumN g (a + k) + g (a + k) = _
    rw [sumN_const fun i h1 h2 => h i h1 (by omega), h (a + k) (by omega) (by omega), Int.add_assoc]
    congr 1
    rw [show ((k + 1 : Nat) : Int) = (k : Int) + 1 by omega, Int.mul_add, Int.mul_one]
/-! ### what is left -/
/-- at the end of day d, by what comes and goes on each day -/
def leftI (net : Nat → Int) (d : Int) : Int := sumN net (d + 1).toNat
theorem left_run {net : Nat → Int} {land eat : Nat → Int} (hn : ∀ i, net i = land i - eat i) {a d m : Int} (h0 : 0 ≤ a) (hd : a ≤ d) (hm : ∀ i : Nat, a ≤ i → (i : Int) ≤ d → eat i = m) (hl : ∀ i : Nat, a < i → (i : Int) ≤ d → land i = 0) :
    leftI net d = leftI net (a - 1) + land a.toNat - m * (d - a + 1) := by
  obtain ⟨n, rfl⟩ : ∃ n : Nat, a = (n : Int) := ⟨a.toNat, by omega⟩
  obtain ⟨k, rfl⟩ : ∃ k : Nat, d = (n : Int) + k := ⟨(d - n).toNat, by omega⟩
  unfold leftI
  have e1 : ((n : Int) + k + 1).toNat = n + 1 + k := by omega
  have e2 : ((n : Int) - 1 + 1).toNat = n := by omega
  have e3 : ((n : Int)).toNat = n := by omega
  rw [e1, e2, e3]
  rw [sumN_const (m := -m) fun i h1 h2 => by
    rw [hn i, hm i (by omega) (by omega), hl i (by omega) (by omega)]
    omega]
  show sumN net n + net n + -m * k = _
  rw [hn n, hm n (by omega) (by omega)]
  have : m * ((n : Int) + k - n + 1) = m * k + m := by
    rw [show (n : Int) + k - n + 1 = k + 1 by omega, Int.mul_add, Int.mul_one]
  rw [this, Int.neg_mul]
  omega
end LT
set_option Elab.async false
set_option linter.all false
set_option maxRecDepth 100000
set_option maxHeartbeats 1600000
/-! Own layer: turns, heads, parts, supplies, what is left (pure). -/
namespace LT
open PySem PySem.Spec PyProof.Rows L2 NdefX
/-! ### covers, to a last day or for ever -/
section
variable {β : Type} {fi : β → Int} {la : β → Option Int} {K : β → Int → Prop}
def CovX (fi : β → Int) (la : β → Option Int) (K : β → Int → Prop) (f : Int) (S : List β) : Option Int → Prop
  | none => Cov fi la K f S
  | some e => CovT fi la K f S (e + 1)
def NextB (fi : β → Int) (la : β → Option Int) (S : List β) (x : Option Int) (i : Nat) (b : β) : Prop :=
  (i + 1 = S.length ∧ la b = x ∧ ∀ e, x = some e → fi b ≤ e) ∨ ∃ e c, la b = some e ∧ fi b ≤ e ∧ S[i + 1]? = some c ∧ fi c = e + 1
theorem Cov.get : ∀ {S : List β} {f : Int}, Cov fi la K f S → ∀ i b, S[i]? = some b → f ≤ fi b ∧ (i = 0 → fi b = f) ∧ (∀ d, HasD2 fi la b d → K b d) ∧ NextB fi la S none i b
  | [], _, h, _, _, _ => h.elim
  | [x], f, ⟨a1, a2, a3⟩, i, b, hb => by
    cases i with
    | zero =>
      cases hb
      exact ⟨by omega, fun _ => a1, fun d hd => a3 d (by have := hd.1; omega), .inl ⟨rfl, a2, nofun⟩⟩
    | succ i => simp at hb
  | x :: y :: r, f, ⟨a1, e, a2, a3, a4, a5⟩, i, b, hb => by
    cases i with
    | zero =>
      cases hb
      obtain ⟨c1, c2, _⟩ := Cov.get (S := y :: r) a5 0 y rfl
      exact ⟨by omega, fun _ => a1, fun d hd => a4 d (by have := hd.1; omega) (hd.2 e a2), .inr ⟨e, y, a2, by omega, rfl, c2 rfl⟩⟩
    | succ i =>
      obtain ⟨c1, _, c3, c4⟩ := Cov.get (S := y :: r) a5 i b hb
      refine ⟨by omega, nofun, c3, ?_⟩
      rcases c4 with ⟨q1, q2⟩ | ⟨e', c, q1, q2, q3, q4⟩
      · exact .inl ⟨by rw [List.length_cons, ← q1], q2⟩
      · exact .inr ⟨e', c, q1, q2, q3, q4⟩
theorem CovT.get : ∀ {S : List β} {f z : Int}, CovT fi la K f S (z + 1) → ∀ i b, S[i]? = some b → f ≤ fi b ∧ (i = 0 → fi b = f) ∧ (∀ d, HasD2 fi la b d → K b d) ∧ NextB fi la S (some z) i b
  | [], _, _, h, _, _, hb => by simp at hb
  | [x], f, z, ⟨a1, e, a2, a3, a4, a5⟩, i, b, hb => by
    cases i with
    | zero =>
      cases hb
      have a5 : e + 1 = z + 1 := a5
      have ez : e = z := by omega
      subst ez
      exact ⟨by omega, fun _ => a1, fun d hd => a4 d (by have := hd.1; omega) (hd.2 e a2), .inl ⟨rfl, a2, fun e' h => by cases h; omega⟩⟩
    | succ i => simp at hb
  | x :: y :: r, f, z, ⟨a1, e, a2, a3, a4, a5⟩, i, b, hb => by
    cases i with
    | zero =>
      cases hb
      obtain ⟨c1, c2, _⟩ := CovT.get (S := y :: r) a5 0 y rfl
      exact ⟨by omega, fun _ => a1, fun d hd => a4 d (by have := hd.1; omega) (hd.2 e a2), .inr ⟨e, y, a2, by omega, rfl, c2 rfl⟩⟩
    | succ i =>
      obtain ⟨c1, _, c3, c4⟩ := CovT.get (S := y :: r) a5 i b hb
      refine ⟨by omega, nofun, c3, ?_⟩
      rcases c4 with ⟨q1, q2⟩ | ⟨e', c, q1, q2, q3, q4⟩
      · exact .inl ⟨by rw [List.length_cons, ← q1], q2⟩
      · exact .inr ⟨e', c, q1, q2, q3, q4⟩
theorem CovX.get {S : List β} {f : Int} {x : Option Int} (h : CovX fi la K f S x) (i : Nat) (b : β) (hb : S[i]? = some b) : f ≤ fi b ∧ (i = 0 → fi b = f) ∧ (∀ d, HasD2 fi la b d → K b d) ∧ NextB fi la S x i b := by
  cases x with
  | none => exact Cov.get h i b hb
  | some z => exact CovT.get h i b hb
theorem Cov.hd {S : List β} {f : Int} (h : Cov fi la K f S) : ∃ b, S[0]? = some b ∧ fi b = f := by
  match S, h with
  | [b], h => exact ⟨b, rfl, h.1⟩
  | b :: c :: r, h => exact ⟨b, rfl, h.1⟩
theorem CovX.hd {S : List β} {f : Int} {x : Option Int} (h : CovX fi la K f S x) (hx : ∀ e, x = some e → f ≤ e) : ∃ b, S[0]? = some b ∧ fi b = f := by
  cases x with
  | none => exact Cov.hd h
  | some z =>
    match S, h with
    | [], h =>
      have h : f = z + 1 := h
      have := hx z rfl
      omega
    | b :: r, h => exact ⟨b, rfl, h.1⟩
theorem Cov.le {S : List β} {f : Int} (h : Cov fi la K f S) : ∀ b ∈ S, f ≤ fi b ∧ ∀ e, la b = some e → fi b ≤ e := fun b hb => by
  obtain ⟨i, hi⟩ := List.getElem?_of_mem hb
  obtain ⟨h1, _, _, h2⟩ := h.get i b hi
  refine ⟨h1, fun e he => ?_⟩
  rcases h2 with ⟨_, q, _⟩ | ⟨e', c, q1, q2, _⟩
  · rw [he] at q
    cases q
  · rw [he] at q1
    cases q1
    exact q2
/-- under way: what lies ahead begins where the made ones end -/
def Fr {γ : Type} (fi : β → Int) (fi' : γ → Int) (la' : γ → Option Int) (K' : γ → Int → Prop) (S : List β) (i : Nat) (T : List γ) (left : Int → Prop) : Prop :=
  (∃ b, S[i]? = some b ∧ CovT fi' la' K' 0 T (fi b) ∧ left (fi b)) ∨ (i = S.length ∧ Cov fi' la' K' 0 T)
/-- the same with a last day -/
def FrX {γ : Type} (fi : β → Int) (fi' : γ → Int) (la' : γ → Option Int) (K' : γ → Int → Prop) (S : List β) (x : Option Int) (i : Nat) (T : List γ) (left : Int → Prop) : Prop :=
  (∃ b, S[i]? = some b ∧ CovT fi' la' K' 0 T (fi b) ∧ left (fi b)) ∨ (i = S.length ∧ match x with
    | none => Cov fi' la' K' 0 T
    | some e => CovT fi' la' K' 0 T (e + 1) ∧ left (e + 1))
/-- one more -/
theorem FrX.step {γ : Type} {fi' : γ → Int} {la' : γ → Option Int} {K' : γ → Int → Prop} {S : List β} {x : Option Int} {i : Nat} {T : List γ} {left left' : Int → Prop} {b : β} {c : γ} {f : Int} (h : CovX fi la K f S x) (hb : S[i]? = some b)
    (fr : FrX fi fi' la' K' S x i T left) (e1 : fi' c = fi b) (e2 : la' c = la b) (hk : ∀ d, HasD2 fi la b d → K' c d) (hl : ∀ e, la b = some e → left' (e + 1)) : FrX fi fi' la' K' S x (i + 1) (T ++ [c]) left' := by
  rcases fr with ⟨b', h1, h2, h3⟩ | ⟨h1, _⟩
  · rw [hb] at h1
    cases h1
    obtain ⟨q1, q2, q3, q4⟩ := h.get i b hb
    rcases q4 with ⟨n1, n2, n3⟩ | ⟨e, y, n1, n2, n3, n4⟩
    · refine .inr ⟨n1, ?_⟩
      cases x with
      | none => exact CovT.last h2 e1 (by rw [e2, n2]) fun d hd => hk d ⟨hd, fun e he => by rw [n2] at he; cases he⟩
      | some e => exact ⟨CovT.snoc h2 e1 (by rw [e2, n2]) (n3 e rfl) fun d h1 h2 => hk d ⟨h1, fun e' he => by rw [n2] at he; cases he; exact h2⟩, hl e n2⟩
    · refine .inl ⟨y, n3, ?_, ?_⟩
      · rw [n4]
        exact CovT.snoc h2 e1 (by rw [e2, n1]) n2 fun d h1 h2 => hk d ⟨h1, fun e' he => by rw [n1] at he; cases he; exact h2⟩
      · rw [n4]
        exact hl e n1
  · rw [h1] at hb
    rw [List.getElem?_eq_none (Nat.le_refl _)] at hb
    cases hb
end
/-! ### parts that begin on days -/
abbrev Part := Int × Option Int
def pFi (b : Part) : Int := b.1
def pLa (b : Part) : Option Int := b.2
def partK (D : Int → Prop) (b : Part) (d : Int) : Prop := ∀ o, D o → b.1 < o → ¬ o ≤ d
def partF (x : Option Int) : List Int → List Part
  | [] => []
  | [f] => [(f, x)]
  | f :: g :: r => (f, some (g - 1)) :: partF x (g :: r)
theorem partF_len (x : Option Int) : ∀ F : List Int, (partF x F).length = F.length
  | [] => rfl
  | [_] => rfl
  | f :: g :: r => congrArg Nat.succ (partF_len x (g :: r))
theorem partF_get (x : Option Int) : ∀ (F : List Int) (i : Nat) (f : Int), F[i]? = some f → (partF x F)[i]? = some (f, if i + 1 = F.length then x else (F[i + 1]?).map fun q => q - 1)
  | [], _, _, h => by simp at h
  | [g], 0, f, h => by cases h; rfl
  | [g], i + 1, f, h => by simp at h
  | g :: g' :: r, 0, f, h => by
    cases h
    rw [if_neg (by show ¬ (0 + 1 = r.length + 1 + 1); omega)]
    rfl
  | g :: g' :: r, i + 1, f, h => by
    have := partF_get x (g' :: r) i f h
    show (partF x (g' :: r))[i]? = _
    rw [this]
    congr 2
    by_cases e : i + 1 = (g' :: r).length
    · rw [if_pos e, if_pos (show i + 1 + 1 = (g :: g' :: r).length from congrArg Nat.succ e)]
    · rw [if_neg e, if_neg (show ¬ i + 1 + 1 = (g :: g' :: r).length from fun z => e (Nat.succ.inj z))]
      rfl
theorem partF_cov {x : Option Int} {D : Int → Prop} : ∀ {F : List Int} {f : Int} {r : List Int}, F = f :: r → F.Pairwise (· < ·) → (∀ e, x = some e → ∀ g ∈ F, g ≤ e) → (∀ d, D d → f < d → (∀ e, x = some e → d ≤ e) → d ∈ r) →
    CovX pFi pLa (partK D) f (partF x F) x
  | [], _, _, e, _, _, _ => by cases e
  | [p], f, r, e, _, hx, hD => by
    cases e
    cases x with
    | none => exact ⟨rfl, rfl, fun d _ o ho h1 _ => by have := hD o ho h1 nofun; cases this⟩
    | some e =>
      refine ⟨rfl, e, rfl, hx e rfl p List.mem_cons_self, fun d _ h2 o ho h1 h3 => ?_, rfl⟩
      have := hD o ho h1 (fun e' he => by cases he; omega)
      cases this
  | p :: q :: r', f, r, e, up, hx, hD => by
    cases e
    have u := List.pairwise_cons.mp up
    have hq := u.1 q List.mem_cons_self
    have key := partF_cov (x := x) (D := D) (F := q :: r') (f := q) (r := r') rfl u.2 (fun e he g hg => hx e he g (List.mem_cons_of_mem _ hg)) (fun d hd h1 h2 => by
      rcases List.mem_cons.mp (hD d hd (by omega) h2) with h | h
      · omega
      · exact h)
    have hk : ∀ d, p ≤ d → d ≤ q - 1 → ∀ o, D o → p < o → ¬ o ≤ d := fun d h1 h2 o ho h3 h4 => by
      have hm := hD o ho h3 (fun e he => by have := hx e he q (List.mem_cons_of_mem _ List.mem_cons_self); omega)
      have : q ≤ o := by
        rcases List.mem_cons.mp hm with h | h
        · omega
        · exact Int.le_of_lt ((List.pairwise_cons.mp u.2).1 o h)
      omega
    have ne : ∃ c cs, partF x (q :: r') = c :: cs := by
      cases hr : partF x (q :: r') with
      | nil =>
        have := partF_len x (q :: r')
        rw [hr] at this
        cases this
      | cons c cs => exact ⟨c, cs, rfl⟩
    obtain ⟨c, cs, ec⟩ := ne
    cases x with
    | none =>
      have key : Cov pFi pLa (partK D) (q - 1 + 1) (partF none (q :: r')) := by rw [show q - 1 + 1 = q by omega]; exact key
      show Cov pFi pLa (partK D) p ((p, some (q - 1)) :: partF none (q :: r'))
      rw [ec] at key ⊢
      exact ⟨rfl, q - 1, rfl, by omega, hk, key⟩
    | some e =>
      have key : CovT pFi pLa (partK D) (q - 1 + 1) (partF (some e) (q :: r')) (e + 1) := by rw [show q - 1 + 1 = q by omega]; exact key
      exact ⟨rfl, q - 1, rfl, by omega, hk, key⟩
/-- the days of a stretch on which parts begin -/
def cutF (f : Int) (x : Option Int) (days : List Int) : List Int := f :: days.filter fun d => (decide (f ≤ d) && (match x with | none => true | some e => decide (d ≤ e))) && decide (f < d)
def hasB (f : Int) (x : Option Int) (d : Int) : Bool := decide (f ≤ d) && (match x with | none => true | some e => decide (d ≤ e))
theorem hasB_iff {f : Int} {x : Option Int} {d : Int} : hasB f x d = true ↔ f ≤ d ∧ ∀ e, x = some e → d ≤ e := by
  unfold hasB
  rw [Bool.and_eq_true, decide_eq_true_iff]
  cases x with
  | none => exact ⟨fun h => ⟨h.1, nofun⟩, fun h => ⟨h.1, rfl⟩⟩
  | some e => exact ⟨fun h => ⟨h.1, fun e' he => by cases he; exact of_decide_eq_true h.2⟩, fun h => ⟨h.1, decide_eq_true (h.2 e rfl)⟩⟩
theorem cutF_eq (f : Int) (x : Option Int) (days : List Int) : cutF f x days = f :: days.filter fun d => hasB f x d && decide (f < d) := rfl
theorem cut_cov {f : Int} {x : Option Int} {days : List Int} (up : days.Pairwise (· < ·)) (hx : ∀ e, x = some e → f ≤ e) : CovX pFi pLa (partK (· ∈ days)) f (partF x (cutF f x days)) x := by
  rw [cutF_eq]
  have hm : ∀ d, d ∈ days.filter (fun d => hasB f x d && decide (f < d)) ↔ d ∈ days ∧ f < d ∧ ∀ e, x = some e → d ≤ e := fun d => by
    rw [List.mem_filter, Bool.and_eq_true, hasB_iff, decide_eq_true_iff]
    exact ⟨fun h => ⟨h.1, h.2.2, h.2.1.2⟩, fun h => ⟨h.1, ⟨by omega, h.2.2⟩, h.2.1⟩⟩
  refine partF_cov rfl (List.pairwise_cons.mpr ⟨fun d hd => ((hm d).mp hd).2.1, up.filter _⟩) (fun e he g hg => ?_) fun d hd h1 h2 => (hm d).mpr ⟨hd, h1, h2⟩
  rcases List.mem_cons.mp hg with rfl | hg
  · exact hx e he
  · exact ((hm g).mp hg).2.2 e he
theorem CovT.lt {β : Type} {fi : β → Int} {la : β → Option Int} {K : β → Int → Prop} : ∀ {S : List β} {f x : Int}, CovT fi la K f S x → f ≤ x
  | [], _, _, h => Int.le_of_eq h
  | _ :: _, _, _, ⟨_, e, _, h2, _, h4⟩ => by
    have := CovT.lt h4
    omega
theorem CovT.inside {β : Type} {fi : β → Int} {la : β → Option Int} {K : β → Int → Prop} : ∀ {S : List β} {f x : Int}, CovT fi la K f S x → ∀ b ∈ S, ∀ d, HasD2 fi la b d → f ≤ d ∧ d < x
  | [], _, _, _, _, hb, _, _ => nomatch hb
  | c :: r, f, x, ⟨h1, e, h2, h3, _, h5⟩, b, hb, d, hd => by
    have := h5.lt
    rcases List.mem_cons.mp hb with rfl | hb
    · have := hd.1
      have := hd.2 e h2
      omega
    · have := CovT.inside h5 b hb d hd
      omega
theorem CovX.inside {β : Type} {fi : β → Int} {la : β → Option Int} {K : β → Int → Prop} {S : List β} {f : Int} {x : Option Int} (h : CovX fi la K f S x) : ∀ b ∈ S, ∀ d, HasD2 fi la b d → f ≤ d ∧ ∀ e, x = some e → d ≤ e := fun b hb d hd => by
  cases x with
  | none =>
    obtain ⟨i, hi⟩ := List.getElem?_of_mem hb
    have := (h.get i b hi).1
    have := hd.1
    exact ⟨by omega, fun e he => by cases he⟩
  | some z =>
    have := CovT.inside h b hb d hd
    exact ⟨this.1, fun e he => by cases he; omega⟩
theorem partF_mem {x : Option Int} {F : List Int} {q : Part} (h : q ∈ partF x F) : q.1 ∈ F := by
  obtain ⟨i, hi⟩ := List.getElem?_of_mem h
  have il := (List.getElem?_eq_some_iff.mp hi).1
  rw [partF_len] at il
  have e := List.getElem?_eq_getElem il
  rw [partF_get x F i _ e] at hi
  cases hi
  exact List.getElem_mem il
theorem Fr.to_inner {β γ δ : Type} {fi : β → Int} {la : β → Option Int} {pfi : δ → Int} {pla : δ → Option Int} {pk : δ → Int → Prop} {fi' : γ → Int} {la' : γ → Option Int} {K' : γ → Int → Prop} {rs : List β} {i : Nat} {r : β} {ps : List δ} {T : List γ} {left : Int → Prop}
    (fr : Fr fi fi' la' K' rs i T left) (hr : rs[i]? = some r) (cv : CovX pfi pla pk (fi r) ps (la r)) (hx : ∀ e, la r = some e → fi r ≤ e) : FrX pfi fi' la' K' ps (la r) 0 T left := by
  rcases fr with ⟨b, h1, h2, h3⟩ | ⟨h1, _⟩
  · rw [hr] at h1
    cases h1
    obtain ⟨p, h4, h5⟩ := cv.hd hx
    exact .inl ⟨p, h4, by rw [h5]; exact h2, by rw [h5]; exact h3⟩
  · rw [h1, List.getElem?_eq_none (Nat.le_refl _)] at hr
    cases hr
theorem Fr.of_inner {β γ δ : Type} {fi : β → Int} {la : β → Option Int} {K : β → Int → Prop} {pfi : δ → Int} {fi' : γ → Int} {la' : γ → Option Int} {K' : γ → Int → Prop} {rs : List β} {i : Nat} {r : β} {ps : List δ} {T : List γ} {left : Int → Prop}
    (h : Cov fi la K 0 rs) (hr : rs[i]? = some r) (fr : FrX pfi fi' la' K' ps (la r) ps.length T left) : Fr fi fi' la' K' rs (i + 1) T left := by
  rcases fr with ⟨b, h1, _⟩ | ⟨_, h2⟩
  · rw [List.getElem?_eq_none (Nat.le_refl _)] at h1
    cases h1
  · obtain ⟨_, _, _, nx⟩ := h.get i r hr
    rcases nx with ⟨n1, n2, _⟩ | ⟨e, c, n1, n2, n3, n4⟩
    · rw [n2] at h2
      exact .inr ⟨n1, h2⟩
    · rw [n1] at h2
      have h2 : CovT fi' la' K' 0 T (e + 1) ∧ left (e + 1) := h2
      exact .inl ⟨c, n3, by rw [n4]; exact h2.1, by rw [n4]; exact h2.2⟩
/-! ### turns -/
def plE (es : List Evt) (z : Str) (kn : Option Int) (d : Int) : V := plI (heldE es true z kn) d
structure RunsOf (P : Int → Prop) (g : Int → V) (rs : List Run) : Prop where
  cov : Cov rFi rLa (fun x d => g d = x.1) 0 rs
  un : ∀ (i : Nat) a b, rs[i]? = some a → rs[i + 1]? = some b → a.1 ≠ b.1
  days : ∀ r ∈ rs, (rFi r = 0 ∨ P (rFi r)) ∧ ∀ e, rLa r = some e → P (e + 1)
theorem runs_ok {s : V} {ch : List (Int × V)} (hu : ch.Pairwise fun a b => a.1 < b.1) (h0 : ∀ x ∈ ch, 0 ≤ x.1) : RunsOf (fun d => d ∈ ch.map (·.1)) (atL s ch) (runF (begF s ch)) := by
  have B := begs_of s ch hu h0
  have le : ∀ x ∈ begF s ch, x.1 = 0 ∨ x.1 ∈ ch.map (·.1) := fun x hx => (B.le x hx).imp id fun ⟨y, hy, e⟩ => List.mem_map.mpr ⟨y, hy, e.symm⟩
  have get : ∀ i a, (runF (begF s ch))[i]? = some a → ∃ p, (begF s ch)[i]? = some p ∧ a = (p.2, p.1, ((begF s ch)[i + 1]?).map fun q => q.1 - 1) := fun i a h => by
    have il := (List.getElem?_eq_some_iff.mp h).1
    rw [runF_len] at il
    have e := List.getElem?_eq_getElem il
    refine ⟨_, e, ?_⟩
    rw [runF_get _ i _ e] at h
    exact (Option.some.inj h).symm
  refine ⟨runs_cov hu h0, fun i a b h1 h2 => ?_, fun r hr => ?_⟩
  · obtain ⟨p, e1, rfl⟩ := get i a h1
    obtain ⟨q, e2, rfl⟩ := get (i + 1) b h2
    exact B.un i p q e1 e2
  · obtain ⟨i, hi⟩ := List.getElem?_of_mem hr
    obtain ⟨p, e1, rfl⟩ := get i r hi
    refine ⟨le p (List.mem_of_getElem? e1), fun e he => ?_⟩
    have he : ((begF s ch)[i + 1]?).map (fun q => q.1 - 1) = some e := he
    cases hq : (begF s ch)[i + 1]? with
    | none => rw [hq] at he; cases he
    | some q =>
      rw [hq] at he
      have he : q.1 - 1 = e := Option.some.inj he
      have hm := le q (List.mem_of_getElem? hq)
      have lt : p.1 < q.1 := by
        have := List.pairwise_iff_getElem.mp B.up i (i + 1) (List.getElem?_eq_some_iff.mp e1).1 (List.getElem?_eq_some_iff.mp hq).1 (by omega)
        rw [(List.getElem?_eq_some_iff.mp e1).2, (List.getElem?_eq_some_iff.mp hq).2] at this
        exact this
      have p0 : 0 ≤ p.1 := by
        rcases B.le p (List.mem_of_getElem? e1) with h | ⟨y, hy, h⟩
        · omega
        · have := h0 y hy
          omega
      rw [← he, show q.1 - 1 + 1 = q.1 by omega]
      rcases hm with h | h
      · omega
      · exact h
theorem RunsOf.imp {P P' : Int → Prop} {g : Int → V} {rs : List Run} (h : RunsOf P g rs) (k : ∀ d, P d → P' d) : RunsOf P' g rs := ⟨h.cov, h.un, fun r hr => ⟨(h.days r hr).1.imp id (k _), fun e he => k _ ((h.days r hr).2 e he)⟩⟩
theorem Cov.congr {β : Type} {fi : β → Int} {la : β → Option Int} {K K' : β → Int → Prop} (hk : ∀ b d, 0 ≤ d → K b d → K' b d) {S : List β} {f : Int} (h0 : 0 ≤ f) (h : Cov fi la K f S) : Cov fi la K' f S := by
  suffices go : ∀ (S : List β) (f : Int), 0 ≤ f → Cov fi la K f S → Cov fi la K' f S from go S f h0 h
  clear h h0
  intro S
  induction S with
  | nil => exact fun _ _ h => h.elim
  | cons b r ih =>
    intro f h0 h
    cases r with
    | nil => exact ⟨h.1, h.2.1, fun d hd => hk b d (by omega) (h.2.2 d hd)⟩
    | cons c r =>
      obtain ⟨a1, e, a2, a3, a4, a5⟩ := h
      exact ⟨a1, e, a2, a3, fun d h1 h2 => hk b d (by omega) (a4 d h1 h2), ih _ (by omega) a5⟩
theorem RunsOf.congr {P : Int → Prop} {g g' : Int → V} {rs : List Run} (h : RunsOf P g rs) (e : ∀ d, 0 ≤ d → g d = g' d) : RunsOf P g' rs := ⟨Cov.congr (fun b d hd (hk : g d = b.1) => (e d hd).symm.trans hk) (Int.le_refl 0) h.cov, h.un, h.days⟩
/-- an event's day -/
def EvD (es : List Evt) (mv : Bool) (z : Str) (d : Int) : Prop := ∃ e ∈ es, e.mv = mv ∧ e.who = z ∧ e.day = d
theorem hold_day {es : List Evt} {mv : Bool} {z : Str} {kn : Option Int} {L : List (Int × V)} (h : HoldF (heldE es mv z kn) L) : ∀ d, d ∈ L.map (·.1) → EvD es mv z d := fun d hd => by
  obtain ⟨⟨d, w⟩, hp, rfl⟩ := List.mem_map.mp hd
  obtain ⟨h1, h2⟩ := (h.mem d w).mp hp
  unfold heldE at h2
  cases e : heldO es mv z kn d with
  | none => rw [e] at h2; exact absurd h2.symm h1
  | some w' =>
    obtain ⟨e', q1, q2, _⟩ := heldO_mem e
    obtain ⟨⟨q3, q4⟩, _, q5⟩ := heldP_iff.mp q2
    exact ⟨e', q1, q3, q4, q5⟩
theorem turns_ok {es : List Evt} {z : Str} {kn : Option Int} {L : List (Int × V)} (h : HoldF (heldE es true z kn) L) (h0 : ∀ e ∈ es, 0 ≤ e.day) : RunsOf (EvD es true z) (plE es z kn) (runF (begF (.str (Str.ofString "")) L)) := by
  have d0 : ∀ x ∈ L, 0 ≤ x.1 := fun x hx => by
    obtain ⟨e, he, _, _, ed⟩ := hold_day h x.1 (List.mem_map.mpr ⟨x, hx, rfl⟩)
    have := h0 e he
    omega
  refine ((runs_ok h.up d0).imp fun d hd => hold_day h d hd).congr fun d hd => ?_
  rw [← whereL_at]
  exact plI_of (held_neg h0) hd (whereL_is h)
theorem turns_len {L : List (Int × V)} {s : V} : (runF (begF s L)).length ≤ L.length + 1 := by
  rw [runF_len]
  refine snoc_ind (p := fun L => (begF s L).length ≤ L.length + 1) (Nat.le_refl _) (fun L p ih => ?_) L
  rw [begF_snoc, List.length_append]
  unfold begS
  split
  · show 1 ≤ _
    omega
  · split
    · omega
    · rw [List.length_append]
      show (begF s L).length + 1 ≤ L.length + 1 + 1
      omega
theorem begF_vals {s : V} : ∀ L : List (Int × V), ∀ p ∈ begF s L, p.2 = s ∨ ∃ x ∈ L, x.2 = p.2 := by
  refine snoc_ind (fun p hp => .inl (by rw [List.mem_singleton.mp hp])) fun L q ih p hp => ?_
  rw [begF_snoc] at hp
  unfold begS at hp
  split at hp
  · rw [List.mem_singleton.mp hp]
    exact .inr ⟨q, List.mem_append_right _ List.mem_cons_self, rfl⟩
  · split at hp
    · exact (ih p hp).imp id fun ⟨x, hx, e⟩ => ⟨x, List.mem_append_left _ hx, e⟩
    · rcases List.mem_append.mp hp with hp | hp
      · exact (ih p hp).imp id fun ⟨x, hx, e⟩ => ⟨x, List.mem_append_left _ hx, e⟩
      · rw [List.mem_singleton.mp hp]
        exact .inr ⟨q, List.mem_append_right _ List.mem_cons_self, rfl⟩
theorem turns_vals {L : List (Int × V)} {s : V} : ∀ r ∈ runF (begF s L), r.1 = s ∨ ∃ x ∈ L, x.2 = r.1 := by
  intro r hr
  obtain ⟨i, hi⟩ := List.getElem?_of_mem hr
  have il := (List.getElem?_eq_some_iff.mp hi).1
  rw [runF_len] at il
  have e := List.getElem?_eq_getElem il
  rw [runF_get _ i _ e] at hi
  cases hi
  exact begF_vals L _ (List.getElem_mem il)
theorem begF_ne (s : V) : ∀ L : List (Int × V), begF s L ≠ [] := by
  refine snoc_ind (by nofun) fun L p ih => ?_
  rw [begF_snoc]
  unfold begS
  split
  · nofun
  · split
    · exact ih
    · simp
/-! ### heads -/
def manyI (es : List Evt) (zs : List Str) (z : Str) (kn : Option Int) (d : Int) : Int := ((zs.filter fun k => decide (plE es k kn d = .str z)).length : Nat)
def getI (t : List (Int × Int)) (k : Int) : Int := (getA t k).getD 0
def putStep (t : List (Int × Int)) (f : Int) : Option Int → List (Int × Int)
  | none => putA t f (getI t f + 1)
  | some e => putA (putA t f (getI t f + 1)) (e + 1) (getI (putA t f (getI t f + 1)) (e + 1) - 1)
theorem keys_putI {t : List (Int × Int)} {k v d : Int} (h : d ∈ (putA t k v).map (·.1)) : d = k ∨ d ∈ t.map (·.1) := by
  obtain ⟨p, hp, rfl⟩ := List.mem_map.mp h
  rcases mem_put hp with rfl | hp
  · exact .inl rfl
  · exact .inr (List.mem_map.mpr ⟨p, hp, rfl⟩)
structure Steps (P : Int → Prop) (t : List (Int × Int)) (g : Int → Int) : Prop where
  nd : (t.map (·.1)).Nodup
  ks : ∀ d ∈ t.map (·.1), d = 0 ∨ P d
  sum : ∀ d, sumLe t d = g d
theorem Steps.nil (P : Int → Prop) : Steps P [] (fun _ => 0) := ⟨List.nodup_nil, nofun, fun _ => rfl⟩
theorem Steps.put {P : Int → Prop} {t : List (Int × Int)} {g : Int → Int} {f : Int} {x : Option Int} (h : Steps P t g) (h1 : f = 0 ∨ P f) (h2 : ∀ e, x = some e → f ≤ e ∧ P (e + 1)) :
    Steps P (putStep t f x) (fun d => g d + if hasB f x d = true then 1 else 0) := by
  cases x with
  | none =>
    refine ⟨nodup_put h.nd, fun d hd => ?_, fun d => ?_⟩
    · rcases keys_putI hd with rfl | hd
      · exact h1
      · exact h.ks d hd
    · show sumLe (putA t f ((getA t f).getD 0 + 1)) d = _
      rw [sumLe_put h.nd, h.sum]
      by_cases hf : f ≤ d
      · rw [if_pos hf, if_pos (hasB_iff.mpr ⟨hf, fun e h => by cases h⟩)]
      · rw [if_neg hf, if_neg (fun z => hf (hasB_iff.mp z).1)]
  | some e =>
    obtain ⟨fe, pe⟩ := h2 e rfl
    refine ⟨nodup_put (nodup_put h.nd), fun d hd => ?_, fun d => ?_⟩
    · rcases keys_putI hd with rfl | hd
      · exact .inr pe
      · rcases keys_putI hd with rfl | hd
        · exact h1
        · exact h.ks d hd
    · have e1 : putStep t f (some e) = putA (putA t f ((getA t f).getD 0 + 1)) (e + 1) ((getA (putA t f ((getA t f).getD 0 + 1)) (e + 1)).getD 0 + -1) := rfl
      rw [e1, sumLe_put (nodup_put h.nd), sumLe_put h.nd, h.sum]
      by_cases hf : f ≤ d
      · rw [if_pos hf]
        by_cases he : e + 1 ≤ d
        · rw [if_pos he, if_neg (fun z => by have := (hasB_iff.mp z).2 e rfl; omega)]
          omega
        · rw [if_neg he, if_pos (hasB_iff.mpr ⟨hf, fun e' h => by cases h; omega⟩)]
          omega
      · rw [if_neg hf, if_neg (by omega), if_neg (fun z => hf (hasB_iff.mp z).1), Int.add_zero]
theorem Steps.congr {P : Int → Prop} {t : List (Int × Int)} {g g' : Int → Int} (h : Steps P t g) (e : ∀ d, g d = g' d) : Steps P t g' := ⟨h.nd, h.ks, fun d => (h.sum d).trans (e d)⟩
theorem Steps.len {es : List Evt} {mv : Bool} {t : List (Int × Int)} {g : Int → Int} (h : Steps (fun d => ∃ z, EvD es mv z d) t g) : t.length ≤ es.length + 1 := by
  have := List.Nodup.length_le_of_subset h.nd (l₂ := 0 :: es.map (·.day)) fun d hd => by
    rcases h.ks d hd with rfl | ⟨z, e, he, _, _, rfl⟩
    · exact List.mem_cons_self
    · exact List.mem_cons_of_mem _ (List.mem_map.mpr ⟨e, he, rfl⟩)
  rw [List.length_map, List.length_cons, List.length_map] at this
  exact this
/-- how many of the runs at a place have a day -/
def hasRuns (z : Str) (rs : List Run) (d : Int) : Int := ((rs.filter fun r => decide (r.1 = V.str z) && hasB (rFi r) (rLa r) d).length : Nat)
instance (b : Run) (d : Int) : Decidable (HasD2 rFi rLa b d) := decidable_of_iff (hasB (rFi b) (rLa b) d = true) hasB_iff
theorem hasRuns_is {P : Int → Prop} {g : Int → V} {rs : List Run} {z : Str} (h : RunsOf P g rs) {d : Int} : hasRuns z rs d = if 0 ≤ d ∧ g d = .str z then 1 else 0 := by
  have hc : Cov rFi rLa (fun (x : Run) d => decide (g d = V.str z) = decide (x.1 = V.str z)) 0 rs := h.cov.imp fun b d (e : g d = b.1) => by
    show decide (g d = V.str z) = decide (b.1 = V.str z)
    rw [e]
  have := Cov.count (q := fun r : Run => decide (r.1 = V.str z)) (g := fun d => decide (g d = V.str z)) hc d (Int.le_refl 0)
  unfold hasRuns
  have e2 : (rs.filter fun r => decide (r.1 = V.str z) && hasB (rFi r) (rLa r) d) = rs.filter fun r => decide (r.1 = V.str z) && decide (HasD2 rFi rLa r d) := by
    congr 1
    funext r
    congr 1
    rw [Bool.eq_iff_iff, hasB_iff, decide_eq_true_iff]
    rfl
  rw [e2, this]
  by_cases h2 : 0 ≤ d ∧ g d = .str z
  · rw [if_pos h2, if_pos ⟨h2.1, decide_eq_true h2.2⟩]
    rfl
  · rw [if_neg h2, if_neg (fun z => h2 ⟨z.1, of_decide_eq_true z.2⟩)]
    rfl
theorem hasRuns_snoc (z : Str) (rs : List Run) (r : Run) (d : Int) : hasRuns z (rs ++ [r]) d = hasRuns z rs d + if r.1 = V.str z then (if hasB (rFi r) (rLa r) d = true then 1 else 0) else 0 := by
  unfold hasRuns
  rw [List.filter_append, List.length_append, List.filter_cons, List.filter_nil]
  by_cases h : r.1 = V.str z
  · rw [if_pos h, decide_eq_true h, Bool.true_and]
    split <;> rfl
  · rw [if_neg h, decide_eq_false h, Bool.false_and]
    rfl
/-- over the keepers, one by one -/
def manyN (es : List Evt) (zs : List Str) (z : Str) (kn : Option Int) (d : Int) : Int := if 0 ≤ d then manyI es zs z kn d else 0
theorem manyN_nil (es : List Evt) (z : Str) (kn : Option Int) (d : Int) : manyN es [] z kn d = 0 := by
  unfold manyN
  split <;> rfl
theorem manyN_snoc (es : List Evt) (zs : List Str) (k z : Str) (kn : Option Int) (d : Int) : manyN es (zs ++ [k]) z kn d = manyN es zs z kn d + if 0 ≤ d ∧ plE es k kn d = .str z then 1 else 0 := by
  unfold manyN manyI
  rw [List.filter_append, List.length_append, List.filter_cons, List.filter_nil]
  by_cases h0 : 0 ≤ d
  · rw [if_pos h0, if_pos h0]
    by_cases h : plE es k kn d = .str z
    · rw [if_pos (decide_eq_true h), if_pos ⟨h0, h⟩]
      rfl
    · rw [decide_eq_false h, if_neg (by nofun), if_neg (fun z => h z.2)]
      rfl
  · rw [if_neg h0, if_neg h0, if_neg (fun z => h0 z.1)]
    rfl
theorem manyI_le (es : List Evt) (zs : List Str) (z : Str) (kn : Option Int) (d : Int) : 0 ≤ manyI es zs z kn d ∧ manyI es zs z kn d ≤ zs.length := by
  unfold manyI
  have := List.length_filter_le (fun k => decide (plE es k kn d = .str z)) zs
  omega
/-! ### steps, day by day -/
def sumV (t : List (Int × Int)) (ks : List Int) : Int := (ks.map (getI t)).sum
structure Acc (t : List (Int × Int)) (ks : List Int) (rs : List (Int × V)) : Prop where
  ek : rs.map (·.1) = ks
  at_ : ∀ d, atL (.int 0) rs d = .int (sumV t (ks.filter fun k => decide (k ≤ d)))
  vs : ∀ p ∈ rs, ∃ m : Int, p.2 = .int m
theorem Acc.nil (t : List (Int × Int)) : Acc t [] [] := ⟨rfl, fun _ => rfl, nofun⟩
theorem Acc.snoc {t : List (Int × Int)} {ks : List Int} {rs : List (Int × V)} {k : Int} (h : Acc t ks rs) (up : (ks ++ [k]).Pairwise (· < ·)) : Acc t (ks ++ [k]) (rs ++ [(k, .int (sumV t (ks ++ [k])))]) := by
  refine ⟨by rw [List.map_append, h.ek]; rfl, fun d => ?_, fun p hp => ?_⟩
  · rw [atL_snoc]
    by_cases hk : k ≤ d
    · rw [if_pos hk]
      congr 2
      have : (ks ++ [k]).filter (fun k => decide (k ≤ d)) = ks ++ [k] := List.filter_eq_self.mpr fun x hx => by
        rcases List.mem_append.mp hx with hx | hx
        · have := (List.pairwise_append.mp up).2.2 x hx k List.mem_cons_self
          exact decide_eq_true (by omega)
        · rw [List.mem_singleton.mp hx]
          exact decide_eq_true hk
      rw [this]
    · rw [if_neg hk, h.at_, List.filter_append, List.filter_cons, decide_eq_false hk, if_neg (by nofun), List.filter_nil, List.append_nil]
  · rcases List.mem_append.mp hp with hp | hp
    · exact h.vs p hp
    · rw [List.mem_singleton.mp hp]
      exact ⟨_, rfl⟩
theorem sumV_snoc (t : List (Int × Int)) (ks : List Int) (k : Int) : sumV t (ks ++ [k]) = sumV t ks + getI t k := by
  unfold sumV
  rw [List.map_append, List.sum_append]
  show _ + (getI t k + 0) = _
  rw [Int.add_zero]
theorem psumI {a b : List Int} (h : a.Perm b) : a.sum = b.sum := by
  induction h with
  | nil => rfl
  | cons x _ ih => rw [List.sum_cons, List.sum_cons, ih]
  | swap x y l => rw [List.sum_cons, List.sum_cons, List.sum_cons, List.sum_cons, ← Int.add_assoc, ← Int.add_assoc, Int.add_comm x y]
  | trans _ _ h1 h2 => exact h1.trans h2
theorem sumV_perm {t : List (Int × Int)} {ks : List Int} (nd : (t.map (·.1)).Nodup) (perm : ks.Perm (t.map (·.1))) (d : Int) : sumV t (ks.filter fun k => decide (k ≤ d)) = sumLe t d := by
  have p2 := psumI ((perm.filter fun k => decide (k ≤ d)).map (getI t))
  unfold sumV
  rw [p2]
  unfold sumLe
  rw [List.filter_map, List.map_map]
  congr 1
  refine List.map_congr_left fun p hp => ?_
  have hm := (List.mem_filter.mp hp).1
  show (getA t p.1).getD 0 = p.2
  rw [getA_of_mem nd (show (p.1, p.2) ∈ t from hm)]
  rfl
theorem acc_at {t : List (Int × Int)} {ks : List Int} {rs : List (Int × V)} (h : Acc t ks rs) (nd : (t.map (·.1)).Nodup) (perm : ks.Perm (t.map (·.1))) (d : Int) : atL (.int 0) rs d = .int (sumLe t d) := by
  rw [h.at_, sumV_perm nd perm]
/-- what is told of heads -/
def HeadsOf (es : List Evt) (zs : List Str) (z : Str) (kn : Option Int) (rs : List Run) : Prop := RunsOf (fun d => ∃ k, EvD es true k d) (fun d => .int (manyI es zs z kn d)) rs
theorem heads_ok {es : List Evt} {zs : List Str} {z : Str} {kn : Option Int} {t : List (Int × Int)} {ks : List Int} {rs : List (Int × V)} (hs : Steps (fun d => ∃ k, EvD es true k d) t (manyN es zs z kn)) (h : Acc t ks rs) (perm : ks.Perm (t.map (·.1))) (up : ks.Pairwise (· < ·)) (h0 : ∀ e ∈ es, 0 ≤ e.day) :
    HeadsOf es zs z kn (runF (begF (.int 0) rs)) := by
  have hk : ∀ d ∈ rs.map (·.1), d = 0 ∨ ∃ k, EvD es true k d := fun d hd => hs.ks d (by rw [h.ek] at hd; exact perm.mem_iff.mp hd)
  have up2 : rs.Pairwise fun a b => a.1 < b.1 := by
    have : (rs.map (·.1)).Pairwise (· < ·) := by rw [h.ek]; exact up
    rwa [List.pairwise_map] at this
  have d0 : ∀ x ∈ rs, 0 ≤ x.1 := fun x hx => by
    rcases hk x.1 (List.mem_map.mpr ⟨x, hx, rfl⟩) with h | ⟨k, e, he, _, _, ed⟩
    · omega
    · have := h0 e he
      omega
  have R := runs_ok (s := .int 0) up2 d0
  have R2 : RunsOf (fun d => d ∈ rs.map (·.1)) (fun d => .int (manyI es zs z kn d)) (runF (begF (.int 0) rs)) := R.congr fun d hd => by
    rw [acc_at h hs.nd perm, hs.sum]
    unfold manyN
    rw [if_pos hd]
  refine ⟨R2.cov, R2.un, fun r hr => ?_⟩
  obtain ⟨a, b⟩ := R2.days r hr
  have low := R2.cov.le r hr
  refine ⟨?_, fun e he => ?_⟩
  · rcases a with a | a
    · exact .inl a
    · exact hk _ a
  · rcases hk _ (b e he) with h | h
    · have := low.2 e he
      omega
    · exact h
/-! ### what is left -/
def numI : V → Int
  | .int n => n
  | _ => 0
structure Shop where
  es : List Evt
  zs : List Str
  z : Str
  kn : Option Int
  R : Int
namespace Shop
def many (s : Shop) (d : Int) : Int := manyI s.es s.zs s.z s.kn d
def landW (s : Shop) (d : Int) : V := (heldO s.es false s.z s.kn d).getD (.int 0)
def land (s : Shop) (d : Int) : Int := numI (s.landW d)
def net (s : Shop) (i : Nat) : Int := s.land i - s.many i * s.R
def left (s : Shop) (d : Int) : Int := leftI s.net d
structure OK (s : Shop) (rk : List (Str × Int)) : Prop where
  ev : ∀ e ∈ s.es, EvOK rk e
  zl : s.zs.length ≤ 30
  r0 : 0 ≤ s.R
  r1 : s.R < 10 ^ 56
variable {s : Shop} {rk : List (Str × Int)}
theorem OK.d0 (h : s.OK rk) : ∀ e ∈ s.es, 0 ≤ e.day := fun e he => (h.ev e he).d0
theorem OK.landV (h : s.OK rk) (d : Int) : s.landW d = .int (s.land d) ∧ 0 ≤ s.land d ∧ s.land d < 10 ^ 57 := by
  unfold land landW
  cases e : heldO s.es false s.z s.kn d with
  | none => exact ⟨rfl, by decide, by decide⟩
  | some w =>
    obtain ⟨n, rfl, h0, h1⟩ := held_land h.ev e
    exact ⟨rfl, h0, h1⟩
theorem OK.manyB (h : s.OK rk) (d : Int) : 0 ≤ s.many d ∧ s.many d ≤ 30 := by
  have := manyI_le s.es s.zs s.z s.kn d
  have := h.zl
  unfold many
  omega
theorem OK.eatB (h : s.OK rk) (d : Int) : 0 ≤ s.many d * s.R ∧ s.many d * s.R < 10 ^ 58 := by
  obtain ⟨m0, m1⟩ := h.manyB d
  refine ⟨Int.mul_nonneg m0 h.r0, ?_⟩
  have h1 : s.many d * s.R ≤ 30 * s.R := Int.mul_le_mul_of_nonneg_right m1 h.r0
  have := h.r1
  omega
theorem OK.netB (h : s.OK rk) (i : Nat) : -(10 ^ 58) < s.net i ∧ s.net i < 10 ^ 58 := by
  have := h.eatB i
  have := (h.landV i).2
  unfold net
  omega
theorem sumB {g : Nat → Int} {M : Int} (h : ∀ i, -M < g i ∧ g i < M) : ∀ n : Nat, -(M * n) ≤ sumN g n ∧ sumN g n ≤ M * n
  | 0 => by
    show -(M * ((0 : Nat) : Int)) ≤ 0 ∧ (0 : Int) ≤ M * ((0 : Nat) : Int)
    rw [show ((0 : Nat) : Int) = 0 from rfl, Int.mul_zero]
    decide
  | n + 1 => by
    have ih := sumB h n
    have hn := h n
    show -(M * ((n + 1 : Nat) : Int)) ≤ sumN g n + g n ∧ sumN g n + g n ≤ M * ((n + 1 : Nat) : Int)
    rw [show ((n + 1 : Nat) : Int) = (n : Int) + 1 by omega, Int.mul_add, Int.mul_one]
    omega
theorem OK.leftB (h : s.OK rk) {d : Int} (h0 : -1 ≤ d) : -(10 ^ 58 * (d + 1)) ≤ s.left d ∧ s.left d ≤ 10 ^ 58 * (d + 1) := by
  have := sumB (g := s.net) (M := 10 ^ 58) h.netB (d + 1).toNat
  rw [Int.toNat_of_nonneg (by omega)] at this
  exact this
/-- over a stretch of days on which as many eat and on none but the first anything is landed -/
theorem run {a d m : Int} (h0 : 0 ≤ a) (hd : a ≤ d) (hm : ∀ i, a ≤ i → i ≤ d → s.many i = m) (hl : ∀ i, a < i → i ≤ d → s.land i = 0) : s.left d = s.left (a - 1) + s.land a - m * s.R * (d - a + 1) := by
  have := left_run (net := s.net) (land := fun i => s.land i) (eat := fun i => s.many i * s.R) (fun _ => rfl) (m := m * s.R) h0 hd (fun i h1 h2 => by rw [hm i h1 h2]) (fun i h1 h2 => hl i h1 h2)
  have e : ((a.toNat : Nat) : Int) = a := Int.toNat_of_nonneg h0
  simp only [e] at this
  exact this
end Shop
structure Sup where
  fi : Int
  la : Option Int
  stock : Int
  eaten : Int
def supK (s : Shop) (b : Sup) (d : Int) : Prop := s.left d = b.stock - b.eaten * (d - b.fi + 1)
structure SupB (s : Shop) (b : Sup) : Prop where
  f0 : 0 ≤ b.fi
  f1 : b.fi < 10 ^ 55
  l1 : ∀ e, b.la = some e → b.fi ≤ e ∧ e < 10 ^ 55
  st : b.stock = s.left (b.fi - 1) + s.land b.fi
  e0 : 0 ≤ b.eaten
  e1 : b.eaten < 10 ^ 58
structure SupOf (s : Shop) (ss : List Sup) : Prop where
  cov : Cov Sup.fi Sup.la (supK s) 0 ss
  ok : ∀ b ∈ ss, SupB s b
theorem SupB.stB {s : Shop} {rk : List (Str × Int)} {b : Sup} (h : SupB s b) (ok : s.OK rk) : -(10 ^ 114) < b.stock ∧ b.stock < 10 ^ 114 := by
  have h1 := ok.leftB (d := b.fi - 1) (by have := h.f0; omega)
  have h2 := (ok.landV b.fi).2
  have h3 := h.f1
  have h4 := h.f0
  rw [h.st]
  have e : b.fi - 1 + 1 = b.fi := by omega
  rw [e] at h1
  omega
/-- one supply of a part of a run -/
theorem supply_of {s : Shop} {rk : List (Str × Int)} {P : Int → Prop} {rs : List Run} {r : Run} {days : List Int} {q : Part} {m : Int} (hr : ∀ d, HasD2 rFi rLa r d → V.int (s.many d) = r.1) (em : r.1 = .int m) (hq : ∀ d, HasD2 pFi pLa q d → partK (· ∈ days) q d)
    (hd : ∀ d, d ∉ days → s.land d = 0) (q0 : 0 ≤ q.1) (hqr : ∀ d, HasD2 pFi pLa q d → HasD2 rFi rLa r d) : ∀ d, HasD2 pFi pLa q d → supK s ⟨q.1, q.2, s.left (q.1 - 1) + s.land q.1, m * s.R⟩ d := fun d hd' => by
  refine Shop.run q0 hd'.1 (fun i h1 h2 => ?_) fun i h1 h2 => ?_
  · have := hr i (hqr i ⟨h1, fun e he => Int.le_trans h2 (hd'.2 e he)⟩)
    rw [em] at this
    exact V.int.inj this
  · refine hd i fun hm => ?_
    exact hq d hd' i hm h1 h2
/-- what is left on the one that has the day -/
theorem SupOf.at_ {s : Shop} {ss : List Sup} (h : SupOf s ss) {d : Int} (hd : 0 ≤ d) : ∃ (i : Nat) (b : Sup), ss[i]? = some b ∧ HasD2 Sup.fi Sup.la b d ∧ supK s b d ∧ ∀ j c, ss[j]? = some c → HasD2 Sup.fi Sup.la c d → j = i := h.cov.one d hd
/-! ### unfed -/
def Fed (s : Shop) (d : Int) : Prop := ∀ d', 0 ≤ d' → d' < d → 0 ≤ s.left d'
theorem fed_next {s : Shop} {rk : List (Str × Int)} {ss : List Sup} {i : Nat} {b : Sup} (h : SupOf s ss) (ok : s.OK rk) (hb : ss[i]? = some b) (hf : Fed s b.fi) :
    0 ≤ b.stock ∧ (∀ d, HasD2 Sup.fi Sup.la b d → d < b.fi + b.stock / b.eaten ∨ b.eaten = 0 → 0 ≤ s.left d) ∧ (0 < b.eaten → HasD2 Sup.fi Sup.la b (b.fi + b.stock / b.eaten) → s.left (b.fi + b.stock / b.eaten) < 0) := by
  have B := h.ok b (List.mem_of_getElem? hb)
  obtain ⟨_, _, hk, _⟩ := h.cov.get i b hb
  have f0 := B.f0
  have st0 : 0 ≤ b.stock := by
    rw [B.st]
    have h2 := (ok.landV b.fi).2.1
    by_cases e : b.fi = 0
    · rw [e]
      rw [e] at h2
      exact Int.add_nonneg (by show (0 : Int) ≤ s.left (0 - 1); exact Int.le_refl 0) h2
    · have := hf (b.fi - 1) (by omega) (by omega)
      omega
  have e0 := B.e0
  refine ⟨st0, fun d hd hh => ?_, fun ep hd => ?_⟩
  · have hkd : s.left d = b.stock - b.eaten * (d - b.fi + 1) := hk d hd
    rw [hkd]
    have d0 := hd.1
    rcases hh with hh | hh
    · by_cases ep : b.eaten = 0
      · rw [ep, Int.zero_mul]
        omega
      · have h1 : b.eaten * (d - b.fi + 1) ≤ b.eaten * (b.stock / b.eaten) := Int.mul_le_mul_of_nonneg_left (by omega) e0
        have h2 := Int.mul_ediv_self_le (x := b.stock) (k := b.eaten) ep
        omega
    · rw [hh, Int.zero_mul]
      omega
  · have hkd : s.left (b.fi + b.stock / b.eaten) = b.stock - b.eaten * (b.fi + b.stock / b.eaten - b.fi + 1) := hk _ hd
    rw [hkd, show b.fi + b.stock / b.eaten - b.fi + 1 = b.stock / b.eaten + 1 by omega]
    have := Int.lt_mul_ediv_self_add (x := b.stock) (k := b.eaten) ep
    rw [Int.mul_add, Int.mul_one]
    omega
/-! ### wanted -/
structure Want (s : Shop) (till : Int) (lim : Int → Prop) (least : Int) (day : Option Int) : Prop where
  low : ∀ d, 0 ≤ d → d ≤ till → lim d → least ≤ s.left d
  is : (least = 0 ∧ day = none) ∨ ∃ x, day = some x ∧ least < 0 ∧ 0 ≤ x ∧ x ≤ till ∧ s.left x = least ∧ ∀ d, 0 ≤ d → d < x → least < s.left d
theorem Want.nil {s : Shop} {till : Int} {lim : Int → Prop} (h : ∀ d, 0 ≤ d → ¬ lim d) : Want s till lim 0 none := ⟨fun d h0 _ hl => absurd hl (h d h0), .inl ⟨rfl, rfl⟩⟩
theorem want_next {s : Shop} {rk : List (Str × Int)} {ss : List Sup} {i : Nat} {b : Sup} {till least : Int} {day : Option Int} {lim' : Int → Prop} (h : SupOf s ss) (ok : s.OK rk) (hb : ss[i]? = some b)
    (w : Want s till (· < b.fi) least day) (hl : ∀ d, lim' d → d < b.fi ∨ HasD2 Sup.fi Sup.la b d) :
    (b.fi ≤ till → ∀ x, (x ≤ till ∧ HasD2 Sup.fi Sup.la b x ∧ ∀ d, d ≤ till → HasD2 Sup.fi Sup.la b d → d ≤ x) → (s.left x < least → Want s till lim' (s.left x) (some x)) ∧ (¬ s.left x < least → Want s till lim' least day)) ∧ (till < b.fi → Want s till lim' least day) := by
  have B := h.ok b (List.mem_of_getElem? hb)
  obtain ⟨_, _, hk, _⟩ := h.cov.get i b hb
  have f0 := B.f0
  have e0 := B.e0
  have l0 : least ≤ 0 := by
    rcases w.is with ⟨h, _⟩ | ⟨x, _, h, _⟩ <;> omega
  refine ⟨fun ft x ⟨x1, x2, x3⟩ => ⟨fun lt => ?_, fun nlt => ?_⟩, fun ft => ?_⟩
  · have kx : s.left x = b.stock - b.eaten * (x - b.fi + 1) := hk x x2
    have xf := x2.1
    have ep : 0 < b.eaten := by
      refine Int.lt_iff_le_and_ne.mpr ⟨e0, fun e => ?_⟩
      rw [← e, Int.zero_mul, B.st] at kx
      have h2 := (ok.landV b.fi).2.1
      by_cases ef : b.fi = 0
      · rw [ef] at kx
        rw [ef] at h2
        have : s.left (0 - 1) = 0 := rfl
        rw [this] at kx
        omega
      · have := w.low (b.fi - 1) (by omega) (by omega) (show b.fi - 1 < b.fi by omega)
        omega
    refine ⟨fun d d0 d1 hd => ?_, .inr ⟨x, rfl, by omega, by omega, x1, rfl, fun d d0 d1 => ?_⟩⟩
    · rcases hl d hd with h | h
      · have := w.low d d0 d1 h
        omega
      · have kd : s.left d = b.stock - b.eaten * (d - b.fi + 1) := hk d h
        have := x3 d d1 h
        have : b.eaten * (d - b.fi + 1) ≤ b.eaten * (x - b.fi + 1) := Int.mul_le_mul_of_nonneg_left (by omega) e0
        omega
    · by_cases hdf : d < b.fi
      · have := w.low d d0 (by omega) hdf
        omega
      · have kd : s.left d = b.stock - b.eaten * (d - b.fi + 1) := hk d ⟨by omega, fun e he => by have := x2.2 e he; omega⟩
        have h1 : b.eaten * (d - b.fi + 2) ≤ b.eaten * (x - b.fi + 1) := Int.mul_le_mul_of_nonneg_left (by omega) e0
        have h2 : b.eaten * (d - b.fi + 2) = b.eaten * (d - b.fi + 1) + b.eaten := by
          rw [show d - b.fi + 2 = (d - b.fi + 1) + 1 by omega, Int.mul_add, Int.mul_one]
        omega
  · refine ⟨fun d d0 d1 hd => ?_, w.is⟩
    rcases hl d hd with h | h
    · exact w.low d d0 d1 h
    · have kd : s.left d = b.stock - b.eaten * (d - b.fi + 1) := hk d h
      have kx : s.left x = b.stock - b.eaten * (x - b.fi + 1) := hk x x2
      have := x3 d d1 h
      have : b.eaten * (d - b.fi + 1) ≤ b.eaten * (x - b.fi + 1) := Int.mul_le_mul_of_nonneg_left (by omega) e0
      omega
  · refine ⟨fun d d0 d1 hd => ?_, w.is⟩
    rcases hl d hd with h | h
    · exact w.low d d0 d1 h
    · have := h.1
      omega
/-! ### by the law: from mark to mark -/
end LT
set_option Elab.async false
set_option linter.all false
set_option maxRecDepth 100000
set_option maxHeartbeats 1600000
/-! Own layer: list(zip(a, b)) of two lists. -/
namespace LT
open PySem PySem.Spec PyProof.Rows L2
def ZSt (z TI TO i1 i2 a b S : Addr) (i : Nat) (h : Heap) : Prop := IsPair h TI (.ref i1) (.ref i2) ∧ h.IsListIter i1 a i ∧ h.IsListIter i2 b i ∧ (∃ o, h.get? TO = some o) ∧
  ((IsZip h z TI TO .none ∧ ∃ x y, IsPair h TO x y) ∨ ∃ T f oT, IsZipHeld h z TI TO T f ∧ h.get? T = some oT ∧ T ≠ z ∧ T ≠ i1 ∧ T ≠ i2 ∧ T ≠ S)
theorem ZSt.keep {z TI TO i1 i2 a b S : Addr} {i : Nat} {h h' : Heap} (st : ZSt z TI TO i1 i2 a b S i h) (hS : S ∉ [z, TI, TO, i1, i2]) (k : ∀ c o, c ≠ S → h.get? c = some o → h'.get? c = some o) : ZSt z TI TO i1 i2 a b S i h' := by
  obtain ⟨hTI, h1, h2, ⟨oo, hoo⟩, hz⟩ := st
  simp only [List.mem_cons, List.not_mem_nil, or_false, not_or] at hS
  obtain ⟨n1, n2, n3, n4, n5⟩ := hS
  refine ⟨k _ _ (Ne.symm n2) hTI, h1.at fun o e => k _ o (Ne.symm n4) e, h2.at fun o e => k _ o (Ne.symm n5) e, ⟨oo, k _ _ (Ne.symm n3) hoo⟩, ?_⟩
  rcases hz with ⟨hz, x, y, hTO⟩ | ⟨T, f, oT, hz, hT, r1, r2, r3, r4⟩
  · exact .inl ⟨k _ _ (Ne.symm n1) hz, x, y, k _ _ (Ne.symm n3) hTO⟩
  · exact .inr ⟨T, f, oT, k _ _ (Ne.symm n1) hz, k _ _ r4 hT, r1, r2, r3, r4⟩
/-! ### a walk over a dict that has just been made -/
def iKeysL (td : TE) : TI := fun σ H R => td σ H fun x H1 => ∃ d kvs, x = .ref d ∧ H1 d = some (.dK kvs) ∧ ∀ od, R (Itk d od kvs) (upd H1 d (.frz od (.dK kvs)))
theorem pi_keysL {X : Cx} {tg e : Expr} {td : TE} (he : PE X e td) : PI X tg e (iKeysL td) := by
  refine ⟨fun pins s σ H R I h => ?_⟩
  refine thn (he.run pins s σ H _ I h) fun u s1 ⟨x, H1, I1, rx, d, kvs, ex, hd, q⟩ => ?_
  subst ex
  obtain rfl : u = Value.ref d := rx
  obtain ⟨od, I2⟩ := I1.lock hd True.intro
  obtain ⟨hs, hgd, hx, es, ep, vs, hdt, hsz, kv, hm⟩ := I2.frzK upd_same
  refine iter_keys hs hgd hx hdt (pi_one (tk := s1.toks) I2 _ (turn_keys _ hdt) ⟨_, Heap.get?_push_size _ rfl, rfl, ?_⟩ (q od))
  rw [hsz] <;> rfl
end LT
set_option Elab.async false
set_option linter.all false
set_option maxRecDepth 100000
set_option maxHeartbeats 1600000
/-! Own layer: stretches, runs, supplies on the heap; promises. -/
namespace LT
open PySem PySem.Spec PyProof.Rows L2 NdefX
/-- a comprehension over zip of two lists -/
theorem lc_zip {K : PySem.W.Frag} {a b : Addr} {xs ys : List V} {g : TG} {tt : TT} {te : TE} {vs : List Nat} {σ : L2.St} {H1 : Hp} {D : Addr} {Qd : Hp → Prop} (hlen : xs.length = ys.length) (Pv : Nat → Hp → Prop) (h0 : Pv 0 (L2.upd H1 D (.lst []))) (hl : ∀ i H, i ≤ xs.length → Pv i H → SqL K H a xs ∧ SqL K H b ys)
    (hs : ∀ i x y H T, xs[i]? = some x → ys[i]? = some y → Pv i H → H T = none → g (.ref T) (wipe σ vs) (L2.upd H T (.tup [x, y])) fun σ2 H2 => wipe σ2 vs = wipe σ vs ∧ tt σ2 H2 fun b H3 =>
      if b = true then te σ2 H3 fun y H4 => ∃ acc, H4 D = some (.lst acc) ∧ acc.length < sizeLine ∧ Pv (i + 1) (L2.upd H4 D (.lst (acc ++ [y]))) else Pv (i + 1) H3) (hd : ∀ H, Pv xs.length H → Qd H) :
    ∃ W : Nat → Nat → Hp → Prop, (∃ m, W 0 m (L2.upd H1 D (.lst []))) ∧ ∀ i m H, W i m H →
      ((Itz K a b).stop i H ∧ Qd H) ∨ ((Itz K a b).go i H ∧ ∃ Nx : Hp → Prop, (∀ H', Nx H' → ∃ m', m' < m ∧ W (i + 1) m' H') ∧ ∀ x H', (Itz K a b).yld i H x H' → g x (wipe σ vs) H' fun σ2 H2 => wipe σ2 vs = wipe σ vs ∧ tt σ2 H2 fun b H3 =>
        if b = true then te σ2 H3 fun y H4 => ∃ acc, H4 D = some (.lst acc) ∧ acc.length < sizeLine ∧ Nx (L2.upd H4 D (.lst (acc ++ [y]))) else Nx H3) := by
  refine ⟨fun i m H => m = xs.length - i ∧ i ≤ xs.length ∧ Pv i H, ⟨xs.length, by simp, Nat.zero_le _, h0⟩, ?_⟩
  rintro i m H ⟨rfl, hi, p⟩
  obtain ⟨qx, qy⟩ := hl i H hi p
  by_cases hlt : i < xs.length
  · have hx : xs[i]? = some xs[i] := List.getElem?_eq_getElem hlt
    have hlt2 : i < ys.length := by omega
    have hy : ys[i]? = some ys[i] := List.getElem?_eq_getElem hlt2
    refine .inr ⟨⟨xs, ys, _, _, qx, qy, hx, hy⟩, Pv (i + 1), fun H' p' => ⟨xs.length - (i + 1), by omega, rfl, hlt, p'⟩, fun v H' y => ?_⟩
    obtain ⟨T, x', y', rfl, hT, rfl, f1, f2⟩ := y
    exact hs i x' y' H T (f1 xs qx) (f2 ys qy) p hT
  · have e : i = xs.length := by omega
    subst e
    exact .inl ⟨⟨xs, ys, qx, qy, Or.inl (Nat.le_refl _)⟩, hd H p⟩
/-! ### stretches -/
def StrAt (CS : Addr) (H : Hp) (x : Addr) (f : Int) (la : Option Int) : Prop := ∃ dx, H x = some (.ins CS dx [("first_day", .int f), ("last_day", knV la)])
theorem StrAt.mono {CS : Addr} {H H' : Hp} {x : Addr} {f : Int} {la : Option Int} (h : StrAt CS H x f la) (s : Same H H') : StrAt CS H' x f la := h.imp fun _ e => s _ _ e
theorem StrAt.monoB {CS : Addr} {H H' : Hp} {x d : Addr} {f : Int} {la : Option Int} {kvs : List (Key × V)} (h : StrAt CS H x f la) (hd : H d = some (.dK kvs)) (s : SameB d H H') : StrAt CS H' x f la := by
  obtain ⟨dx, e⟩ := h
  exact ⟨dx, s _ _ (ne_of e hd (by intro z; cases z)) e⟩
theorem StrAt.upd {CS : Addr} {H : Hp} {x F : Addr} {f : Int} {la : Option Int} {xs : List V} {o : HO} (h : StrAt CS H x f la) (e : H F = some (.lst xs)) : StrAt CS (L2.upd H F o) x f la := by
  obtain ⟨dx, h⟩ := h
  exact ⟨dx, by rw [upd_ne (ne_of h e (by intro z; cases z))]; exact h⟩
def spSInit (CS : Addr) : Sp := fun vs H Q _ => ∃ (x dx : Addr) (f : Int) (la : Option Int), vs = [.ref x, .int f, knV la] ∧ H x = some (.ins CS dx []) ∧ 0 ≤ f ∧ (∀ e, la = some e → f ≤ e) ∧
  ∀ H', StrAt CS H' x f la → SameB x H H' → Q .non H'
def spSFirst (CS : Addr) : Sp := fun vs H Q _ => ∃ (x : Addr) (f : Int) (la : Option Int), vs = [.ref x] ∧ StrAt CS H x f la ∧ Q (.int f) H
def spSLast (CS : Addr) : Sp := fun vs H Q _ => ∃ (x : Addr) (f : Int) (la : Option Int), vs = [.ref x] ∧ StrAt CS H x f la ∧ Q (knV la) H
def spSHas (CS : Addr) : Sp := fun vs H Q _ => ∃ (x : Addr) (f : Int) (la : Option Int) (d : Int), vs = [.ref x, .int d] ∧ StrAt CS H x f la ∧ 0 ≤ d ∧ Q (.bl (hasB f la d)) H
/-! ### runs -/
def RunT (CS : Addr) (H : Hp) (t : Addr) (r : Run) : Prop := ∃ x, H t = some (.tup [r.1, .ref x]) ∧ StrAt CS H x r.2.1 r.2.2
theorem RunT.mono {CS : Addr} {H H' : Hp} {t : Addr} {r : Run} (h : RunT CS H t r) (s : Same H H') : RunT CS H' t r := by
  obtain ⟨x, a, b⟩ := h
  exact ⟨x, s _ _ a, b.mono s⟩
theorem RunT.upd {CS : Addr} {H : Hp} {t F : Addr} {r : Run} {xs : List V} {o : HO} (h : RunT CS H t r) (e : H F = some (.lst xs)) : RunT CS (L2.upd H F o) t r := by
  obtain ⟨x, a, b⟩ := h
  exact ⟨x, by rw [upd_ne (ne_of a e (by intro z; cases z))]; exact a, b.upd e⟩
def RunsAt (CS : Addr) (H : Hp) (l : Addr) (rs : List Run) : Prop := ∃ ts : List Addr, H l = some (.lst (ts.map V.ref)) ∧ Paired (RunT CS H) ts rs
theorem RunsAt.mono {CS : Addr} {H H' : Hp} {l : Addr} {rs : List Run} (h : RunsAt CS H l rs) (s : Same H H') : RunsAt CS H' l rs := by
  obtain ⟨ts, a, b⟩ := h
  exact ⟨ts, s _ _ a, paired_imp (fun _ _ h => h.mono s) b⟩
theorem pick_at {β : Type} {R : Addr → β → Prop} {ts : List Addr} {rs : List β} {i : Nat} {v : V} (h : Paired R ts rs) (e : (ts.map V.ref)[i]? = some v) : ∃ t r, v = .ref t ∧ rs[i]? = some r ∧ R t r := by
  rw [List.getElem?_map, Option.map_eq_some_iff] at e
  obtain ⟨t, e, rfl⟩ := e
  obtain ⟨p, h1, h2⟩ := paired_get h e
  exact ⟨t, p, rfl, h1, h2⟩
theorem rows_last {H : Hp} {bs : List Addr} {B : List (Int × V)} (h : RowsP H bs B) (ne : B ≠ []) : ∃ t p, atI (bs.map V.ref) (-1) = some (.ref t) ∧ H t = some (.tup [.int p.1, p.2]) ∧ p ∈ B ∧ lastW B = p.2 := by
  have hl : 0 < B.length := List.length_pos_iff.mpr ne
  have e := List.dropLast_concat_getLast ne
  have e1 : B[B.length - 1]? = some (B.getLast ne) := by rw [← List.getLast?_eq_getElem?, List.getLast?_eq_some_getLast ne]
  have len := Paired.length h
  have bne : bs ≠ [] := List.length_pos_iff.mp (by omega)
  have eb := List.dropLast_concat_getLast bne
  have e2 : bs[B.length - 1]? = some (bs.getLast bne) := by rw [← len, ← List.getLast?_eq_getElem?, List.getLast?_eq_some_getLast bne]
  obtain ⟨p, h1, h2⟩ := paired_get h e2
  rw [e1] at h1
  cases h1
  refine ⟨bs.getLast bne, B.getLast ne, ?_, h2, List.getLast_mem ne, ?_⟩
  · have h3 := atI_last (bs.dropLast.map V.ref) (.ref (bs.getLast bne))
    have h4 : bs.dropLast.map V.ref ++ [V.ref (bs.getLast bne)] = bs.map V.ref := by
      rw [← congrArg (List.map V.ref) eb, List.map_append]
      rfl
    rw [h4] at h3
    exact h3
  · unfold lastW
    rw [List.getLast?_eq_some_getLast ne]
    rfl
def ScalL (s : V) (ch : List (Int × V)) : Prop := ∀ a ∈ s :: ch.map (·.2), ∀ b ∈ s :: ch.map (·.2), scal a b = true
theorem scal_int {s : V} {ch : List (Int × V)} (hs : ∃ m : Int, s = .int m) (h : ∀ p ∈ ch, ∃ m : Int, p.2 = .int m) : ScalL s ch := by
  have key : ∀ a ∈ s :: ch.map (·.2), ∃ m : Int, a = .int m := fun a ha => by
    rcases List.mem_cons.mp ha with rfl | ha
    · exact hs
    · obtain ⟨p, hp, rfl⟩ := List.mem_map.mp ha
      exact h p hp
  intro a ha b hb
  obtain ⟨m, rfl⟩ := key a ha
  obtain ⟨n, rfl⟩ := key b hb
  rfl
theorem scal_str {s : V} {ch : List (Int × V)} (hs : ∃ m : Str, s = .str m) (h : ∀ p ∈ ch, ∃ m : Str, p.2 = .str m) : ScalL s ch := by
  have key : ∀ a ∈ s :: ch.map (·.2), ∃ m : Str, a = .str m := fun a ha => by
    rcases List.mem_cons.mp ha with rfl | ha
    · exact hs
    · obtain ⟨p, hp, rfl⟩ := List.mem_map.mp ha
      exact h p hp
  intro a ha b hb
  obtain ⟨m, rfl⟩ := key a ha
  obtain ⟨n, rfl⟩ := key b hb
  rfl
def spTurns (CB CH CS : Addr) : Sp := fun vs H Q _ => ∃ (b : Addr) (rk : List (Str × Int)) (es : List Evt) (fp : List Addr) (z : Str) (kn : Option Int), vs = [.ref b, .str z, knV kn] ∧ Bk CB CH H b rk es fp ∧ z ∈ rk.map (·.1) ∧ es.length ≤ 60 ∧ knOK kn ∧
  ∀ (l : Addr) (L : List (Int × V)) (H' : Hp), H l = none → HoldF (heldE es true z kn) L → L.length ≤ es.length → RunsAt CS H' l (runF (begF (.str (Str.ofString "")) L)) → Same H H' → Q (.ref l) H'
/-! ### heads -/
def stepK (t : List (Int × Int)) : List (Key × V) := enA Sum.inl V.int t
theorem step_val (t : List (Int × Int)) (k : Int) : (valV (stepK t) (Sum.inl k)).getD (.int 0) = .int (getI t k) := by
  have := val_en (f := V.int) inl_inj k t
  rw [show valV (stepK t) (Sum.inl k) = (getA t k).map V.int from this]
  unfold getI
  cases getA t k <;> rfl
theorem step_put (t : List (Int × Int)) (k v : Int) : putK (stepK t) (Sum.inl k) (.int v) = stepK (putA t k v) := put_en (f := V.int) inl_inj t k v
theorem step_len (t : List (Int × Int)) : (stepK t).length = t.length := enA_len ..
theorem step_keys (t : List (Int × Int)) : (stepK t).map (·.1) = (t.map (·.1)).map Sum.inl := by
  unfold stepK enA
  rw [List.map_map, List.map_map]
  rfl
def spPutSteps (CS : Addr) : Sp := fun vs H Q _ => ∃ (d x : Addr) (t : List (Int × Int)) (f : Int) (la : Option Int), vs = [.ref d, .ref x] ∧ H d = some (.dK (stepK t)) ∧ StrAt CS H x f la ∧ t.length ≤ 500 ∧
  ∀ H', H' d = some (.dK (stepK (putStep t f la))) → SameB d H H' → Q .non H'
def spHeads (CB CH CS : Addr) : Sp := fun vs H Q _ => ∃ (b : Addr) (rk : List (Str × Int)) (es : List Evt) (fp : List Addr) (z : Str) (kn : Option Int), vs = [.ref b, .str z, knV kn] ∧ Bk CB CH H b rk es fp ∧ Nm z ∧ es.length ≤ 60 ∧ knOK kn ∧
  ∀ (l : Addr) (rs : List Run) (H' : Hp), H l = none → RunsAt CS H' l rs → HeadsOf es (rk.map (·.1)) z kn rs → rs.length ≤ 62 → (∀ r ∈ rs, ∃ m : Int, r.1 = .int m) → Same H H' → Q (.ref l) H'
/-! ### supplies -/
def PartsAt (CS : Addr) (H : Hp) (l : Addr) (ps : List Part) : Prop := ∃ xs : List Addr, H l = some (.lst (xs.map V.ref)) ∧ Paired (fun x (p : Part) => StrAt CS H x p.1 p.2) xs ps
theorem PartsAt.mono {CS : Addr} {H H' : Hp} {l : Addr} {ps : List Part} (h : PartsAt CS H l ps) (s : Same H H') : PartsAt CS H' l ps := by
  obtain ⟨ts, a, b⟩ := h
  exact ⟨ts, s _ _ a, paired_imp (fun _ _ h => h.mono s) b⟩
def spCutAt (CS : Addr) : Sp := fun vs H Q _ => ∃ (x l : Addr) (f : Int) (la : Option Int) (ds : List Int), vs = [.ref x, .ref l] ∧ StrAt CS H x f la ∧ H l = some (.lst (ds.map V.int)) ∧ 0 ≤ f ∧ (∀ e, la = some e → f ≤ e) ∧ ds.Pairwise (· < ·) ∧ (∀ d ∈ ds, 0 ≤ d) ∧ ds.length ≤ 60 ∧
  ∀ (l' : Addr) (H' : Hp), H l' = none → PartsAt CS H' l' (partF la (cutF f la ds)) → Same H H' → Q (.ref l') H'
def SupT (CS : Addr) (H : Hp) (t : Addr) (b : Sup) : Prop := ∃ x, H t = some (.tup [.ref x, .int b.stock, .int b.eaten]) ∧ StrAt CS H x b.fi b.la
theorem SupT.mono {CS : Addr} {H H' : Hp} {t : Addr} {b : Sup} (h : SupT CS H t b) (s : Same H H') : SupT CS H' t b := by
  obtain ⟨x, a, b⟩ := h
  exact ⟨x, s _ _ a, b.mono s⟩
theorem SupT.upd {CS : Addr} {H : Hp} {t F : Addr} {b : Sup} {xs : List V} {o : HO} (h : SupT CS H t b) (e : H F = some (.lst xs)) : SupT CS (L2.upd H F o) t b := by
  obtain ⟨x, a, b⟩ := h
  exact ⟨x, by rw [upd_ne (ne_of a e (by intro z; cases z))]; exact a, b.upd e⟩
def SupsAt (CS : Addr) (H : Hp) (l : Addr) (ss : List Sup) : Prop := ∃ ts : List Addr, H l = some (.lst (ts.map V.ref)) ∧ Paired (SupT CS H) ts ss
theorem SupsAt.mono {CS : Addr} {H H' : Hp} {l : Addr} {ss : List Sup} (h : SupsAt CS H l ss) (s : Same H H') : SupsAt CS H' l ss := by
  obtain ⟨ts, a, b⟩ := h
  exact ⟨ts, s _ _ a, paired_imp (fun _ _ h => h.mono s) b⟩
/-- factors of which none is too wide -/
theorem wide_mul {i j : Int} (h1 : -(2 ^ 700) < i ∧ i < 2 ^ 700) (h2 : -(2 ^ 700) < j ∧ j < 2 ^ 700) : CMulW i j := by
  have key : ∀ {i : Int}, -(2 ^ 700) < i ∧ i < 2 ^ 700 → i.natAbs.log2 < 700 := fun {i} h => by
    by_cases e : i.natAbs = 0
    · rw [e]
      decide
    · rw [Nat.log2_lt e]
      omega
  have := key h1
  have := key h2
  unfold CMulW
  omega
def spLeftOn (CS : Addr) : Sp := fun vs H Q _ => ∃ (t : Addr) (b : Sup) (d : Int), vs = [.ref t, .int d] ∧ SupT CS H t b ∧ (0 ≤ b.eaten ∧ b.eaten < 10 ^ 58) ∧ (0 ≤ b.fi ∧ b.fi < 10 ^ 55) ∧ (0 ≤ d ∧ d < 10 ^ 150) ∧ Q (.int (b.stock - b.eaten * (d - b.fi + 1))) H
def shopOf (es : List Evt) (rk : List (Str × Int)) (z : Str) (kn : Option Int) (R : Int) : Shop := ⟨es, rk.map (·.1), z, kn, R⟩
def spSups (CB CH CS : Addr) : Sp := fun vs H Q _ => ∃ (b : Addr) (rk : List (Str × Int)) (es : List Evt) (fp : List Addr) (z : Str) (R : Int) (kn : Option Int), vs = [.ref b, .str z, .int R, knV kn] ∧ Bk CB CH H b rk es fp ∧ Nm z ∧ es.length ≤ 60 ∧ knOK kn ∧ 0 ≤ R ∧ R < 10 ^ 56 ∧
  ∀ (l : Addr) (ss : List Sup) (H' : Hp), H l = none → SupsAt CS H' l ss → SupOf (shopOf es rk z kn R) ss → ss.length ≤ 4000 → Same H H' → Q (.ref l) H'
def spLeftOver (CB CH CS : Addr) : Sp := fun vs H Q _ => ∃ (b : Addr) (rk : List (Str × Int)) (es : List Evt) (fp : List Addr) (z : Str) (R d : Int) (kn : Option Int), vs = [.ref b, .str z, .int R, .int d, knV kn] ∧ Bk CB CH H b rk es fp ∧ Nm z ∧ es.length ≤ 60 ∧ knOK kn ∧ 1 ≤ R ∧ R < 10 ^ 56 ∧ 0 ≤ d ∧ d < 10 ^ 150 ∧
  ∀ H', Same H H' → Q (.int ((shopOf es rk z kn R).left d)) H'
def UnfedV (s : Shop) (H H' : Hp) (v : V) : Prop := (v = .non ∧ ∀ d, 0 ≤ d → 0 ≤ s.left d) ∨ ∃ (t : Addr) (d n : Int), v = .ref t ∧ H t = none ∧ H' t = some (.tup [.int d, .int n]) ∧ 0 ≤ d ∧ d < 10 ^ 120 ∧ s.left d = -n ∧ 0 < n ∧ Fed s d
def spUnfed (CB CH CS : Addr) : Sp := fun vs H Q _ => ∃ (b : Addr) (rk : List (Str × Int)) (es : List Evt) (fp : List Addr) (z : Str) (R : Int) (kn : Option Int), vs = [.ref b, .str z, .int R, knV kn] ∧ Bk CB CH H b rk es fp ∧ Nm z ∧ es.length ≤ 60 ∧ knOK kn ∧ 1 ≤ R ∧ R < 10 ^ 56 ∧
  ∀ (v : V) (H' : Hp), UnfedV (shopOf es rk z kn R) H H' v → Same H H' → Q v H'
def spWanted (CB CH CS : Addr) : Sp := fun vs H Q _ => ∃ (b : Addr) (rk : List (Str × Int)) (es : List Evt) (fp : List Addr) (z : Str) (R till : Int) (kn : Option Int), vs = [.ref b, .str z, .int R, .int till, knV kn] ∧ Bk CB CH H b rk es fp ∧ Nm z ∧ es.length ≤ 60 ∧ knOK kn ∧ 1 ≤ R ∧ R < 10 ^ 56 ∧ 0 ≤ till ∧ till < 10 ^ 150 ∧
  ∀ (t : Addr) (least : Int) (day : Option Int) (H' : Hp), H t = none → H' t = some (.tup [.int (-least), knV day]) → Want (shopOf es rk z kn R) till (fun _ => True) least day → Same H H' → Q (.ref t) H'
def minE : Option Int → Option Int → Option Int
  | none, y => y
  | x, none => x
  | some x, some y => some (if y < x then y else x)
def spEarlier : Sp := fun vs H Q _ => ∃ (x y : Option Int), vs = [knV x, knV y] ∧ Q (knV (minE x y)) H
/-- the last days, as a list is made of them -/
def lastsV (B : List (Int × V)) (x : V) : List V := (B.drop 1).map (fun p => V.int (p.1 - 1)) ++ [x]
theorem lasts_len {B : List (Int × V)} {x : V} (h : B ≠ []) : (lastsV B x).length = B.length := by
  have := List.length_pos_iff.mpr h
  unfold lastsV
  rw [List.length_append, List.length_map, List.length_drop, List.length_singleton]
  omega
theorem lasts_get {B : List (Int × V)} {i : Nat} (h : i < B.length) : (lastsV B .non)[i]? = some (knV ((B[i + 1]?).map fun q => q.1 - 1)) := by
  unfold lastsV
  by_cases hi : i + 1 < B.length
  · rw [List.getElem?_append_left (by rw [List.length_map, List.length_drop]; omega), List.getElem?_map, List.getElem?_drop, Nat.add_comm 1 i, List.getElem?_eq_getElem hi]
    rfl
  · rw [List.getElem?_append_right (by rw [List.length_map, List.length_drop]; omega), List.length_map, List.length_drop, List.getElem?_eq_none (l := B) (by omega), show i - (B.length - 1) = 0 by omega]
    rfl
theorem hold_str {rk : List (Str × Int)} {es : List Evt} {z : Str} {kn : Option Int} {L : List (Int × V)} (ok : ∀ e ∈ es, EvOK rk e) (h : HoldF (heldE es true z kn) L) : ∀ p ∈ L, ∃ y : Str, p.2 = .str y ∧ Pl y := fun p hp => by
  obtain ⟨h1, h2⟩ := (h.mem p.1 p.2).mp hp
  unfold heldE at h2
  cases e : heldO es true z kn p.1 with
  | none => rw [e] at h2; exact absurd h2.symm h1
  | some w =>
    rw [e] at h2
    have h2 : w = p.2 := h2
    rcases held_move ok e with rfl | ⟨y, rfl, hy⟩
    · exact absurd h2.symm h1
    · exact ⟨y, h2.symm, hy⟩
theorem hold_d0 {rk : List (Str × Int)} {es : List Evt} {mv : Bool} {z : Str} {kn : Option Int} {L : List (Int × V)} (ok : ∀ e ∈ es, EvOK rk e) (h : HoldF (heldE es mv z kn) L) : ∀ p ∈ L, 0 ≤ p.1 ∧ p.1 < 10 ^ 55 := fun p hp => by
  obtain ⟨e, he, _, _, ed⟩ := hold_day h p.1 (List.mem_map.mpr ⟨p, hp, rfl⟩)
  have := ok e he
  have := this.d0
  have := (ok e he).d1
  omega
theorem strict_up {ys : List Int} (up : ys.Pairwise (· ≤ ·)) (nd : ys.Nodup) : ys.Pairwise (· < ·) := (List.pairwise_and_iff.mpr ⟨up, nd⟩).imp fun ⟨a, b⟩ => by omega
/-- the last days of parts -/
def lastsP (F : List Int) (x : V) : List V := (F.drop 1).map (fun d => V.int (d - 1)) ++ [x]
theorem lastsP_len {F : List Int} {x : V} (h : F ≠ []) : (lastsP F x).length = F.length := by
  have := List.length_pos_iff.mpr h
  unfold lastsP
  rw [List.length_append, List.length_map, List.length_drop, List.length_singleton]
  omega
theorem lastsP_get {F : List Int} {i : Nat} {x : Option Int} (h : i < F.length) : (lastsP F (knV x))[i]? = some (knV (if i + 1 = F.length then x else (F[i + 1]?).map fun q => q - 1)) := by
  unfold lastsP
  by_cases hi : i + 1 < F.length
  · rw [List.getElem?_append_left (by rw [List.length_map, List.length_drop]; omega), List.getElem?_map, List.getElem?_drop, Nat.add_comm 1 i, List.getElem?_eq_getElem hi, if_neg (by omega)]
    rfl
  · rw [List.getElem?_append_right (by rw [List.length_map, List.length_drop]; omega), List.length_map, List.length_drop, show i - (F.length - 1) = 0 by omega, if_pos (by omega)]
    rfl
end LT
set_option Elab.async false
set_option linter.all false
set_option maxRecDepth 100000
set_option maxHeartbeats 1600000
namespace LT
open PySem PySem.Spec PyProof.Rows L2
end LT
set_option Elab.async false
set_option linter.all false
set_option maxRecDepth 100000
set_option maxHeartbeats 1600000
/-! Own layer: the law's own counting of stores; one book beside a pot. -/
namespace LT
open PySem PySem.Spec PyProof.Rows L2 NdefX
theorem Want.weak {s : Shop} {till least : Int} {lim lim' : Int → Prop} {day : Option Int} (w : Want s till lim least day) (h : ∀ d, 0 ≤ d → lim' d → lim d) : Want s till lim' least day := ⟨fun d d0 d1 hl => w.low d d0 d1 (h d d0 hl), w.is⟩
/-- what lies ahead of the supply in hand -/
def Ahead (ss : List Sup) (i : Nat) (d : Int) : Prop := ∀ c, ss[i]? = some c → d < c.fi
theorem ahead_next {s : Shop} {ss : List Sup} (h : SupOf s ss) {i : Nat} {b : Sup} (hb : ss[i]? = some b) {d : Int} (ha : Ahead ss (i + 1) d) : d < b.fi ∨ HasD2 Sup.fi Sup.la b d := by
  by_cases hd : d < b.fi
  · exact .inl hd
  · obtain ⟨_, _, _, n⟩ := h.cov.get i b hb
    refine .inr ⟨by omega, fun e he => ?_⟩
    rcases n with ⟨_, n2, _⟩ | ⟨e', c, n1, _, n3, n4⟩
    · rw [n2] at he
      cases he
    · rw [n1] at he
      cases he
      have := ha c n3
      omega
theorem ahead_zero {s : Shop} {ss : List Sup} (h : SupOf s ss) {d : Int} (d0 : 0 ≤ d) : ¬ Ahead ss 0 d := fun ha => by
  obtain ⟨b, hb, hf⟩ := h.cov.hd
  have := ha b hb
  omega
theorem ahead_self {ss : List Sup} {i : Nat} {b : Sup} (hb : ss[i]? = some b) {d : Int} (hd : d < b.fi) : Ahead ss i d := fun c hc => by
  rw [hb] at hc
  cases hc
  exact hd
theorem ahead_end {ss : List Sup} (d : Int) : Ahead ss ss.length d := fun c hc => by
  rw [List.getElem?_eq_none (Nat.le_refl _)] at hc
  cases hc
theorem wide_div {i j : Int} (h1 : 0 < j) (h2 : j < 2 ^ 700) : CDivW i j := by
  have : j.natAbs.log2 < 700 := by
    rw [Nat.log2_lt (by omega)]
    omega
  exact ⟨h1, by omega⟩
/-! ### the model -/
def mdlK (A B C : Addr) (z : Str) : List (Key × V) := [(.inr "moves", .ref A), (.inr "landed", .ref B), (.inr "marks", .ref C), (.inr "light", .str z)]
def MovesAt (H : Hp) (s : Shop) (ds : List Addr) (zs : List Str) : Prop := Paired (fun d k => H d = some (.dK (toldK (heldD s.es true k s.kn)))) ds zs
theorem MovesAt.mono {H H' : Hp} {s : Shop} {ds : List Addr} {zs : List Str} (h : MovesAt H s ds zs) (sm : Same H H') : MovesAt H' s ds zs := paired_imp (fun _ _ h => sm _ _ h) h
theorem MovesAt.upd {H : Hp} {s : Shop} {ds : List Addr} {zs : List Str} {F : Addr} {xs : List V} {o : HO} (h : MovesAt H s ds zs) (e : H F = some (.lst xs)) : MovesAt (L2.upd H F o) s ds zs := paired_imp (fun t p h => by rw [upd_ne (ne_of h e (by intro z; cases z))]; exact h) h
def MdlAt (H : Hp) (M : Addr) (s : Shop) (ms : List Int) : Prop := ∃ (A B C : Addr) (ds : List Addr), H M = some (.dK (mdlK A B C s.z)) ∧ H A = some (.lst (ds.map V.ref)) ∧ MovesAt H s ds s.zs ∧ H B = some (.dK (toldK (heldD s.es false s.z s.kn))) ∧ H C = some (.lst (ms.map V.int))
theorem MdlAt.mono {H H' : Hp} {M : Addr} {s : Shop} {ms : List Int} (h : MdlAt H M s ms) (sm : Same H H') : MdlAt H' M s ms := by
  obtain ⟨A, B, C, ds, h1, h2, h3, h4, h5⟩ := h
  exact ⟨A, B, C, ds, sm _ _ h1, sm _ _ h2, h3.mono sm, sm _ _ h4, sm _ _ h5⟩
/-! ### pieces -/
def PcT (ms : List Int) (H : Hp) (t : Addr) (i : Nat) : Prop := ∃ a, ms[i]? = some a ∧ H t = some (.tup [.int a, knV (ms[i + 1]?)])
def PcsAt (H : Hp) (l : Addr) (ms : List Int) : Prop := ∃ ts : List Addr, H l = some (.lst (ts.map V.ref)) ∧ ts.length = ms.length ∧ ∀ i t, ts[i]? = some t → PcT ms H t i
theorem PcsAt.mono {H H' : Hp} {l : Addr} {ms : List Int} (h : PcsAt H l ms) (s : Same H H') : PcsAt H' l ms := by
  obtain ⟨ts, a, b, c⟩ := h
  exact ⟨ts, s _ _ a, b, fun i t ht => (c i t ht).imp fun _ h => ⟨h.1, s _ _ h.2⟩⟩
theorem Want.uniq {s : Shop} {till l1 l2 : Int} {d1 d2 : Option Int} (a : Want s till (fun _ => True) l1 d1) (b : Want s till (fun _ => True) l2 d2) : l1 = l2 ∧ d1 = d2 := by
  rcases a.is with ⟨a1, a2⟩ | ⟨x, a1, a2, a3, a4, a5, a6⟩
  · rcases b.is with ⟨b1, b2⟩ | ⟨y, b1, b2, b3, b4, b5, b6⟩
    · exact ⟨a1.trans b1.symm, a2.trans b2.symm⟩
    · have := a.low y b3 b4 trivial
      omega
  · rcases b.is with ⟨b1, b2⟩ | ⟨y, b1, b2, b3, b4, b5, b6⟩
    · have := b.low x a3 a4 trivial
      omega
    · have h1 := a.low y b3 b4 trivial
      have h2 := b.low x a3 a4 trivial
      have e : l1 = l2 := by omega
      have : x = y := by
        by_cases h : x < y
        · have := b6 x a3 h
          omega
        · by_cases h' : y < x
          · have := a6 y b3 h'
            omega
          · omega
      exact ⟨e, by rw [a1, b1, this]⟩
end LT
set_option Elab.async false
set_option linter.all false
set_option maxRecDepth 100000
namespace LT
open PySem PySem.Spec PyProof.Rows L2
/-! ### rows of days as data, and how they are shown -/
end LT
set_option Elab.async false
set_option linter.all false
set_option maxRecDepth 100000
set_option maxHeartbeats 1600000
namespace LT
open PySem PySem.Spec PyProof.Rows L2 LamX
/-! ### defs whose code object is known -/
structure FunC (K : PySem.W.Frag) (x qual : Str) (st : Stmt) (f c : Addr) (fd : FuncData) : Prop where
  ex : ∃ (oc : Value) (od : Option Addr) (kV doc pm : Value) (an : Option Addr) (ct : Value) (osl : Array (Option Value)),
    fd = PySem.W.fnOf x qual (defArgs st) (defBody st) (defScope st) .none kV doc pm an (.ref c) ct ∧ K.lookup f = some ⟨oc, od, .func fd, osl⟩ ∧ PySem.W.codeIn K (.ref c) qual = true
  kp : PySem.W.keepIn K (.ref f) = true
theorem FunC.fn {K : PySem.W.Frag} {x qual : Str} {st : Stmt} {f c : Addr} {fd : FuncData} (F : FunC K x qual st f c fd) : Fun K x qual st f fd := by
  obtain ⟨oc, od, kV, doc, pm, an, ct, osl, e, l, h⟩ := F.ex
  exact ⟨⟨oc, od, kV, doc, pm, an, .ref c, ct, osl, e, l, h⟩, F.kp⟩
section
variable {P : Program} {w : World} {K : PySem.W.Frag} {mg : Str → Option Value} {base : Heap}
theorem FunC.ok {x qual : Str} {st : Stmt} {f c : Addr} {fd : FuncData} {N ps : List Str} {k : Nat} {sp : Sp} (F : FunC K x qual st f c fd) (S : FnScope N ps (defScope st)) (len : ∀ vs H Q E, sp vs H Q E → vs.length = ps.length)
    (body : ∀ (A : Around) (outer : List Env) (s : Shared) (H : Hp) (vs : List V) (Q : VK) (E : XK), Room k (A.deeper (envOfC qual (defScope st) s.heap.objs.size f (.ref c))) → sp vs H Q E →
      ∃ t, PSs (cxOf CX0 P w K mg base N qual (defScope st) f (.ref c) A outer s H E).nox (defBody st) t ∧ t { nx := fun _ H' => Q .non H', rt := Q } (start N vs) H) : FnOk P w K mg base CX0 (k + 1) f fd ps sp := by
  obtain ⟨oc, od, kV, doc, pm, an, ct, osl, rfl, lk, hcd⟩ := F.ex
  refine fn_of lk hcd S len fun A outer s H vs Q E hr hsp => ?_
  obtain ⟨t, h, q⟩ := body A outer s H vs Q E hr hsp
  exact ⟨t, h.nox, q⟩
end
/-! ### the end of a law whose defs make lambdas and show things -/
end LT
set_option Elab.async false
set_option linter.all false
namespace LD
/-! ### days of both, days of none, by rows that rise -/
def Gap (r s : Row) : Prop := ∃ j, r.2 = some j ∧ j + 1 < s.1
structure Asc (L : List Row) : Prop where
  ok : ∀ r ∈ L, Ok r
  pw : L.Pairwise Gap
theorem can_iff : ∀ {L : List Row}, Can L ↔ (∀ r ∈ L, Ok r) ∧ L.Pairwise (fun r s => Gap s r)
  | [] => ⟨fun _ => ⟨nofun, .nil⟩, fun _ => trivial⟩
  | r :: t => by
    constructor
    · intro h
      exact ⟨h.ok, List.pairwise_cons.mpr ⟨fun s hs => h.under s hs, (can_iff.mp h.tail).2⟩⟩
    · rintro ⟨h1, h2⟩
      obtain ⟨g1, g2⟩ := List.pairwise_cons.mp h2
      have ht : Can t := can_iff.mpr ⟨fun s hs => h1 s (.tail _ hs), g2⟩
      cases t with
      | nil => exact h1 r (.head _)
      | cons s t => exact ⟨h1 r (.head _), g1 s (.head _), ht⟩
theorem can_of {L : List Row} (h : Asc L) : Can L.reverse := can_iff.mpr ⟨fun r hr => h.ok r (List.mem_reverse.mp hr), List.pairwise_reverse.mpr h.pw⟩
theorem ins_rev {L : List Row} {d : Int} : Ins L.reverse d ↔ Ins L d := ⟨fun ⟨r, hr, z⟩ => ⟨r, List.mem_reverse.mp hr, z⟩, fun ⟨r, hr, z⟩ => ⟨r, List.mem_reverse.mpr hr, z⟩⟩
theorem asc_uniq {L L' : List Row} (h : Asc L) (h' : Asc L') (e : ∀ d, Ins L d ↔ Ins L' d) : L = L' := by
  have := uniq (can_of h) (can_of h') fun d => by rw [ins_rev, ins_rev, e]
  rw [← List.reverse_reverse L, this, List.reverse_reverse]
theorem Asc.tail {r : Row} {t : List Row} (h : Asc (r :: t)) : Asc t := ⟨fun s hs => h.ok s (.tail _ hs), (List.pairwise_cons.mp h.pw).2⟩
/-! ### a walk over marks, whatever is wanted -/
end LD
set_option Elab.async false
set_option linter.all false
set_option maxRecDepth 100000
set_option maxHeartbeats 1600000
namespace LT
open PySem PySem.Spec PyProof.Rows L2
/-! ### two lists of own things, equal one by one: != is False -/
/-! ### repr of a list of own things -/
end LT
set_option Elab.async false
set_option linter.all false
set_option maxRecDepth 100000
set_option maxHeartbeats 1600000
set_option pp.maxSteps 700
/-! Own layer: repr and == of lists and tuples, one within the other, that hold own things. -/
namespace LT
open PySem PySem.Spec PyProof.Rows L2
/-! ### repr -/
def RepI (X : Cx) (H : Hp) (n : Nat) (as : List Addr) (v : V) (t : Str) : Prop :=
  ∀ (σ : L2.St) (u : Value), RelV v u → ∀ (b : Nat), b + t.length ≤ sizeLine → ∀ (A : Around) (g : List Code) (pins : List (Addr × Obj)) (s : Shared), A.guards = some g → (∀ x ∈ as, Clear g x) → L2.Sub X n A → Inv X pins σ H s →
    wpAny (model X.prog X.w) A (pyReprUnder b u) (fun t' s2 => t' = t ∧ Inv X pins σ H s2) X.xe s
section
variable {X : Cx} {C f : Addr} {fd : FuncData} {ps : List Str} {sp : List Code → Sp} {k n : Nat} {H : Hp} {as : List Addr} {t : Str}
theorem RepI.of_is {v : V} (h : ∀ u, RelV v u → ReprIs X.prog X.w u t) : RepI X H n as v t := fun σ u r b hb A g pins s hg hc sb I => (h u r) b hb A X.xe s _ fun tk => ⟨rfl, I.tok tk⟩
theorem sub_le {m : Nat} {A : Around} (sb : L2.Sub X n A) (h : m ≤ n) : L2.Sub X m A := ⟨sb.room.mono h, sb.fr⟩
theorem RepI.own {a dx : Addr} {fs : List (Str × V)} (hs : PySem.W.findIn X.K (.ref C) "__repr__" = some (some (.ref f))) (hf : PySem.W.isFn X.K (.ref f) = true) (F : FnGc X.prog X.w X.K X.mg X.base CX0 k f fd ps sp) (hb : L2.Binds X.K fd ps [])
    (ha : H a = some (.ins C dx fs)) (hsp : ∀ g, sp g [.ref a] H (fun z H' => ∃ u, z = .str u ∧ (z = .str t ∧ H' = H)) E0) (hk : k ≤ n) : RepI X H n as (.ref a) t := by
  intro σ u r b hbz A g pins s hg hc sb I
  cases r
  obtain ⟨mA, JI, _⟩ := ins_get I.hok ha
  obtain ⟨od, JI, _⟩ := JI.look
  refine under_ownC (by omega) sb.room.units0 I.kIn JI hs hf (wpAny_mono (run_strGc (Q := fun z H' => z = .str t ∧ H' = H) F hg (sub_le sb hk) hb I (hsp g)) (fun z s2 hz => ?_) fun e s2 he => he)
  cases z <;> first | exact hz.elim | skip
  obtain ⟨zv, H', I2, rz, rfl, rfl⟩ := hz
  obtain ⟨tk2, ez⟩ := rz
  cases ez
  exact ⟨t, _, rfl, rfl, I2⟩
variable {pins : List (Addr × Obj)} {σ : L2.St}
theorem show_loopI {A : Around} {g : List Code} (hG : A.guards = some g) (hcl : ∀ x ∈ as, Clear g x) (sb : L2.Sub X (n + 1) A) {R : Result → Shared → Prop}
    (hE : ∀ e s', X.xe e s' → R (.error e) s') {l P : Addr} {xs : List V} {ts : List Str} {b : Nat} (hna : l ∉ as) (hl : H l = some (.lst xs)) (hlen : ts.length = xs.length)
    (each : ∀ (i : Nat) (v : V) (t : Str), xs[i]? = some v → ts[i]? = some t → RepI X H n as v t)
    (hsz : b + (listText ts).length ≤ sizeLine) (fp : FpOk X pins H P) (fin : ∀ s' u, Inv X pins σ H s' → R (.ok (.ret (.str (listText ts) u))) s') :
    ∀ (k i : Nat) (s : Shared) (acc : Array Value) (c : Nat) (done : List (Str × Tok)), xs.length - i = k → i ≤ xs.length → Inv X pins σ H s →
      s.heap.get? P = some (seqObj "list" acc c) → acc.toList = strValues done → done.map (·.1) = ts.take i →
      codeAny (model X.prog X.w) A (.builtin "list.__repr__.loop" ⟨[.ref l, rawInt i, .ref P, rawInt ((b + piled (ts.take i) : Nat) : Int)], []⟩) R s := by
  have hX : (listText ts).length = (textFrom 0 "[" ts).length + 1 := by
    show (textFrom 0 "[" ts ++ "]").length = _
    rw [strLen_append]
    rfl
  have hL := textFrom_len ts 0 "["
  have hp3 := piled_le_listText ts
  intro k
  induction k with
  | zero =>
    intro i s acc c done hk hi I hP hacc hdone
    obtain ⟨its, rv, pl, hz⟩ := I.list (SqL.of hl)
    obtain ⟨o, m, e1, e2, _, e4⟩ := pl
    have il := rv.length
    refine codeAny_builtin PySem.F.entry_list_repr_loop ?_
    show wpAny _ _ (Builtin.«list.__repr__.loop» ⟨[.ref l, .int i 0, .ref P, .int ((b + piled (ts.take i) : Nat) : Int) 0], []⟩) _ _ s
    rw [repr_loop_tree]
    refine wpAny_bind (wpAny_listItems e1 e4 ?_)
    have hnone : its.toArray[(i : Int).toNat]? = none := by
      simp
      omega
    simp only [hnone]
    unfold reprEnd
    refine wpAny_bind (wpAny_listItems hP rfl ?_)
    rw [hacc, repr_fold]
    refine wpAny_bind (wpAny_pure ?_)
    have hall : done.map (·.1) = ts := by rw [hdone, List.take_of_length_le (by omega)]
    rw [hall]
    refine wpAny_bind (wpAny_mkStr (wpAny_pure ?_) (by show (listText ts).length ≤ _; omega))
    exact fin _ _ (I.tok _)
  | succ k ih =>
    intro i s acc c done hk hi I hP hacc hdone
    obtain ⟨its, rv, pl, hz⟩ := I.list (SqL.of hl)
    obtain ⟨o, m, e1, e2, _, e4⟩ := pl
    have il := rv.length
    have hlt : i < xs.length := by omega
    obtain ⟨v, ev⟩ : ∃ v, xs[i]? = some v := ⟨_, List.getElem?_eq_getElem hlt⟩
    obtain ⟨u, eu⟩ : ∃ u, its[i]? = some u := ⟨_, List.getElem?_eq_getElem (by omega)⟩
    obtain ⟨t, ht⟩ : ∃ t, ts[i]? = some t := ⟨_, List.getElem?_eq_getElem (by omega)⟩
    have hrep := each i v t ev ht
    have ru := vals_ix rv i ev eu
    have hp1 := piled_take_succ ht
    have hp2 := piled_take_le ts (i + 1)
    have htl := hL.2.1 t (List.mem_of_getElem? ht)
    refine codeAny_builtin PySem.F.entry_list_repr_loop ?_
    show wpAny _ _ (Builtin.«list.__repr__.loop» ⟨[.ref l, .int i 0, .ref P, .int ((b + piled (ts.take i) : Nat) : Int) 0], []⟩) _ _ s
    rw [repr_loop_tree]
    refine wpAny_bind (wpAny_listItems e1 e4 ?_)
    have hsome : its.toArray[(i : Int).toNat]? = some u := by simpa using eu
    simp only [hsome]
    rw [Int.toNat_natCast]
    have J : Inv X ((P, seqObj "list" acc c) :: pins) σ H s := I.pins_of fun p hp => by
      rcases List.mem_cons.mp hp with rfl | hp
      · exact ⟨hP, fp.1, fp.2.1, fp.2.2.1, fun v z => nomatch z⟩
      · exact I.pin p (List.mem_append_right _ hp)
    have sb2 := sub_guardC sb ⟨[.ref l, .int i 0, .ref P, .int ((b + piled (ts.take i) : Nat) : Int) 0], []⟩
    have hg2 : (A.under (.builtin "list.__repr__.loop" ⟨[.ref l, .int i 0, .ref P, .int ((b + piled (ts.take i) : Nat) : Int) 0], []⟩)).guards = some (.builtin "list.__repr__.loop" ⟨[.ref l, .int i 0, .ref P, .int ((b + piled (ts.take i) : Nat) : Int) 0], []⟩ :: g) := guards_under_guard (isGuard_list_loop _) hG
    refine wpAny_bind (wpAny_holding (wpAny_mono (hrep σ u ru (b + piled (ts.take i) + 1) (by omega) _ _ _ s hg2 (fun b' hb' => (hcl b' hb').cons (a := l) fun e => hna (e ▸ hb')) sb2 J) (fun t' s2 hz => ?_) fun e s2 he => hE e s2 he))
    have et := hz.1.symm
    have I2 := hz.2
    subst et
    have hP2 := (I2.pin (P, seqObj "list" acc c) (List.mem_append_right _ (.head _))).1
    have I3 : Inv X pins σ H s2 := I2.pins_of fun p hp => I2.pin p (List.mem_append_right _ (.tail _ hp))
    refine wpAny_bind (wpAny_mkStr ?_ (by omega))
    refine wpAny_bind ?_
    show wpAny _ _ (updateSeq P _) _ _ _
    have hasz : acc.size ≤ sizeLine := by
      have z1 : acc.toList.length = acc.size := by simp
      have z2 : (strValues done).length = done.length := by simp [strValues]
      have z3 : done.length = (ts.take i).length := by rw [← hdone, List.length_map]
      have z4 : (ts.take i).length ≤ i := by rw [List.length_take]; omega
      rw [hacc] at z1
      omega
    refine wpAny_updateSeq hP2 rfl (wpAny_pure ⟨PySem.F.quiet_list_repr_loop _, ?_⟩) hasz
    have e5 : ((i : Int) + 1) = ((i + 1 : Nat) : Int) := by omega
    have e6 : b + piled (ts.take i) + (t.length + 2) = b + piled (ts.take (i + 1)) := by omega
    rw [e5, e6]
    have sbt := Heap.SameBut.update s2.heap P (Obj.mapSeq (·.push (.str t s2.toks)))
    have I4 : Inv X pins σ H { s2 with heap := s2.heap.update P (Obj.mapSeq (·.push (.str t s2.toks))), toks := s2.toks + 1 } :=
      I3.turnedL (ch := [P]) (fun b o hb q => (sbt.2 b fun z => hb (by rw [z]; exact List.mem_singleton.mpr rfl)).trans q) (fun b hb => by rw [List.mem_singleton.mp hb]; exact fp)
    obtain ⟨c2, hc2⟩ : ∃ c2, (s2.heap.update P (Obj.mapSeq (·.push (.str t s2.toks)))).get? P = some (seqObj "list" (acc.push (.str t s2.toks)) c2) := ⟨_, get?_update_seq hP2 (·.push (.str t s2.toks))⟩
    exact ih (i + 1) _ (acc.push (.str t s2.toks)) c2 (done ++ [(t, s2.toks)]) (by omega) hlt I4 hc2 (by simp [hacc, strValues]) (by simp [List.take_add_one, ht, hdone])
/-- the list's own part, from its head on -/
theorem list_headI {A : Around} {g : List Code} (hG : A.guards = some g) {l : Addr} (hcl : ∀ x ∈ l :: as, Clear g x) (sb : L2.Sub X (n + 1) A) {R : Result → Shared → Prop} (hE : ∀ e s', X.xe e s' → R (.error e) s')
    {xs : List V} {ts : List Str} {b : Nat} {s : Shared} {o : Obj} {y : Value} {its : List Value} {m : Nat} (hna : l ∉ as) (hl : H l = some (.lst xs)) (hlen : ts.length = xs.length)
    (each : ∀ (i : Nat) (v : V) (t : Str), xs[i]? = some v → ts[i]? = some t → RepI X H n as v t) (hsz : b + (listText ts).length ≤ sizeLine) (I : Inv X pins σ H s) (e1 : s.heap.get? l = some o) (e4 : o.data = .seq (y :: its).toArray m)
    (fin : ∀ s' u, Inv X pins σ H s' → R (.ok (.ret (.str (listText ts) u))) s') :
    wpAny (model X.prog X.w) A.in1 (Builtin.listReprAt b ⟨[.ref l], []⟩) (fun fin s' => match fin with | .done f => R (.ok f) s' | .again c' => c'.quiet = true ∧ codeAny (model X.prog X.w) A c' R s') (fun e s' => R (.error e) s') s := by
  refine wpAny_list_repr_head (A := A.in1) hG (fun v rest kw hm => listSameRef_of_ne (hcl l List.mem_cons_self _ _ _ _ hm)) e1 e4 ?_
  refine wpAny_bind (m := newList []) (wpAny_newObj_type ?_)
  refine wpAny_pure ⟨PySem.F.quiet_list_repr_loop _, ?_⟩
  have I2 : Inv X pins σ H { s with heap := s.heap.push { cls := .type "list", data := .seq #[] } } := by
    have := I.kept (h' := s.heap.push { cls := .type "list", data := .seq #[] }) (t' := s.toks) fun b o e => Heap.get?_push_of_some _ e
    exact this
  have fp : FpOk X pins H s.heap.objs.size := I.fpOk (Nat.le_refl _) (I.hok.fresh (Nat.le_refl _))
  exact show_loopI hG (fun x hx => hcl x (List.mem_cons_of_mem _ hx)) sb hE hna hl hlen each hsz fp fin _ 0 _ #[] 0 [] rfl (Nat.zero_le _) I2 (Heap.get?_push_size _ rfl) rfl rfl
theorem RepI.lst {l : Addr} {xs : List V} {ts : List Str} (hl : H l = some (.lst xs)) (hlen : ts.length = xs.length) (hna : l ∉ as) (each : ∀ (i : Nat) (v : V) (t : Str), xs[i]? = some v → ts[i]? = some t → RepI X H n as v t) :
    RepI X H (n + 1) (l :: as) (.ref l) (listText ts) := by
  intro σ u r b hb A g pins s hg hc sb I
  cases r
  obtain ⟨its, rv, pl, hz⟩ := I.list (SqL.of hl)
  obtain ⟨o, m, e1, e2, e3, e4⟩ := pl
  have il := rv.length
  cases its with
  | nil =>
    have hx : xs = [] := List.eq_nil_of_length_eq_zero (by rw [il]; rfl)
    subst hx
    have ht : ts = [] := List.eq_nil_of_length_eq_zero hlen
    subst ht
    exact (ReprK.listEmpty (as := []) (d := 0) (h₀ := s.heap) e1 e2 e4) b hb A g X.xe s _ hg nofun sb.room.units0 (fun _ _ e => e) fun h' tk hk => ⟨rfl, I.kept hk⟩
  | cons y its =>
    refine wpAny_pyReprUnder_ref (by omega) (wpAny_pyReprObjUnder_twin (twin := "list.__repr__.under") ⟨o, e1, e2⟩ PySem.F.slot_list_repr.toG rfl sb.room.units0 ?_)
    refine call_twin_plain PySem.F.plain_list_repr_under PySem.F.entry_list_repr_under PySem.F.check_list_repr_under ⟨o, e1, e2⟩ PySem.F.slot_list_repr.toG (PySem.F.args_list_repr_1 _) ?_
    exact list_headI hg hc sb (fun e s' he => he) hna hl hlen each hb I e1 e4 fun s' u J => ⟨⟨_, _, rfl⟩, _, _, rfl, rfl, J⟩
theorem tupFoldI {A : Around} {g : List Code} (hG : A.guards = some g) (hcl : ∀ x ∈ as, Clear g x) (sb : L2.Sub X n A) : ∀ (vs : List V) (us : List Value) (ts : List Str) (acc : Array Str) (m : Nat) (s : Shared) (Q : (Array Str × Nat) → Shared → Prop), Vals vs us → ts.length = vs.length →
    (∀ (i : Nat) (v : V) (t : Str), vs[i]? = some v → ts[i]? = some t → RepI X H n as v t) → m + piled ts ≤ sizeLine → Inv X pins σ H s → (∀ s', Inv X pins σ H s' → Q ⟨acc ++ ts.toArray, m + piled ts⟩ s') →
    wpAny (model X.prog X.w) A (forIn us (⟨acc, m⟩ : (Array Str × Nat)) tupBody) Q X.xe s := by
  intro vs
  induction vs with
  | nil =>
    intro us ts acc m s Q r hl _ _ I h
    cases r
    have ht : ts = [] := List.eq_nil_of_length_eq_zero hl
    subst ht
    have h0 := h s I
    simp only [List.forIn_nil]
    exact wpAny_pure (by simpa [piled] using h0)
  | cons v vs ih =>
    intro us ts acc m s Q r hl each hn I h
    cases r with
    | cons ru rus =>
      cases ts with
      | nil => cases hl
      | cons t ts =>
        rw [piled_cons] at hn
        rw [List.forIn_cons]
        refine wpAny_bind (wpAny_bind (wpAny_mono (each 0 v t rfl rfl σ _ ru (m + 1) (by omega) _ _ _ s hG hcl sb I) (fun t' s2 hz => wpAny_pure ?_) fun _ _ x => x))
        obtain ⟨rfl, I2⟩ := hz
        refine ih _ ts (acc.push t') (m + (t'.length + 2)) _ Q rus (Nat.succ.inj hl) (fun i v t hv ht => each (i + 1) v t hv ht) (by omega) I2 fun s' J => ?_
        have h1 := h s' J
        have e : m + piled (t' :: ts) = m + (t'.length + 2) + piled ts := by rw [piled_cons]; omega
        rw [e] at h1
        simpa using h1
theorem sub_guardT {A : Around} (sb : L2.Sub X (n + 1) A) (id : String) (hid : id = "tuple.__repr__" ∨ id = "tuple.__repr__.under") (args : Args) : L2.Sub X n (A.under (.builtin id args)) := by
  have hw : (Code.builtin id args).weight ≤ 1 := by
    rcases hid with rfl | rfl
    · show (Code.builtin "tuple.__repr__" ⟨[], []⟩).weight ≤ 1
      decide +kernel
    · show (Code.builtin "tuple.__repr__.under" ⟨[], []⟩).weight ≤ 1
      decide +kernel
  have hc : (Code.builtin id args).cUnits ≤ 10 := by
    rcases hid with rfl | rfl
    · show (Code.builtin "tuple.__repr__" ⟨[], []⟩).cUnits ≤ 10
      decide +kernel
    · show (Code.builtin "tuple.__repr__.under" ⟨[], []⟩).cUnits ≤ 10
      decide +kernel
  have he : (Code.builtin id args).envs = [] := rfl
  obtain ⟨⟨h1, h2, h3⟩, h4⟩ := sb
  refine ⟨⟨h1, ?_, ?_⟩, ?_⟩
  · show A.depth + _ + 3 * n + 5 < _
    omega
  · show A.units + _ + 16 * n + 200 < _
    omega
  · unfold Around.under
    simp [he, pushEnvs, h4]
theorem RepI.tup {l : Addr} {xs : List V} {ts : List Str} (hl : H l = some (.tup xs)) (hlen : ts.length = xs.length) (hna : l ∉ as) (each : ∀ (i : Nat) (v : V) (t : Str), xs[i]? = some v → ts[i]? = some t → RepI X H n as v t) :
    RepI X H (n + 1) (l :: as) (.ref l) (tupleText ts) := by
  intro σ u r b hb A g pins s hg hc sb I
  cases r
  obtain ⟨its, rv, ⟨o, ho, hcl, m, hd⟩, _⟩ := I.tuple (SqT.of hl)
  have il := rv.length
  have hp := piled_le_tupleText ts
  refine wpAny_pyReprUnder_ref (by omega) (wpAny_pyReprObjUnder_twin (twin := "tuple.__repr__.under") ⟨o, ho, hcl⟩ PySem.F.slot_tuple_repr rfl sb.room.units0 ?_)
  refine call_twin_own (PySem.F.quiet_tuple_repr_under _) PySem.F.entry_tuple_repr_under PySem.F.check_tuple_repr_under ⟨o, ho, hcl⟩ PySem.F.slot_tuple_repr (PySem.F.args_tuple_repr_1 _) ?_
  rw [tuple_repr_tree, tupleReprUnderWay_eq]
  refine wpOwn_bind (wpOwn_stackTailAny hg (tupGuardF_off _) (tupGuardF_pos _) ?_)
  have hn : (g.any fun c => tupGuardF (.ref l) (c, default)) = false := by
    rw [List.any_eq_false]
    intro c hcm
    rw [tupGuardF_of_clear (hc l List.mem_cons_self) c hcm]
    exact Bool.false_ne_true
  rw [hn]
  refine wpOwn_of_wpAny ?_
  show wpAny _ _ (tupleReprRest b (.ref l)) _ _ s
  unfold tupleReprRest Builtin.Tuple.tupleItemsOf
  refine wpAny_bind (wpAny_bind (wpAny_seqItems ho hd (wpAny_pure ?_)))
  rw [← Array.forIn_toList]
  have sb2 : L2.Sub X n (A.under (.builtin "tuple.__repr__.under" ⟨[.ref l, rawInt b], []⟩)) := sub_guardT sb _ (.inr rfl) _
  have hg2 : (A.under (.builtin "tuple.__repr__.under" ⟨[.ref l, rawInt b], []⟩)).guards = some (.builtin "tuple.__repr__.under" ⟨[.ref l, rawInt b], []⟩ :: g) := guards_under_guard (isGuard_tuple_repr_under _) hg
  refine wpAny_bind (wpAny_mono (tupFoldI hg2 (fun b' hb' => (hc b' (List.mem_cons_of_mem _ hb')).cons (a := l) fun e => hna (e ▸ hb')) sb2 xs its ts #[] b s (fun r s' => r = ⟨#[] ++ ts.toArray, b + piled ts⟩ ∧ Inv X pins σ H s') rv hlen each (by omega) I fun s' J => ⟨rfl, J⟩) (fun r s' hz => ?_) fun _ _ x => x)
  obtain ⟨rfl, J⟩ := hz
  refine wpAny_bind (wpAny_mkStr (wpAny_pure ?_) ?_)
  · refine ⟨⟨_, _, rfl⟩, _, _, rfl, ?_, J.tok _⟩
    simp [tupleText, hlen, il]
  · have : (tupleText ts).length ≤ sizeLine := by omega
    simpa [tupleText, hlen, il] using this
end
/-! ### trees of such, told without the place that shows them -/
inductive ShV (C : Addr) (sp : List Code → Sp) (H : Hp) : Nat → List Addr → V → Str → Prop
  | int {n : Nat} {as : List Addr} (k : Int) (h : k.natAbs.log2 < 1920) : ShV C sp H n as (.int k) (toString k)
  | str {n : Nat} {as : List Addr} (z : Str) (h : (reprText z).length ≤ sizeLine) : ShV C sp H n as (.str z) (reprText z)
  | non {n : Nat} {as : List Addr} : ShV C sp H n as .non "None"
  | own {n : Nat} {as : List Addr} {a dx : Addr} {fs : List (Str × V)} {t : Str} (ha : H a = some (.ins C dx fs)) (hsp : ∀ g, sp g [.ref a] H (fun z H' => ∃ u, z = .str u ∧ (z = .str t ∧ H' = H)) E0) : ShV C sp H n as (.ref a) t
  | lst {n : Nat} {as : List Addr} {l : Addr} {xs : List V} {ts : List Str} (hl : H l = some (.lst xs)) (hlen : ts.length = xs.length) (hna : l ∉ as) (each : ∀ (i : Nat) (v : V) (t : Str), xs[i]? = some v → ts[i]? = some t → ShV C sp H n as v t) : ShV C sp H (n + 1) (l :: as) (.ref l) (listText ts)
  | tup {n : Nat} {as : List Addr} {l : Addr} {xs : List V} {ts : List Str} (hl : H l = some (.tup xs)) (hlen : ts.length = xs.length) (hna : l ∉ as) (each : ∀ (i : Nat) (v : V) (t : Str), xs[i]? = some v → ts[i]? = some t → ShV C sp H n as v t) : ShV C sp H (n + 1) (l :: as) (.ref l) (tupleText ts)
  | more {n m : Nat} {as bs : List Addr} {v : V} {t : Str} (h : ShV C sp H n as v t) (hn : n ≤ m) (hs : ∀ a ∈ as, a ∈ bs) : ShV C sp H m bs v t
section
variable {X : Cx} {C f : Addr} {fd : FuncData} {ps : List Str} {sp : List Code → Sp} {k : Nat} {H : Hp}
theorem ShV.rep (hs : PySem.W.findIn X.K (.ref C) "__repr__" = some (some (.ref f))) (hf : PySem.W.isFn X.K (.ref f) = true) (F : FnGc X.prog X.w X.K X.mg X.base CX0 k f fd ps sp) (hb : L2.Binds X.K fd ps [])
    {n : Nat} {as : List Addr} {v : V} {t : Str} (h : ShV C sp H n as v t) : RepI X H (n + k) as v t := by
  induction h with
  | int j h => exact .of_is fun u r => (by
      obtain ⟨tk, rfl⟩ := r
      exact ReprIs.int tk h)
  | str z h => exact .of_is fun u r => (by
      obtain ⟨tk, rfl⟩ := r
      exact ReprIs.str z tk h)
  | non => exact .of_is fun u r => (by
      cases r
      exact ReprIs.none)
  | own ha hsp => exact .own hs hf F hb ha hsp (by omega)
  | lst hl hlen hna each ih =>
    have := RepI.lst hl hlen hna ih
    rw [show ∀ a b : Nat, a + b + 1 = a + 1 + b by omega] at this
    exact this
  | tup hl hlen hna each ih =>
    have := RepI.tup hl hlen hna ih
    rw [show ∀ a b : Nat, a + b + 1 = a + 1 + b by omega] at this
    exact this
  | more h hn hs2 ih => exact fun σ u r b hbz A g pins s hg hc sb I => ih σ u r b hbz A g pins s hg (fun x hx => hc x (hs2 x hx)) (sub_le sb (by omega)) I
/-- repr of a list of such -/
def rReprS (C : Addr) (sp : List Code → Sp) (N : Nat) : List V → Hp → VK → Prop := fun ys H Q => ∃ (l : Addr) (as : List Addr) (xs : List V) (ts : List Str), ys = [.ref l] ∧ H l = some (.lst xs) ∧ ts.length = xs.length ∧ l ∉ as ∧
  (∀ (i : Nat) (v : V) (t : Str), xs[i]? = some v → ts[i]? = some t → ShV C sp H N as v t) ∧ (listText ts).length ≤ sizeLine ∧ Q (.str (listText ts)) H
theorem call_reprS {N : Nat} (hs : PySem.W.findIn X.K (.ref C) "__repr__" = some (some (.ref f))) (hf : PySem.W.isFn X.K (.ref f) = true) (F : FnGc X.prog X.w X.K X.mg X.base CX0 k f fd ps sp) (hG : X.A.guards = some []) (hr : Room (N + k + 2) X.A) (hb : L2.Binds X.K fd ps []) :
    CallR X (.builtin "repr") (rReprS C sp N) := by
  intro pins s σ H ys us Q I r h
  obtain ⟨l, as, xs, ts, rfl, hl, hlen, hna, each, hsz, q⟩ := h
  rw [Vals.ref1 r]
  obtain ⟨its, rv, pl, hz⟩ := I.list (SqL.of hl)
  obtain ⟨o, m, e1, e2, _, e4⟩ := pl
  have il := rv.length
  have hr2 : Room (N + k + 1) X.A.in1 := hr.in1
  refine call_repr_slot hr.in1.units0 ⟨o, e1, e2⟩ PySem.F.slot_list_repr.toG ?_
  cases its with
  | nil =>
    have hx : xs = [] := List.eq_nil_of_length_eq_zero (by rw [il]; rfl)
    subst hx
    have ht : ts = [] := List.eq_nil_of_length_eq_zero hlen
    subst ht
    exact call_list_repr_empty ⟨o, e1, e2⟩ e1 e4 ⟨_, _, rfl, .str _, H, I.tok _, ⟨_, rfl⟩, q⟩
  | cons y its =>
    refine wpAny_call (codeAny_call_builtin PySem.F.slot_list_repr.plain PySem.F.entry_list_repr (PySem.F.slot_list_repr.check _ _ _ _ _ _ _ _ ⟨o, e1, e2⟩ (PySem.F.args_list_repr_1 _) ?_))
    refine wpAny_list_repr_head (A := X.A.in1.in1) (g := []) hG (fun _ _ _ z => nomatch z) e1 e4 ?_
    refine wpAny_bind (m := newList []) (wpAny_newObj_type ?_)
    refine wpAny_pure ⟨PySem.F.quiet_list_repr_loop _, ?_⟩
    have I2 : Inv X pins σ H { s with heap := s.heap.push { cls := .type "list", data := .seq #[] } } := by
      have := I.kept (h' := s.heap.push { cls := .type "list", data := .seq #[] }) (t' := s.toks) fun b o e => Heap.get?_push_of_some _ e
      exact this
    have fp : FpOk X pins H s.heap.objs.size := I.fpOk (Nat.le_refl _) (I.hok.fresh (Nat.le_refl _))
    exact show_loopI (as := as) (A := X.A.in1) hG (fun x _ => Clear.nil x) ⟨hr2, rfl⟩ (fun e s' he => he) (b := 0) hna hl hlen (fun i v t hv ht => (each i v t hv ht).rep hs hf F hb) (by omega) fp (fun s' u J => ⟨_, _, rfl, .str _, H, J, ⟨u, rfl⟩, q⟩) _ 0 _ #[] 0 [] rfl (Nat.zero_le _) I2 (Heap.get?_push_size _ rfl) rfl rfl
end
/-! ### != of two lists of such, equal one by one -/
/-! ### xs == [] -/
end LT
set_option Elab.async false
set_option linter.all false
set_option maxRecDepth 100000
set_option maxHeartbeats 1600000
/-! Own layer: runs of heads: one way only; how they show; == of them. -/
namespace LT
open PySem PySem.Spec PyProof.Rows L2 NdefX
/-! ### one way only -/
def Un (rs : List Run) : Prop := ∀ (i : Nat) a b, rs[i]? = some a → rs[i + 1]? = some b → a.1 ≠ b.1
theorem Un.tail {r : Run} {rs : List Run} (h : Un (r :: rs)) : Un rs := fun i a b h1 h2 => h (i + 1) a b h1 h2
theorem Cov.fst {β : Type} {fi : β → Int} {la : β → Option Int} {K : β → Int → Prop} {c : β} {r : List β} {f : Int} (h : Cov fi la K f (c :: r)) : fi c = f ∧ K c f := by
  cases r with
  | nil => exact ⟨h.1, h.2.2 f (Int.le_refl _)⟩
  | cons d r =>
    obtain ⟨h1, e, h2, h3, h4, _⟩ := h
    exact ⟨h1, h4 f (Int.le_refl _) h3⟩
theorem run_alike {a b : Run} (h1 : a.1 = b.1) (h2 : rFi a = rFi b) (h3 : rLa a = rLa b) : a = b := by
  obtain ⟨a1, a2, a3⟩ := a
  obtain ⟨b1, b2, b3⟩ := b
  have h1 : a1 = b1 := h1
  have h2 : a2 = b2 := h2
  have h3 : a3 = b3 := h3
  rw [h1, h2, h3]
theorem cov_uniq {g : Int → V} : ∀ {rs rs' : List Run} {f : Int}, Cov rFi rLa (fun x d => g d = x.1) f rs → Cov rFi rLa (fun x d => g d = x.1) f rs' → Un rs → Un rs' → rs = rs'
  | [], _, _, h, _, _, _ => h.elim
  | _ :: _, [], _, _, h, _, _ => h.elim
  | [r], [r'], f, h, h', _, _ => by
    rw [run_alike ((h.fst.2).symm.trans h'.fst.2) (h.1.trans h'.1.symm) (h.2.1.trans h'.2.1.symm)]
  | [r], r' :: c' :: t', f, h, h', _, u' => by
    obtain ⟨h1, e, h2, h3, h4, h5⟩ := h'
    have k1 : g (e + 1) = r.1 := h.2.2 _ (by omega)
    have k2 : g f = r.1 := h.2.2 _ (Int.le_refl _)
    exact absurd ((h4 f (Int.le_refl _) h3).symm.trans (k2.trans (k1.symm.trans h5.fst.2))) (u' 0 r' c' rfl rfl)
  | r :: c :: t, [r'], f, h, h', u, _ => by
    obtain ⟨h1, e, h2, h3, h4, h5⟩ := h
    have k1 : g (e + 1) = r'.1 := h'.2.2 _ (by omega)
    have k2 : g f = r'.1 := h'.2.2 _ (Int.le_refl _)
    exact absurd ((h4 f (Int.le_refl _) h3).symm.trans (k2.trans (k1.symm.trans h5.fst.2))) (u 0 r c rfl rfl)
  | r :: c :: t, r' :: c' :: t', f, h, h', u, u' => by
    obtain ⟨h1, e, h2, h3, h4, h5⟩ := h
    obtain ⟨g1, e', g2, g3, g4, g5⟩ := h'
    have v1 : g f = r.1 := h4 f (Int.le_refl _) h3
    have v2 : g f = r'.1 := g4 f (Int.le_refl _) g3
    have ee : e = e' := by
      by_cases hlt : e < e'
      · have k : g (e + 1) = r'.1 := g4 _ (by omega) (by omega)
        exact absurd (v1.symm.trans (v2.trans (k.symm.trans h5.fst.2))) (u 0 r c rfl rfl)
      · by_cases hgt : e' < e
        · have k : g (e' + 1) = r.1 := h4 _ (by omega) (by omega)
          exact absurd (v2.symm.trans (v1.trans (k.symm.trans g5.fst.2))) (u' 0 r' c' rfl rfl)
        · omega
    subst ee
    rw [run_alike (v1.symm.trans v2) (h1.trans g1.symm) (h2.trans g2.symm), cov_uniq h5 g5 u.tail u'.tail]
theorem runs_uniq {P P' : Int → Prop} {g : Int → V} {rs rs' : List Run} (a : RunsOf P g rs) (b : RunsOf P' g rs') : rs = rs' := cov_uniq a.cov b.cov a.un b.un
/-! ### by marks -/
/-! ### how they show -/
def shS (f : Int) : Option Int → Str
  | none => ((Str.empty ++ Str.ofString "Stretch(") ++ Str.ofString (toString f)) ++ Str.ofString ")"
  | some e => ((((Str.empty ++ Str.ofString "Stretch(") ++ Str.ofString (toString f)) ++ Str.ofString ", ") ++ Str.ofString (toString e)) ++ Str.ofString ")"
def Sm62 (i : Int) : Prop := 0 ≤ i ∧ i < 10 ^ 60
def spSRepr (CS : Addr) (g : List Code) : Sp := fun vs H Q _ => ∃ (x : Addr) (f : Int) (la : Option Int), vs = [.ref x] ∧ StrAt CS H x f la ∧ Sm62 f ∧ (∀ e, la = some e → Sm62 e) ∧ Q (.str (shS f la)) H
def shR (r : Run) : Str := tupleText [toString (numI r.1), shS r.2.1 r.2.2]
structure RunSm (r : Run) : Prop where
  v : ∃ m : Int, r.1 = .int m ∧ m.natAbs ≤ 10 ^ 60
  f : Sm62 r.2.1
  l : ∀ e, r.2.2 = some e → Sm62 e
theorem run_sh {CS : Addr} {H : Hp} {t : Addr} {r : Run} (h : RunT CS H t r) (sm : RunSm r) : ShV CS (spSRepr CS) H 1 [t] (.ref t) (shR r) := by
  obtain ⟨x, ht, dx, hx⟩ := h
  obtain ⟨m, em, hm⟩ := sm.v
  refine .tup (as := []) ht rfl nofun fun i v t' hv ht' => ?_
  match i, hv, ht' with
  | 0, hv, ht' =>
    cases hv
    cases ht'
    rw [em]
    refine .int m ?_
    have : m.natAbs.log2 < 1920 := by
      by_cases e : m.natAbs = 0
      · rw [e]
        decide
      · rw [Nat.log2_lt e]
        have : (10 : Nat) ^ 60 < 2 ^ 1920 := by decide +kernel
        omega
    exact this
  | 1, hv, ht' =>
    cases hv
    cases ht'
    exact .own hx fun g => ⟨x, _, _, rfl, ⟨dx, hx⟩, sm.f, sm.l, _, rfl, rfl, rfl⟩
  | i + 2, hv, _ => simp at hv
/-- rows (value, day), as tuples -/
def RowsD (H : Hp) (us : List Addr) (B : List (Int × V)) : Prop := Paired (fun t (p : Int × V) => H t = some (.tup [p.2, .int p.1])) us B
theorem RowsD.mono {H H' : Hp} {us : List Addr} {B : List (Int × V)} (h : RowsD H us B) (s : Same H H') : RowsD H' us B := paired_imp (fun _ _ h => s _ _ h) h
theorem RowsD.upd {H : Hp} {us : List Addr} {B : List (Int × V)} {F : Addr} {xs : List V} {o : HO} (h : RowsD H us B) (e : H F = some (.lst xs)) : RowsD (L2.upd H F o) us B := paired_imp (fun t p h => by rw [upd_ne (ne_of h e (by intro z; cases z))]; exact h) h
/-! ### whole lists of runs -/
theorem textFrom_le : ∀ (ts : List Str) (k : Nat) (acc : Str), (textFrom k acc ts).length ≤ acc.length + piled ts
  | [], k, acc => by show acc.length ≤ acc.length + 0; omega
  | t :: ts, k, acc => by
    have ih := textFrom_le ts (k + 1) (acc ++ (if k > 0 then ", " else "" : String) ++ t)
    have e : (acc ++ (if k > 0 then ", " else "" : String) ++ t).length = acc.length + (if k > 0 then 2 else 0) + t.length := by
      rw [strLen_append, strLen_append]
      split <;> rfl
    have h2 : (if k > 0 then 2 else 0 : Nat) ≤ 2 := by split <;> omega
    rw [piled_cons]
    show (textFrom (k + 1) (acc ++ (if k > 0 then ", " else "" : String) ++ t) ts).length ≤ _
    omega
theorem listText_le (ts : List Str) : (listText ts).length ≤ 2 + piled ts := by
  have := textFrom_le ts 0 "["
  have e : (listText ts).length = (textFrom 0 "[" ts).length + 1 := by
    show (textFrom 0 "[" ts ++ "]").length = _
    rw [strLen_append]
    rfl
  have e1 : ("[" : Str).length = 1 := by decide +kernel
  omega
theorem piled_le (n : Nat) : ∀ ts : List Str, (∀ t ∈ ts, t.length ≤ n) → piled ts ≤ (n + 2) * ts.length
  | [], _ => Nat.le_refl _
  | t :: ts, h => by
    rw [piled_cons, List.length_cons, Nat.mul_add, Nat.mul_one]
    have := piled_le n ts fun t ht => h t (List.mem_cons_of_mem _ ht)
    have := h t List.mem_cons_self
    omega
theorem shS_len {f : Int} {la : Option Int} (hf : Sm62 f) (hl : ∀ e, la = some e → Sm62 e) : (shS f la).length ≤ 500 := by
  have l1 : (Str.ofString "Stretch(").length = 8 := by decide +kernel
  have l2 : (Str.ofString ", ").length = 2 := by decide +kernel
  have l3 : (Str.ofString ")").length = 1 := by decide +kernel
  have l0 : Str.empty.length = 0 := rfl
  have hf0 := hf.1
  have hf1 := hf.2
  have tf := tlen61 (i := f) (by omega)
  cases la with
  | none =>
    unfold shS
    simp only [strLen_append, l0, l1, l3]
    omega
  | some e =>
    have he := hl e rfl
    have he0 := he.1
    have he1 := he.2
    have te := tlen61 (i := e) (by omega)
    unfold shS
    simp only [strLen_append, l0, l1, l2, l3]
    omega
theorem shR_len {r : Run} (h : RunSm r) : (shR r).length ≤ 1000 := by
  obtain ⟨m, em, hm⟩ := h.v
  have h1 := shS_len h.f h.l
  have h2 := tlen61 (i := numI r.1) (by rw [em]; show m.natAbs ≤ _; omega)
  unfold shR
  have e := join_length_add [Str.ofString (toString (numI r.1)), shS r.2.1 r.2.2] (by simp)
  rw [piled_cons, piled_cons] at e
  have e0 : piled [] = 0 := rfl
  have e1 : ("(" : Str).length = 1 := by decide +kernel
  have e2 : (")" : Str).length = 1 := by decide +kernel
  show ((("(" : Str) ++ Str.join ", " [Str.ofString (toString (numI r.1)), shS r.2.1 r.2.2]) ++ (")" : Str)).length ≤ 1000
  rw [strLen_append, strLen_append]
  omega
theorem heads_sm {rk : List (Str × Int)} {es : List Evt} {zs : List Str} {z : Str} {kn : Option Int} {rs : List Run} (ok : ∀ e ∈ es, EvOK rk e) (zl : zs.length ≤ 30) (h : HeadsOf es zs z kn rs) : ∀ r ∈ rs, RunSm r := fun r hr => by
  obtain ⟨i, hi⟩ := List.getElem?_of_mem hr
  have g := h.cov.get i r hi
  have low := h.cov.le r hr
  have hd := h.days r hr
  have k : V.int (manyI es zs z kn (rFi r)) = r.1 := g.2.2.1 _ ⟨Int.le_refl _, fun e he => low.2 e he⟩
  have mb := manyI_le es zs z kn (rFi r)
  have f0 : 0 ≤ rFi r := g.1
  have f1 : rFi r < 10 ^ 55 := by
    rcases hd.1 with e | ⟨k, e, he, _, _, ed⟩
    · omega
    · have := (ok e he).d1
      omega
  refine ⟨⟨_, k.symm, by omega⟩, ⟨f0, by show rFi r < _; omega⟩, fun e he => ?_⟩
  have he : rLa r = some e := he
  obtain ⟨k, ev, hev, _, _, ed⟩ := hd.2 e he
  have := (ok ev hev).d1
  have := low.2 e he
  exact ⟨by omega, by omega⟩
end LT
set_option Elab.async false
set_option linter.all false
set_option maxRecDepth 100000
set_option maxHeartbeats 1600000
/-! Own layer: entries: dicts locked, many at once; all that was told of one. -/
namespace LT
open PySem PySem.Spec PyProof.Rows L2 NdefX
/-! ### many locks -/
/-! ### all that was told, day by day -/
def flatH (h : Hist) : List (Int × Int × V) := h.flatMap fun p => p.2.map fun q => (q.1, p.1, q.2)
end LT
set_option Elab.async false
set_option linter.all false
set_option maxRecDepth 100000
set_option maxHeartbeats 1600000
/-! Own layer: sorted by keys that are tuples, made anew by each call of the key. -/
namespace LT
open PySem PySem.Spec PyProof.Rows L2
def fltD : V → PyData
  | .int i => .int i
  | .str z => .str z
  | _ => .none
def keyD (ys : List V) : PyData := .tuple (ys.map fltD)
end LT
set_option Elab.async false
set_option linter.all false
set_option maxRecDepth 100000
set_option maxHeartbeats 1600000
/-! Own layer: sorted(e, key=lambda x: a new tuple). -/
namespace LT
open PySem PySem.Spec PyProof.Rows L2 LamX
end LT
set_option Elab.async false
set_option linter.all false
set_option maxRecDepth 100000
set_option maxHeartbeats 1600000
/-! Own layer: entries of a book: sorted, one way only. -/
namespace LT
open PySem PySem.Spec PyProof.Rows L2 NdefX
def evKey (e : Evt) : List V := [.str (kindS e.mv), .int e.kn, .str e.who, .int e.day]
def evLe : Evt → Evt → Bool := PySem.W.dataLe false fun e => keyD (evKey e)
theorem kindS_inj {a b : Bool} (h : kindS a = kindS b) : a = b := by
  have := kind_eq a b
  rw [h, decide_eq_true (show V.str (kindS b) = V.str (kindS b) from rfl)] at this
  exact of_decide_eq_true this.symm
def EvSame (a b : Evt) : Prop := a.mv = b.mv ∧ a.kn = b.kn ∧ a.who = b.who ∧ a.day = b.day
theorem toks_inj {a b : Evt} (h : PySem.W.keyToks (keyD (evKey a)) = PySem.W.keyToks (keyD (evKey b))) : EvSame a b := by
  simp [keyD, evKey, fltD, PySem.W.keyToks, PySem.W.keyToksAll] at h
  exact ⟨kindS_inj (str_eq (by rw [h.1])), h.2.1, str_eq (by rw [h.2.2.1]), h.2.2.2⟩
theorem evLe_anti {a b : Evt} (h1 : evLe a b = true) (h2 : evLe b a = true) : EvSame a b := by
  refine toks_inj ((PyProof.Rows.listOrd PyProof.Rows.itemOrd).total _ _ ?_ ?_)
  · unfold evLe at h2
    rw [PySem.W.dataLe_eq] at h2
    have h2 : (!PySem.W.dataLt (keyD (evKey a)) (keyD (evKey b))) = true := h2
    have h2 : PySem.W.dataLt (keyD (evKey a)) (keyD (evKey b)) = false := by simpa using h2
    exact h2
  · unfold evLe at h1
    rw [PySem.W.dataLe_eq] at h1
    have h1 : (!PySem.W.dataLt (keyD (evKey b)) (keyD (evKey a))) = true := h1
    have h1 : PySem.W.dataLt (keyD (evKey b)) (keyD (evKey a)) = false := by simpa using h1
    exact h1
/-- what was told last of a day on a known one -/
def entA (es : List Evt) (mv : Bool) (who : Str) (d kn : Int) : Option V := getA ((getA (histE es mv who) d).getD []) kn
structure IsEnts (es L : List Evt) : Prop where
  up : L.Pairwise fun a b => evLe a b = true
  nd : L.Pairwise fun a b => ¬ EvSame a b
  mem : ∀ e, e ∈ L ↔ entA es e.mv e.who e.day e.kn = some e.w
theorem evt_ext {a b : Evt} (h : EvSame a b) (hw : a.w = b.w) : a = b := by
  obtain ⟨h1, h2, h3, h4⟩ := h
  cases a
  cases b
  simp only at h1 h2 h3 h4 hw
  subst h1 h2 h3 h4 hw
  rfl
theorem IsEnts.nodup {es L : List Evt} (h : IsEnts es L) : L.Nodup := h.nd.imp fun hn e => hn (by rw [e]; exact ⟨rfl, rfl, rfl, rfl⟩)
theorem IsEnts.uniq {es L L' : List Evt} (h : IsEnts es L) (k : IsEnts es L') : L = L' := by
  have p : L.Perm L' := (List.perm_ext_iff_of_nodup h.nodup k.nodup).mpr fun e => (h.mem e).trans (k.mem e).symm
  refine List.Perm.eq_of_pairwise (le := fun a b => evLe a b = true) (fun a b ha hb h1 h2 => ?_) h.up k.up p
  have s := evLe_anti h1 h2
  have ea := (h.mem a).mp ha
  have eb := (k.mem b).mp hb
  rw [s.1, s.2.1, s.2.2.1, s.2.2.2, eb] at ea
  exact evt_ext s (Option.some.inj ea).symm
/-! ### on the heap -/
/-! ### what the book goes through -/
theorem flatH_mem {h : Hist} {kn d : Int} {w : V} : (kn, d, w) ∈ flatH h ↔ ∃ t, (d, t) ∈ h ∧ (kn, w) ∈ t := by
  unfold flatH
  rw [List.mem_flatMap]
  constructor
  · rintro ⟨p, hp, hm⟩
    obtain ⟨q, hq, e⟩ := List.mem_map.mp hm
    cases e
    exact ⟨p.2, hp, hq⟩
  · rintro ⟨t, ht, hq⟩
    exact ⟨(d, t), ht, List.mem_map.mpr ⟨(kn, w), hq, rfl⟩⟩
theorem entA_mem {es : List Evt} {mv : Bool} {who : Str} {d kn : Int} {w : V} : (kn, d, w) ∈ flatH (histE es mv who) ↔ entA es mv who d kn = some w := by
  rw [flatH_mem]
  have nk := (hist_keys mv who es).1
  unfold entA
  constructor
  · rintro ⟨t, ht, hq⟩
    have e := getA_of_mem nk ht
    rw [e]
    exact getA_of_mem (hist_of mv who es d t e).1 hq
  · intro h
    cases e : getA (histE es mv who) d with
    | none =>
      rw [e] at h
      cases h
    | some t =>
      rw [e] at h
      exact ⟨t, getA_mem e, getA_mem h⟩
end LT
set_option Elab.async false
set_option linter.all false
set_option maxRecDepth 100000
set_option maxHeartbeats 1600000
/-! Own layer: a += b of lists; entries of a book, its promise. -/
namespace LT
open PySem PySem.Spec PyProof.Rows L2 NdefX LamX
theorem flat_ev {es : List Evt} {mv : Bool} {who : Str} {q : Int × Int × V} (h : q ∈ flatH (histE es mv who)) : (⟨mv, q.1, who, q.2.1, q.2.2⟩ : Evt) ∈ es := by
  obtain ⟨kn, d, w⟩ := q
  obtain ⟨t, ht, hq⟩ := flatH_mem.mp h
  have nk := (hist_keys mv who es).1
  obtain ⟨e', h1, ⟨h2, h3⟩, h4, h5, h6⟩ := (hist_of mv who es d t (getA_of_mem nk ht)).2.2.2 _ hq
  obtain ⟨a, b, c, d', w'⟩ := e'
  simp only at h2 h3 h4 h5 h6
  subst h2 h3 h4 h5 h6
  exact h1
/-- new, but for what tables have grown by -/
def NewN (H : Hp) (a : Addr) : Prop := ∀ o, H a = some o → ∃ ps, o = .tbl ps
end LT
set_option Elab.async false
set_option linter.all false
set_option maxRecDepth 100000
set_option maxHeartbeats 1600000
/-! Own layer: what the top has left of defs and methods that make lambdas. -/
namespace LT
open PySem PySem.Spec PyProof.Rows L2 NdefX LamX
/-- of a def -/
structure LeftLd (K : PySem.W.Frag) (x : Str) (st : Stmt) (f c P : Addr) (oc : Value) (od an : Option Addr) (kV dc pm ct : Value) (sl : Array (Option Value)) (oC : Value) (dC : Option Addr) (vC : Array Value) (sC : Array (Option Value)) : Prop where
  ns : PySem.W.nsIn K mainGlobals x = some (some (.ref f))
  lk : K.lookup f = some ⟨oc, od, .func (PySem.W.fnOf x x (defArgs st) (defBody st) (defScope st) .none kV dc pm an (.ref c) ct), sl⟩
  cd : PySem.W.codeIn K (.ref c) x = true
  kp : PySem.W.keepIn K (.ref f) = true
  lC : K.lookup c = some ⟨oC, dC, .fields vC, sC⟩
  vP : vC[11]? = some (.ref P)
  hd : PySem.W.codeHdIn K c P = true
  nP : K.lookup P = none
theorem LeftLd.fn {K : PySem.W.Frag} {x : Str} {st : Stmt} {f c P : Addr} {oc : Value} {od an : Option Addr} {kV dc pm ct : Value} {sl : Array (Option Value)} {oC : Value} {dC : Option Addr} {vC : Array Value} {sC : Array (Option Value)} (h : LeftLd K x st f c P oc od an kV dc pm ct sl oC dC vC sC) :
    FunC K x x st f c (PySem.W.fnOf x x (defArgs st) (defBody st) (defScope st) .none kV dc pm an (.ref c) ct) := ⟨⟨oc, od, kV, dc, pm, an, ct, sl, rfl, h.lk, h.cd⟩, h.kp⟩
/-- of a method -/
structure LeftLm (K : PySem.W.Frag) (C : Addr) (x q : Str) (st : Stmt) (f c P : Addr) (oc : Value) (od an : Option Addr) (kV dc pm ct : Value) (sl : Array (Option Value)) (oC : Value) (dC : Option Addr) (vC : Array Value) (sC : Array (Option Value)) : Prop where
  at_ : PySem.W.findIn K (.ref C) x = some (some (.ref f))
  lk : K.lookup f = some ⟨oc, od, .func (PySem.W.fnOf x q (defArgs st) (defBody st) (defScope st) .none kV dc pm an (.ref c) ct), sl⟩
  cd : PySem.W.codeIn K (.ref c) q = true
  kp : PySem.W.keepIn K (.ref f) = true
  isf : PySem.W.isFn K (.ref f) = true
  lC : K.lookup c = some ⟨oC, dC, .fields vC, sC⟩
  vP : vC[11]? = some (.ref P)
  hd : PySem.W.codeHdIn K c P = true
  nP : K.lookup P = none
theorem LeftLm.fn {K : PySem.W.Frag} {C : Addr} {x q : Str} {st : Stmt} {f c P : Addr} {oc : Value} {od an : Option Addr} {kV dc pm ct : Value} {sl : Array (Option Value)} {oC : Value} {dC : Option Addr} {vC : Array Value} {sC : Array (Option Value)} (h : LeftLm K C x q st f c P oc od an kV dc pm ct sl oC dC vC sC) :
    FunC K x q st f c (PySem.W.fnOf x q (defArgs st) (defBody st) (defScope st) .none kV dc pm an (.ref c) ct) := ⟨⟨oc, od, kV, dc, pm, an, ct, sl, rfl, h.lk, h.cd⟩, h.kp⟩
theorem LeftLm.me {K : PySem.W.Frag} {C : Addr} {x q : Str} {st : Stmt} {f c P : Addr} {oc : Value} {od an : Option Addr} {kV dc pm ct : Value} {sl : Array (Option Value)} {oC : Value} {dC : Option Addr} {vC : Array Value} {sC : Array (Option Value)} (h : LeftLm K C x q st f c P oc od an kV dc pm ct sl oC dC vC sC) :
    Meth K C x f := ⟨h.at_, h.isf, h.kp⟩
end LT
set_option Elab.async false
set_option linter.all false
set_option maxRecDepth 100000
set_option maxHeartbeats 1600000
/-! Own layer: books where lambdas are made; book_of. -/
namespace LT
open PySem PySem.Spec PyProof.Rows L2 NdefX LamX
/-- neither a table nor a code object -/
def Plain (o : HO) : Prop := (∀ ps, o ≠ .tbl ps) ∧ ∀ c q, o ≠ CodeO c q
theorem plain_ins {C dx : Addr} {fs : List (Str × V)} : Plain (.ins C dx fs) := ⟨nofun, fun c q z => by unfold CodeO at z; cases z⟩
theorem plain_dK {r : List (Key × V)} : Plain (.dK r) := ⟨nofun, fun c q z => by unfold CodeO at z; cases z⟩
theorem plain_lst {xs : List V} : Plain (.lst xs) := ⟨nofun, fun c q z => by unfold CodeO at z; cases z⟩
theorem HistAt.pl {C : Addr} {H : Hp} {a : HA} (h : HistAt C H a) : ∀ c ∈ a.fp, ∀ o, H c = some o → Plain o := by
  intro c hc o e
  rcases List.mem_cons.mp hc with rfl | hc
  · rw [h.ix] at e
    cases e
    exact plain_ins
  rcases List.mem_cons.mp hc with rfl | hc
  · rw [h.bd] at e
    cases e
    exact plain_dK
  obtain ⟨p, hp, rfl⟩ := List.mem_map.mp hc
  obtain ⟨i, hi⟩ := List.getElem?_of_mem hp
  obtain ⟨e', _, _, h2⟩ := paired_get h.ta hi
  rw [h2] at e
  cases e
  exact plain_dK
theorem BkH.pl {CB CH : Addr} {H : Hp} {B : BA} {v : V} (h : BkH CB CH H B v) : ∀ c ∈ B.fp, ∀ o, H c = some o → Plain o := by
  intro c hc o e
  rcases List.mem_cons.mp hc with rfl | hc
  · rw [h.ix] at e
    cases e
    exact plain_ins
  rcases List.mem_cons.mp hc with rfl | hc
  · rw [h.rd] at e
    cases e
    exact plain_dK
  rcases List.mem_cons.mp hc with rfl | hc
  · rw [h.md] at e
    cases e
    exact plain_dK
  rcases List.mem_cons.mp hc with rfl | hc
  · rw [h.ldd] at e
    cases e
    exact plain_dK
  rcases List.mem_append.mp hc with hc | hc
  · obtain ⟨x, hx, hc⟩ := hsfp_mem.mp hc
    exact (h.hm x hx).pl c hc o e
  · obtain ⟨x, hx, hc⟩ := hsfp_mem.mp hc
    exact (h.hl x hx).pl c hc o e
theorem Bk.pl {CB CH : Addr} {H : Hp} {b : Addr} {rk : List (Str × Int)} {es : List Evt} {fp : List Addr} (h : Bk CB CH H b rk es fp) : ∀ c ∈ fp, ∀ o, H c = some o → Plain o := by
  obtain ⟨B, rfl, rfl, rfl, rfl, h1, _⟩ := h
  exact h1.pl
theorem Bk.extN {CB CH : Addr} {H H' : Hp} {b : Addr} {rk : List (Str × Int)} {es : List Evt} {fp : List Addr} (h : Bk CB CH H b rk es fp) (e : ExtN H H') : Bk CB CH H' b rk es fp := h.by fun c hc o x => e c o x (h.pl c hc o x).1
/-! ### sorted by the known day -/
def knLe (a b : Evt) : Bool := decide (a.kn ≤ b.kn)
/-! ### entries of entries -/
theorem entA_has {mv : Bool} {who : Str} {d kn : Int} : ∀ es : List Evt, (∃ e ∈ es, e.mv = mv ∧ e.who = who ∧ e.day = d ∧ e.kn = kn) → ∃ w, entA es mv who d kn = some w := by
  refine snoc_ind (fun ⟨_, h, _⟩ => nomatch h) fun es e ih h => ?_
  unfold entA
  rw [histE_snoc]
  unfold stepH
  by_cases ho : ofE mv who e = true
  · rw [if_pos ho, getA_note]
    by_cases hd : d = e.day
    · rw [if_pos hd]
      show ∃ w, getA (putA ((getA (histE es mv who) e.day).getD []) e.kn e.w) kn = some w
      rw [getA_put]
      by_cases hk : kn = e.kn
      · rw [if_pos hk]
        exact ⟨_, rfl⟩
      · rw [if_neg hk]
        obtain ⟨x, hx, h1, h2, h3, h4⟩ := h
        rcases List.mem_append.mp hx with hx | hx
        · have := ih ⟨x, hx, h1, h2, h3, h4⟩
          rw [← hd]
          exact this
        · rw [List.mem_singleton.mp hx] at h4
          exact absurd h4.symm hk
    · rw [if_neg hd]
      obtain ⟨x, hx, h1, h2, h3, h4⟩ := h
      rcases List.mem_append.mp hx with hx | hx
      · exact ih ⟨x, hx, h1, h2, h3, h4⟩
      · rw [List.mem_singleton.mp hx] at h3
        exact absurd h3.symm hd
  · rw [if_neg ho]
    obtain ⟨x, hx, h1, h2, h3, h4⟩ := h
    rcases List.mem_append.mp hx with hx | hx
    · exact ih ⟨x, hx, h1, h2, h3, h4⟩
    · rw [List.mem_singleton.mp hx] at h1 h2
      exact absurd (ofE_iff.mpr ⟨h1, h2⟩) ho
theorem entA_in {es : List Evt} {mv : Bool} {who : Str} {d kn : Int} {w : V} (h : entA es mv who d kn = some w) : (⟨mv, kn, who, d, w⟩ : Evt) ∈ es := flat_ev (entA_mem.mpr h)
theorem entA_uniq {es : List Evt} (nd : es.Pairwise fun a b => ¬ EvSame a b) (e : Evt) : e ∈ es ↔ entA es e.mv e.who e.day e.kn = some e.w := by
  constructor
  · intro h
    obtain ⟨w, hw⟩ := entA_has es ⟨e, h, rfl, rfl, rfl, rfl⟩
    have h2 := entA_in hw
    rw [hw]
    by_cases he : e = ⟨e.mv, e.kn, e.who, e.day, w⟩
    · rw [show e.w = w from congrArg Evt.w he]
    · have key : ∀ (l : List Evt), (l.Pairwise fun a b => ¬ EvSame a b) → e ∈ l → (⟨e.mv, e.kn, e.who, e.day, w⟩ : Evt) ∈ l → False := by
        intro l nl h1 h2
        obtain ⟨i, hi⟩ := List.getElem?_of_mem h1
        obtain ⟨j, hj⟩ := List.getElem?_of_mem h2
        have a1 := List.getElem?_eq_some_iff.mp hi
        have a2 := List.getElem?_eq_some_iff.mp hj
        rcases Nat.lt_trichotomy i j with q | q | q
        · have := List.pairwise_iff_getElem.mp nl i j a1.1 a2.1 q
          rw [a1.2, a2.2] at this
          exact this ⟨rfl, rfl, rfl, rfl⟩
        · subst q
          rw [hi] at hj
          exact he (Option.some.inj hj)
        · have := List.pairwise_iff_getElem.mp nl j i a2.1 a1.1 q
          rw [a1.2, a2.2] at this
          exact this ⟨rfl, rfl, rfl, rfl⟩
      exact (key es nd h h2).elim
  · intro h
    have := entA_in h
    exact this
theorem IsEnts.sub {es L : List Evt} (h : IsEnts es L) : ∀ e ∈ L, e ∈ es := fun e he => entA_in ((h.mem e).mp he)
theorem IsEnts.len {es L : List Evt} (h : IsEnts es L) : L.length ≤ es.length := List.Nodup.length_le_of_subset h.nodup fun e he => h.sub e he
/-- told anew by the known days, the entries are the same -/
theorem IsEnts.again {es L : List Evt} (h : IsEnts es L) : IsEnts (L.mergeSort knLe) L := by
  have p := List.mergeSort_perm L knLe
  have nd : (L.mergeSort knLe).Pairwise fun a b => ¬ EvSame a b := p.symm.pairwise h.nd fun h s => h ⟨s.1.symm, s.2.1.symm, s.2.2.1.symm, s.2.2.2.symm⟩
  exact ⟨h.up, h.nd, fun e => p.mem_iff.symm.trans (entA_uniq nd e)⟩
end LT
set_option Elab.async false
set_option linter.all false
set_option maxRecDepth 100000
/-! Own layer: runs of what was told, a day more than once with the same. -/
namespace LT
open PySem PySem.Spec PyProof.Rows L2 NdefX
def UpA (ch : List (Int × V)) : Prop := ch.Pairwise fun a b => a.1 < b.1 ∨ a = b
def dd : List (Int × V) → List (Int × V)
  | [] => []
  | [a] => [a]
  | a :: b :: r => if a = b then dd (b :: r) else a :: dd (b :: r)
theorem dd_mem : ∀ {ch : List (Int × V)} {x : Int × V}, x ∈ dd ch ↔ x ∈ ch
  | [], x => Iff.rfl
  | [a], x => Iff.rfl
  | a :: b :: r, x => by
    have ih := dd_mem (ch := b :: r) (x := x)
    unfold dd
    by_cases h : a = b
    · rw [if_pos h, ih, h]
      simp
    · rw [if_neg h, List.mem_cons, ih, List.mem_cons (a := x) (b := a)]
theorem dd_up : ∀ {ch : List (Int × V)}, UpA ch → (dd ch).Pairwise fun a b => a.1 < b.1
  | [], _ => List.Pairwise.nil
  | [a], _ => List.pairwise_singleton _ _
  | a :: b :: r, h => by
    have h' := List.pairwise_cons.mp h
    have ih := dd_up (ch := b :: r) h'.2
    unfold dd
    by_cases e : a = b
    · rw [if_pos e]
      exact ih
    · rw [if_neg e]
      refine List.pairwise_cons.mpr ⟨fun x hx => ?_, ih⟩
      have hx := dd_mem.mp hx
      have ab : a.1 < b.1 := (h'.1 b List.mem_cons_self).resolve_right e
      rcases List.mem_cons.mp hx with rfl | hx
      · exact ab
      · rcases (List.pairwise_cons.mp h'.2).1 x hx with h | h
        · omega
        · rw [← h]
          exact ab
theorem begS_idem (B : List (Int × V)) (p : Int × V) : begS (begS B p) p = begS B p := by
  by_cases h0 : p.1 = 0
  · unfold begS
    rw [if_pos h0, if_pos h0]
  · by_cases hl : p.2 = lastW B
    · have e : begS B p = B := by
        unfold begS
        rw [if_neg h0, if_pos hl]
      rw [e, e]
    · have e : begS B p = B ++ [p] := by
        unfold begS
        rw [if_neg h0, if_neg hl]
      rw [e]
      unfold begS
      rw [if_neg h0, if_pos]
      unfold lastW
      simp
theorem fold_dd : ∀ (ch B : List (Int × V)), ch.foldl begS B = (dd ch).foldl begS B
  | [], B => rfl
  | [a], B => rfl
  | a :: b :: r, B => by
    unfold dd
    by_cases e : a = b
    · rw [if_pos e, ← fold_dd (b :: r) B, e]
      show (b :: r).foldl begS (begS B b) = (b :: r).foldl begS B
      rw [List.foldl_cons, List.foldl_cons, begS_idem]
    · rw [if_neg e]
      exact fold_dd (b :: r) (begS B a)
theorem begF_dd (s : V) (ch : List (Int × V)) : begF s ch = begF s (dd ch) := fold_dd ch _
/-- runs_of, where a day may stand more than once with the same -/
def spRunsA (CS : Addr) : Sp := fun vs H Q _ => ∃ (s : V) (l : Addr) (ch : List (Int × V)), vs = [s, .ref l] ∧ RowsAt H l ch ∧ UpA ch ∧ (∀ x ∈ ch, 0 ≤ x.1) ∧ ScalL s ch ∧ ch.length ≤ 1000 ∧
  ∀ (l' : Addr) (H' : Hp), H l' = none → RunsAt CS H' l' (runF (begF s ch)) → Same H H' → Q (.ref l') H'
end LT
set_option Elab.async false
set_option linter.all false
set_option maxRecDepth 100000
/-! Own layer: runs by marks, any function of days. -/
namespace LT
open PySem PySem.Spec PyProof.Rows L2 NdefX
def elseV (g1 g2 : Int → V) (d : Int) : V := .bl (!decide (g1 d = g2 d))
end LT
set_option Elab.async false
set_option linter.all false
set_option maxRecDepth 100000
/-! Own layer: the runs that are true, as days told one way only. -/
namespace LT
open PySem PySem.Spec PyProof.Rows L2 NdefX
theorem ins_nil {d : Int} : ¬ LD.Ins [] d := fun ⟨_, h, _⟩ => nomatch h
end LT
set_option Elab.async false
set_option linter.all false
set_option maxRecDepth 100000
/-! Own layer: days told mark by mark, the last row grown where it ends the day before. -/
namespace LT
open PySem PySem.Spec PyProof.Rows L2 NdefX
end LT
set_option Elab.async false
set_option linter.all false
set_option maxRecDepth 100000
/-! Own layer: texts sorted, one way only. -/
namespace LT
open PySem PySem.Spec PyProof.Rows
def leS (a b : Str) : Prop := a.cps.toList ≤ b.cps.toList
theorem leS_of {a b : Str} (h : (!ltCps b.cps.toList a.cps.toList) = true) : leS a b := by
  rw [ltCps_eq] at h
  unfold leS
  simpa using h
theorem leS_trans {a b c : Str} (h : leS a b) (k : leS b c) : leS a c := List.le_trans h k
theorem leS_anti {a b : Str} (h : leS a b) (k : leS b a) : a = b := by
  have : a.cps.toList = b.cps.toList := List.le_antisymm h k
  obtain ⟨x⟩ := a
  obtain ⟨y⟩ := b
  exact congrArg Str.mk (Array.toList_inj.mp this)
theorem risingS_pw : ∀ {l : List Str} {p : Str}, risingS p l = true → (p :: l).Pairwise leS
  | [], p, _ => List.pairwise_singleton _ _
  | x :: l, p, h => by
    have h : (!ltCps x.cps.toList p.cps.toList && risingS x l) = true := h
    rw [Bool.and_eq_true] at h
    have ih := risingS_pw h.2
    refine List.pairwise_cons.mpr ⟨fun z hz => ?_, ih⟩
    have px := leS_of h.1
    rcases List.mem_cons.mp hz with rfl | hz
    · exact px
    · exact leS_trans px ((List.pairwise_cons.mp ih).1 z hz)
theorem sortedS_pw : ∀ {l : List Str}, sortedS l = true → l.Pairwise leS
  | [], _ => List.Pairwise.nil
  | _ :: _, h => risingS_pw h
theorem sortS_uniq {a b : List Str} (hp : a.Perm b) (ha : sortedS a = true) (hb : sortedS b = true) : a = b :=
  List.Perm.eq_of_pairwise (fun _ _ _ _ => leS_anti) (sortedS_pw ha) (sortedS_pw hb) hp
end LT
set_option Elab.async false
set_option linter.all false
set_option maxRecDepth 100000
set_option maxHeartbeats 1600000
/-! Own layer: what is changed between two known days. -/
namespace LT
open PySem PySem.Spec PyProof.Rows L2 NdefX
theorem elseV_true {g1 g2 : Int → V} {d : Int} : elseV g1 g2 d = .bl true ↔ g1 d ≠ g2 d := by
  unfold elseV
  by_cases h : g1 d = g2 d
  · rw [decide_eq_true h]
    exact ⟨(fun k => by cases k), fun k => absurd h k⟩
  · rw [decide_eq_false h]
    exact ⟨fun _ => h, fun _ => rfl⟩
/-- the days on which two are unlike, told one way only -/
structure IsElse (g1 g2 : Int → V) (rows : List LD.Row) : Prop where
  asc : LD.Asc rows
  ins : ∀ d, LD.Ins rows d ↔ 0 ≤ d ∧ g1 d ≠ g2 d
theorem IsElse.uniq {g1 g2 : Int → V} {r s : List LD.Row} (a : IsElse g1 g2 r) (b : IsElse g1 g2 s) : r = s := LD.asc_uniq a.asc b.asc fun d => (a.ins d).trans (b.ins d).symm
/-- few rows, no day far off -/
structure ElseB (rows : List LD.Row) : Prop where
  len : rows.length ≤ 63
  fi : ∀ r ∈ rows, Sm62 r.1
  la : ∀ r ∈ rows, ∀ e, r.2 = some e → Sm62 e
/-! ### the law's own way: mark by mark -/
structure UInv (g : Int → V) (ms : List Int) (i : Nat) (F : List LD.Row) : Prop where
  asc : LD.Asc F
  top : ∀ b, ms[i]? = some b → ∀ r ∈ F, ∃ j, r.2 = some j ∧ j < b
  ins : ∀ d, LD.Ins F d ↔ 0 ≤ d ∧ (∀ b, ms[i]? = some b → d < b) ∧ g d = .bl true
theorem UInv.nil {g : Int → V} {ms : List Int} (h : ms[0]? = some 0) : UInv g ms 0 [] := ⟨⟨(fun r hr => by cases hr), List.Pairwise.nil⟩, (fun b hb r hr => by cases hr), fun d => ⟨fun k => absurd k ins_nil, fun ⟨d0, k, _⟩ => by
  have := k 0 h
  omega⟩⟩
theorem UInv.done {g1 g2 : Int → V} {ms : List Int} {F : List LD.Row} (h : UInv (elseV g1 g2) ms ms.length F) : IsElse g1 g2 F :=
  ⟨h.asc, fun d => (h.ins d).trans ⟨fun k => ⟨k.1, elseV_true.mp k.2.2⟩, fun k => ⟨k.1, (fun b hb => by rw [List.getElem?_eq_none (Nat.le_refl _)] at hb; cases hb), elseV_true.mpr k.2⟩⟩⟩
/-! ### rows and changes on the heap -/
def RowsR (H : Hp) (us : List Addr) (F : List LD.Row) : Prop := Paired (fun t (r : LD.Row) => H t = some (.tup [.int r.1, knV r.2])) us F
theorem RowsR.mono {H H' : Hp} {us : List Addr} {F : List LD.Row} (h : RowsR H us F) (s : Same H H') : RowsR H' us F := paired_imp (fun _ _ h => s _ _ h) h
theorem RowsR.upd {H : Hp} {us : List Addr} {B : List LD.Row} {F : Addr} {xs : List V} {o : HO} (h : RowsR H us B) (e : H F = some (.lst xs)) : RowsR (L2.upd H F o) us B := paired_imp (fun t p h => by rw [upd_ne (ne_of h e (by intro z; cases z))]; exact h) h
abbrev Chg := Str × List LD.Row
def ChT (CS : Addr) (H : Hp) (c : Addr × Addr) (e : Chg) : Prop := H c.1 = some (.tup [.str e.1, .ref c.2]) ∧ PartsAt CS H c.2 e.2
theorem ChT.mono {CS : Addr} {H H' : Hp} {c : Addr × Addr} {e : Chg} (h : ChT CS H c e) (s : Same H H') : ChT CS H' c e := ⟨s _ _ h.1, h.2.mono s⟩
theorem PartsAt.upd {CS : Addr} {H : Hp} {l F : Addr} {ps : List Part} {xs : List V} {o : HO} (h : PartsAt CS H l ps) (e : H F = some (.lst xs)) (n : l ≠ F) : PartsAt CS (L2.upd H F o) l ps := by
  obtain ⟨ts, a, b⟩ := h
  exact ⟨ts, by rw [upd_ne n]; exact a, paired_imp (fun _ _ h => h.upd e) b⟩
theorem ChT.upd {CS : Addr} {H : Hp} {F : Addr} {c : Addr × Addr} {e : Chg} {xs : List V} {o : HO} (h : ChT CS H c e) (eF : H F = some (.lst xs)) (n : c.2 ≠ F) : ChT CS (L2.upd H F o) c e :=
  ⟨by rw [upd_ne (ne_of h.1 eF (by intro z; cases z))]; exact h.1, h.2.upd eF n⟩
structure ChsAt (CS : Addr) (H : Hp) (T : Addr) (cs : List (Addr × Addr)) (chs : List Chg) : Prop where
  hT : H T = some (.lst ((cs.map (·.1)).map V.ref))
  hc : Paired (ChT CS H) cs chs
theorem ChsAt.mono {CS : Addr} {H H' : Hp} {T : Addr} {cs : List (Addr × Addr)} {chs : List Chg} (h : ChsAt CS H T cs chs) (s : Same H H') : ChsAt CS H' T cs chs := ⟨s _ _ h.hT, paired_imp (fun _ _ h => h.mono s) h.hc⟩
theorem paired_app {α β : Type} {R : α → β → Prop} : ∀ {xs xs' : List α} {ys ys' : List β}, Paired R xs ys → Paired R xs' ys' → Paired R (xs ++ xs') (ys ++ ys')
  | _, _, _, _, .nil, h => h
  | _, _, _, _, .cons a t, h => .cons a (paired_app t h)
theorem paired_in {α β : Type} {R : α → β → Prop} {xs : List α} {ys : List β} (h : Paired R xs ys) {x : α} (hx : x ∈ xs) : ∃ y ∈ ys, R x y := by
  obtain ⟨i, hi⟩ := List.getElem?_of_mem hx
  obtain ⟨y, h1, h2⟩ := paired_get h hi
  exact ⟨y, List.mem_of_getElem? h1, h2⟩
/-! ### rows by marks -/
/-! ### how changes show and compare -/
noncomputable def shCh (e : Chg) : Str := tupleText [reprText e.1, listText (e.2.map fun r => shS r.1 r.2)]
theorem parts_sh {CS : Addr} {H : Hp} {l : Addr} {rows : List LD.Row} (h : PartsAt CS H l rows) (B : ElseB rows) : ShV CS (spSRepr CS) H 1 [l] (.ref l) (listText (rows.map fun r => shS r.1 r.2)) := by
  obtain ⟨xs, el, hx⟩ := h
  refine .lst (as := []) el (by rw [List.length_map, List.length_map, Paired.length hx]) nofun fun i v t hv ht => ?_
  obtain ⟨x, r, rfl, hr, dx, hs⟩ := pick_at hx hv
  rw [List.getElem?_map, hr] at ht
  cases ht
  have hm := List.mem_of_getElem? hr
  exact .own hs fun g => ⟨x, _, _, rfl, ⟨dx, hs⟩, B.fi r hm, B.la r hm, _, rfl, rfl, rfl⟩
def Parts3 (CS : Addr) (H : Hp) (l : Addr) (ps : List Part) : Prop := ∃ xs : List Addr, H l = some (.lst (xs.map V.ref ++ [V.int 3])) ∧ Paired (fun x (p : Part) => StrAt CS H x p.1 p.2) xs ps
theorem Parts3.mono {CS : Addr} {H H' : Hp} {l : Addr} {ps : List Part} (h : Parts3 CS H l ps) (s : Same H H') : Parts3 CS H' l ps := by
  obtain ⟨ts, a, b⟩ := h
  exact ⟨ts, s _ _ a, paired_imp (fun _ _ h => h.mono s) b⟩
def ShChT (CS : Addr) (f : Chg → Str) (H : Hp) (T : Addr) (c : Addr × Addr) (e : Chg) : Prop := ∃ x, H c.1 = some (.tup [.str e.1, .ref c.2]) ∧ ShV CS (spSRepr CS) H 1 [c.2] (.ref c.2) x ∧ f e = tupleText [reprText e.1, x] ∧ c.1 ≠ c.2 ∧ c.2 ≠ T ∧ (reprText e.1).length ≤ sizeLine
theorem ChT.sh {CS : Addr} {H : Hp} {T : Addr} {c : Addr × Addr} {e : Chg} (h : ChT CS H c e) (n : c.2 ≠ T) (B : ElseB e.2) (hz : (reprText e.1).length ≤ 82) : ShChT CS shCh H T c e := by
  refine ⟨_, h.1, parts_sh h.2 B, rfl, fun z => ?_, n, by rw [sizeLine_eq]; omega⟩
  obtain ⟨xs, el, _⟩ := h.2
  have h1 := h.1
  rw [z, el] at h1
  cases h1
end LT
set_option Elab.async false
set_option linter.all false
set_option maxRecDepth 100000
set_option maxHeartbeats 1600000
/-! Own layer: turns as a law finds them; two books where lambdas are made. -/
namespace LT
open PySem PySem.Spec PyProof.Rows L2 NdefX LamX
def RowW (H : Hp) (t : Addr) (r : Run) : Prop := H t = some (.tup [r.1, .int r.2.1, knV r.2.2])
def RowsW (H : Hp) (l : Addr) (rs : List Run) : Prop := ∃ ts : List Addr, H l = some (.lst (ts.map V.ref)) ∧ Paired (RowW H) ts rs
theorem RowsW.mono {H H' : Hp} {l : Addr} {rs : List Run} (h : RowsW H l rs) (s : Same H H') : RowsW H' l rs := by
  obtain ⟨ts, a, b⟩ := h
  exact ⟨ts, s _ _ a, paired_imp (fun _ _ k => s _ _ k) b⟩
/-! ### how turns show -/
end LT
set_option Elab.async false
set_option linter.all false
set_option maxRecDepth 100000
set_option maxHeartbeats 1600000
/-! Own layer: two books (or one) looked at where lambdas are made; lists of entries held against one another. -/
namespace LT
open PySem PySem.Spec PyProof.Rows L2 NdefX LamX
theorem ho_extN {M : List Addr} {H H' : Hp} (e : ExtN H H') : ExtN (Ho M H) (Ho M H') := fun a o h t => ho_in (ho_iff.mp h).1 (e a o (ho_iff.mp h).2 t)
theorem LastOK.extN {H H' : Hp} {la : Addr} {rk : List (Str × Int)} (h : LastOK H la rk) (e : ExtN H H') : LastOK H' la rk := by
  obtain ⟨o, a, b⟩ := h
  refine ⟨o, ?_, b⟩
  cases o with
  | none => exact e _ _ a nofun
  | some x =>
    obtain ⟨t, a1, a2⟩ := a
    exact ⟨t, e _ _ a1 nofun, e _ _ a2 nofun⟩
theorem evT_extN {H H' : Hp} {t : Addr} {x : Evt} (e : ExtN H H') (h : EvT H t x) : EvT H' t x := e t (.tup [.str (kindS x.mv), .int x.kn, .str x.who, .int x.day, x.w]) h nofun
theorem ClAt.extN {CB CH : Addr} {H H' Hi Hi' : Hp} {c : Cl} (h : ClAt CB CH H Hi c) (e : ExtN H H') (ei : ExtN Hi Hi') : ClAt CB CH H' Hi' c := by
  obtain ⟨ts, e1, e2⟩ := h.ev
  exact ⟨e _ _ h.hP nofun, ⟨ei _ _ h.hI.hn nofun, ei _ _ h.hI.hr nofun, ei _ _ h.hI.hl nofun⟩, h.hG, h.k0, h.la.extN ei, ⟨ts, e _ _ e1 nofun, paired_imp (fun _ _ k => evT_extN ei k) e2⟩, h.bk.extN e, h.kl, h.nPE, h.nPf, h.nEf⟩
theorem pot_extN {H H' : Hp} {p : Addr} (h : Pot H p) (e : ExtN H H') : Pot H' p := by
  obtain ⟨x, y, e1, e2⟩ := h
  exact ⟨x, y, e _ _ e1 nofun, e2⟩
theorem Two.extN {CB CH : Addr} {H H' : Hp} {p : Addr} {c d : Cl} (h : Two CB CH H p c d) (e : ExtN H H') : Two CB CH H' p c d :=
  ⟨pot_extN h.pot e, h.c1.extN e (ho_extN e), h.d1.extN e (ho_extN e), h.pc, h.pd, h.cd⟩
theorem One.extN {CB CH : Addr} {H H' : Hp} {p : Addr} {c : Cl} (h : One CB CH H p c) (e : ExtN H H') : One CB CH H' p c := by
  cases h with
  | mk a b c1 => exact ⟨pot_extN a e, b.extN e (ho_extN e), c1⟩
theorem ClAt.pl {CB CH : Addr} {H Hi : Hp} {c : Cl} (h : ClAt CB CH H Hi c) : ∀ a ∈ c.m, ∀ o, H a = some o → Plain o := by
  intro a ha o e
  rcases List.mem_cons.mp ha with rfl | ha
  · rw [h.hP] at e
    cases e
    exact plain_dK
  rcases List.mem_cons.mp ha with rfl | ha
  · obtain ⟨ts, e1, _⟩ := h.ev
    rw [e1] at e
    cases e
    exact plain_lst
  · exact h.bk.pl a ha o e
theorem pot_pl {H : Hp} {p : Addr} (h : Pot H p) : ∀ o, H p = some o → Plain o := fun o e => by
  obtain ⟨x, y, e1, _⟩ := h
  rw [e1] at e
  cases e
  exact plain_lst
/-! ### lists of entries -/
def EntA (H : Hp) (l : Addr) (L : List Evt) : Prop := ∃ ts : List Addr, H l = some (.lst (ts.map V.ref)) ∧ Paired (EvT H) ts L
theorem EntA.extN {H H' : Hp} {l : Addr} {L : List Evt} (h : EntA H l L) (e : ExtN H H') : EntA H' l L := by
  obtain ⟨ts, a, b⟩ := h
  exact ⟨ts, e _ _ a nofun, paired_imp (fun _ _ k => evT_extN e k) b⟩
theorem EntA.updL {H : Hp} {l G : Addr} {L : List Evt} {zs : List V} {o : HO} (h : EntA H l L) (eG : H G = some (.lst zs)) (n : l ≠ G) : EntA (L2.upd H G o) l L := by
  obtain ⟨ts, a, b⟩ := h
  exact ⟨ts, by rw [upd_ne n]; exact a, paired_imp (fun t x k => by
    show L2.upd H G o t = _
    rw [upd_ne (ne_of (show H t = some (.tup _) from k) eG (by intro z; cases z))]
    exact k) b⟩
structure EntL (H0 H : Hp) (G : Addr) (Ls : List (List Evt)) : Prop where
  n : H0 G = none
  e : ExtN H0 H
  g : ∃ ls : List Addr, H G = some (.lst (ls.map V.ref)) ∧ Paired (EntA H) ls Ls ∧ ∀ l ∈ ls, l ≠ G
theorem EntL.nil {H0 : Hp} {G : Addr} (n : H0 G = none) : EntL H0 (L2.upd H0 G (.lst [])) G [] := ⟨n, ExtN.of (same_upd n), [], upd_same, .nil, nofun⟩
theorem EntL.push {H0 H H' : Hp} {G l : Addr} {Ls : List (List Evt)} {L : List Evt} (h : EntL H0 H G Ls) (e : ExtN H H') (new : NewN H l) (hl : EntA H' l L) : ∃ zs : List V, H' G = some (.lst zs) ∧ zs.length = Ls.length ∧ EntL H0 (L2.upd H' G (.lst (zs ++ [V.ref l]))) G (Ls ++ [L]) := by
  obtain ⟨ls, eG, hls, hn⟩ := h.g
  have eG' := e _ _ eG nofun
  have nlG : l ≠ G := fun z => by
    obtain ⟨ps, k⟩ := new _ (by rw [z]; exact eG)
    cases k
  refine ⟨ls.map V.ref, eG', by rw [List.length_map, Paired.length hls], h.n, fun b o hb t => ?_, ls ++ [l], by rw [upd_same, List.map_append]; rfl, ?_, fun x hx => ?_⟩
  · rw [upd_ne (ne_of_none hb h.n)]
    exact e b o (h.e b o hb t) t
  · refine paired_snoc' ?_ (hl.updL eG' nlG)
    have key : ∀ {ls : List Addr} {Ls : List (List Evt)}, Paired (EntA H) ls Ls → (∀ l ∈ ls, l ≠ G) → Paired (EntA (L2.upd H' G (.lst (ls.map V.ref ++ [V.ref l])))) ls Ls := by
      intro ls' Ls' h1 h2
      generalize HO.lst (ls'.map V.ref ++ [V.ref l]) = o
      induction h1 with
      | nil => exact .nil
      | cons a _ ih => exact .cons ((a.extN e).updL eG' (h2 _ List.mem_cons_self)) (ih fun x hx => h2 x (List.mem_cons_of_mem _ hx))
    exact key hls hn
  · rcases List.mem_append.mp hx with hx | hx
    · exact hn x hx
    · rw [List.mem_singleton.mp hx]
      exact nlG
theorem EntL.ext {H0 H H' : Hp} {G : Addr} {Ls : List (List Evt)} (h : EntL H0 H G Ls) (e : ExtN H H') : EntL H0 H' G Ls := by
  obtain ⟨ls, eG, hls, hn⟩ := h.g
  exact ⟨h.n, h.e.trans e, ls, e _ _ eG nofun, paired_imp (fun _ _ k => k.extN e) hls, hn⟩
/-! ### as plain data -/
theorem refs_not_pot {ts : List Addr} (a b : Int) : (HO.lst (ts.map V.ref)) ≠ .lst [.int a, .int b] := by
  intro h
  have h := HO.lst.inj h
  match ts, h with
  | [], h => cases h
  | t :: r, h => cases (List.cons.inj h).1
theorem EntA.pot {H H' : Hp} {p l : Addr} {L : List Evt} (h : EntA H l L) (hp : Pot H p) (s : SameB p H H') : EntA H' l L := by
  obtain ⟨ts, a, b⟩ := h
  refine ⟨ts, s _ _ (ne_of_pot hp a refs_not_pot) a, paired_imp (fun t x k => ?_) b⟩
  have k : H t = some (.tup _) := k
  exact s _ _ (ne_of_pot hp k) k
/-- what a list of lists of entries holds -/
def EntsL (H : Hp) (G : Addr) (Ls : List (List Evt)) : Prop := ∃ ls : List Addr, H G = some (.lst (ls.map V.ref)) ∧ Paired (EntA H) ls Ls
theorem EntsL.extN {H H' : Hp} {G : Addr} {Ls : List (List Evt)} (h : EntsL H G Ls) (e : ExtN H H') : EntsL H' G Ls := by
  obtain ⟨ls, a, b⟩ := h
  exact ⟨ls, e _ _ a nofun, paired_imp (fun _ _ k => k.extN e) b⟩
theorem EntsL.pot {H H' : Hp} {p G : Addr} {Ls : List (List Evt)} (h : EntsL H G Ls) (hp : Pot H p) (s : SameB p H H') : EntsL H' G Ls := by
  obtain ⟨ls, a, b⟩ := h
  exact ⟨ls, s _ _ (ne_of_pot hp a refs_not_pot) a, paired_imp (fun _ _ k => k.pot hp s) b⟩
end LT
set_option Elab.async false
set_option linter.all false
set_option maxRecDepth 100000
set_option maxHeartbeats 1600000
/-! Own layer: the first unfed day, one only; promises of the law that looks at it. -/
namespace LT
open PySem PySem.Spec PyProof.Rows L2 NdefX
def UnfO (s : Shop) : Option (Int × Int) → Prop
  | none => ∀ d, 0 ≤ d → 0 ≤ s.left d
  | some (d, n) => 0 ≤ d ∧ d < 10 ^ 120 ∧ s.left d = -n ∧ 0 < n ∧ Fed s d
def UnfAt (H : Hp) (v : V) : Option (Int × Int) → Prop
  | none => v = .non
  | some (d, n) => ∃ t, v = .ref t ∧ H t = some (.tup [.int d, .int n])
theorem UnfAt.mono {H H' : Hp} {v : V} {o : Option (Int × Int)} (h : UnfAt H v o) (s : Same H H') : UnfAt H' v o := by
  cases o with
  | none => exact h
  | some p =>
    obtain ⟨t, e, h⟩ := h
    exact ⟨t, e, s _ _ h⟩
theorem UnfedV.o {s : Shop} {H H' : Hp} {v : V} (h : UnfedV s H H' v) : ∃ o, UnfO s o ∧ UnfAt H' v o := by
  rcases h with ⟨e, h⟩ | ⟨t, d, n, e, _, h1, h2, h3, h4, h5, h6⟩
  · exact ⟨none, h, e⟩
  · exact ⟨some (d, n), ⟨h2, h3, h4, h5, h6⟩, t, e, h1⟩
theorem UnfO.uniq {s : Shop} {o1 o2 : Option (Int × Int)} (a : UnfO s o1) (b : UnfO s o2) : o1 = o2 := by
  cases o1 with
  | none =>
    cases o2 with
    | none => rfl
    | some q =>
      obtain ⟨b1, b2, b3, b4, b5⟩ := b
      have := a q.1 b1
      omega
  | some p =>
    obtain ⟨a1, a2, a3, a4, a5⟩ := a
    cases o2 with
    | none =>
      have := b p.1 a1
      omega
    | some q =>
      obtain ⟨b1, b2, b3, b4, b5⟩ := b
      obtain ⟨d, n⟩ := p
      obtain ⟨e, m⟩ := q
      simp only at a1 a2 a3 a4 a5 b1 b2 b3 b4 b5
      have e1 : d = e := by
        by_cases h : d < e
        · have := b5 d a1 h
          omega
        · by_cases h' : e < d
          · have := a5 e b1 h'
            omega
          · omega
      subst e1
      have : n = m := by omega
      rw [this]
def unfD : Option (Int × Int) → PyData
  | none => .none
  | some (d, n) => .tuple [.int d, .int n]
theorem UnfAt.dp {K : PySem.W.Frag} {H : Hp} {v : V} {o : Option (Int × Int)} (h : UnfAt H v o) : Dp K H v (unfD o) := by
  cases o with
  | none =>
    rw [show v = .non from h]
    exact .non
  | some p =>
    obtain ⟨t, rfl, h⟩ := h
    exact .tup (SqT.of h) (.cons (.int _) (.cons (.int _) .nil))
end LT
set_option Elab.async false
set_option linter.all false
set_option maxRecDepth 100000
set_option maxHeartbeats 1600000
/-! Own layer: what more stores, and one head more, do to what is left. -/
namespace LT
open PySem PySem.Spec PyProof.Rows L2 NdefX LamX
/-! ### told anew, the same holds -/
def SameHd (es es' : List Evt) : Prop := ∀ mv z kn d, heldE es' mv z kn d = heldE es mv z kn d
/-! ### shops alike -/
theorem SameHd.pl {es es' : List Evt} (h : SameHd es es') (z : Str) (kn : Option Int) (d : Int) : plE es' z kn d = plE es z kn d := by
  unfold plE
  rw [show heldE es' true z kn = heldE es true z kn from funext fun x => h true z kn x]
theorem land_held (s : Shop) (d : Int) : s.land d = numI (heldE s.es false s.z s.kn d) := by
  unfold Shop.land Shop.landW heldE
  cases heldO s.es false s.z s.kn d with
  | none => rfl
  | some w => rfl
theorem shop_left {s s' : Shop} (hl : ∀ d, 0 ≤ d → s'.land d = s.land d) (hm : ∀ d, 0 ≤ d → s'.many d = s.many d) (hR : s'.R = s.R) (d : Int) : s'.left d = s.left d := by
  unfold Shop.left leftI
  refine sumN_congr fun i _ => ?_
  unfold Shop.net
  rw [hl _ (Int.natCast_nonneg _), hm _ (Int.natCast_nonneg _), hR]
theorem SameHd.left {es es' : List Evt} (h : SameHd es es') (rk : List (Str × Int)) (z : Str) (kn : Option Int) (R : Int) (d : Int) : (shopOf es' rk z kn R).left d = (shopOf es rk z kn R).left d := by
  refine shop_left (s := shopOf es rk z kn R) (s' := shopOf es' rk z kn R) (fun d _ => ?_) (fun d _ => ?_) rfl d
  · rw [land_held, land_held]
    show numI (heldE es' false z kn d) = numI (heldE es false z kn d)
    rw [h]
  · show manyI es' _ z kn d = manyI es _ z kn d
    unfold manyI
    congr 2
    exact List.filter_congr fun k _ => by rw [h.pl]
/-! ### one head more -/
/-! ### unfed, wanted -/
theorem UnfO.le {s s' : Shop} {o o' : Option (Int × Int)} (h : ∀ d, 0 ≤ d → s'.left d ≤ s.left d) (a : UnfO s o) (b : UnfO s' o') : o = none ∨ ∃ p p', o = some p ∧ o' = some p' ∧ p'.1 ≤ p.1 := by
  cases o with
  | none => exact .inl rfl
  | some p =>
    obtain ⟨d, n⟩ := p
    obtain ⟨a1, a2, a3, a4, a5⟩ := a
    have := h d a1
    cases o' with
    | none =>
      have := b d a1
      omega
    | some p' =>
      obtain ⟨d', n'⟩ := p'
      obtain ⟨b1, b2, b3, b4, b5⟩ := b
      refine .inr ⟨_, _, rfl, rfl, ?_⟩
      show d' ≤ d
      refine Classical.byContradiction fun hn => ?_
      have := b5 d a1 (by omega)
      omega
theorem UnfO.congr {s s' : Shop} {o : Option (Int × Int)} (h : ∀ d, s'.left d = s.left d) (a : UnfO s o) : UnfO s' o := by
  cases o with
  | none => exact fun d hd => by rw [h]; exact a d hd
  | some p =>
    obtain ⟨a1, a2, a3, a4, a5⟩ := a
    exact ⟨a1, a2, by rw [h]; exact a3, a4, fun x x0 x1 => by rw [h]; exact a5 x x0 x1⟩
end LT
set_option Elab.async false
set_option linter.all false
set_option maxRecDepth 100000
set_option maxHeartbeats 1600000
/-! Own layer: a plan and its book beside a pot, with no list of what was told. -/
namespace LT
open PySem PySem.Spec PyProof.Rows L2 NdefX LamX
structure PbD where
  P : Addr
  b : Addr
  la : Addr
  D : PlanD
  kn : Int
  es : List Evt
  fp : List Addr
def PbD.m (c : PbD) : List Addr := c.P :: c.fp
structure Pb (CB CH : Addr) (H : Hp) (p : Addr) (c : PbD) : Prop where
  pot : Pot H p
  hP : H c.P = some (.dK (planK c.D c.kn c.la))
  hI : PlanI (Ho (p :: c.m) H) c.D
  hG : PlanG c.D
  k0 : 0 ≤ c.kn
  la : LastOK (Ho (p :: c.m) H) c.la c.D.rk
  bk : Bk CB CH H c.b c.D.rk c.es c.fp
  kl : ∀ e ∈ c.es, e.kn ≤ c.kn
  wl : ∀ e ∈ c.es, ∀ n, e.w = .int n → n < 10 ^ 55
  pP : p ≠ c.P
  pf : p ∉ c.fp
  Pf : c.P ∉ c.fp
theorem Pb.ex {CB CH : Addr} {H : Hp} {p : Addr} {c : PbD} (h : Pb CB CH H p c) : ∀ a ∈ p :: c.m, ∃ o, H a = some o := by
  intro a ha
  rcases List.mem_cons.mp ha with rfl | ha
  · obtain ⟨x, y, e, _⟩ := h.pot
    exact ⟨_, e⟩
  rcases List.mem_cons.mp ha with rfl | ha
  · exact ⟨_, h.hP⟩
  · exact h.bk.ex a ha
theorem Pb.look {CB CH : Addr} {H H' : Hp} {p : Addr} {c : PbD} (h : Pb CB CH H p c) (hp : Pot H' p) (s : SameB p H H') : Pb CB CH H' p c := by
  have sl : SameL [p] H H' := SameL.ofB List.mem_cons_self s
  have si : Same (Ho (p :: c.m) H) (Ho (p :: c.m) H') := ho_step sl (fun a ha => by rw [List.mem_singleton.mp ha]; exact List.mem_cons_self) fun a ha => .inl ha
  exact ⟨hp, s _ _ (Ne.symm h.pP) h.hP, h.hI.mono si, h.hG, h.k0, h.la.mono si, h.bk.by fun x hx o e => s _ _ (fun z => h.pf (by rw [← z]; exact hx)) e, h.kl, h.wl, h.pP, h.pf, h.Pf⟩
theorem Pb.mono {CB CH : Addr} {H H' : Hp} {p : Addr} {c : PbD} (h : Pb CB CH H p c) (s : Same H H') : Pb CB CH H' p c := h.look (h.pot.mono s) (SameB.of s)
theorem Pb.extN {CB CH : Addr} {H H' : Hp} {p : Addr} {c : PbD} (h : Pb CB CH H p c) (e : ExtN H H') : Pb CB CH H' p c :=
  ⟨pot_extN h.pot e, e _ _ h.hP nofun, ⟨ho_extN e _ _ h.hI.hn nofun, ho_extN e _ _ h.hI.hr nofun, ho_extN e _ _ h.hI.hl nofun⟩, h.hG, h.k0, h.la.extN (ho_extN e), h.bk.extN e, h.kl, h.wl, h.pP, h.pf, h.Pf⟩
theorem Pb.pl {CB CH : Addr} {H : Hp} {p : Addr} {c : PbD} (h : Pb CB CH H p c) : ∀ a ∈ p :: c.m, ∀ o, H a = some o → Plain o := by
  intro a ha o e
  rcases List.mem_cons.mp ha with rfl | ha
  · exact pot_pl h.pot o e
  rcases List.mem_cons.mp ha with rfl | ha
  · rw [h.hP] at e
    cases e
    exact plain_dK
  · exact h.bk.pl a ha o e
theorem Pb.hn {CB CH : Addr} {H : Hp} {p : Addr} {c : PbD} (h : Pb CB CH H p c) : H c.D.n = some (.lst (c.D.zs.map V.str)) := ho_le _ _ h.hI.hn
theorem Pb.hl {CB CH : Addr} {H : Hp} {p : Addr} {c : PbD} (h : Pb CB CH H p c) : H c.D.l = some (.lst (c.D.ls.map V.str)) := ho_le _ _ h.hI.hl
theorem Pb.hr {CB CH : Addr} {H : Hp} {p : Addr} {c : PbD} (h : Pb CB CH H p c) : H c.D.r = some (.dK (sd c.D.rk)) := ho_le _ _ h.hI.hr
/-- an event made of the plan and told to the book -/
theorem Pb.told {CB CH : Addr} {H H1 H3 : Hp} {p la' : Addr} {c : PbD} {e : Evt} {fp' : List Addr} (h : Pb CB CH H p c) (s1 : SameL [p, c.P] H H1) (hla : LastAt (new H H1) la' (some e)) (ok : EvOK c.D.rk e) (hP1 : H1 c.P = some (.dK (planK c.D e.kn la'))) (hp1 : Pot H1 p) (kle : c.kn ≤ e.kn) (sm : ∀ n, e.w = .int n → n < 10 ^ 55)
    (bk3 : Bk CB CH H3 c.b c.D.rk (c.es ++ [e]) fp') (fr : ∀ a ∈ fp', a ∈ c.fp ∨ H1 a = none) (s3 : SameL c.fp H1 H3) :
    Pb CB CH H3 p { c with la := la', kn := e.kn, es := c.es ++ [e], fp := fp' } ∧ SameL (p :: c.m) H H3 ∧ (∀ a ∈ fp', a ∈ p :: c.m ∨ H a = none) := by
  have hp3 : Pot H3 p := by
    obtain ⟨x, y, e1, e2⟩ := hp1
    exact ⟨x, y, s3 _ _ h.pf e1, e2⟩
  have s03 : SameL (p :: c.m) H H3 := fun a o n e => by
    have n1 : a ∉ [p, c.P] := fun hm => n (by
      rcases List.mem_cons.mp hm with z | z
      · rw [z]; exact List.mem_cons_self
      · rw [List.mem_singleton.mp z]; exact List.mem_cons_of_mem _ List.mem_cons_self)
    exact s3 a o (fun hm => n (List.mem_cons_of_mem _ (List.mem_cons_of_mem _ hm))) (s1 a o n1 e)
  have fr0 : ∀ a ∈ fp', a ∈ p :: c.m ∨ H a = none := fun a ha => by
    rcases fr a ha with z | z
    · exact .inl (List.mem_cons_of_mem _ (List.mem_cons_of_mem _ z))
    · by_cases hm : a ∈ [p, c.P]
      · rcases List.mem_cons.mp hm with y | y
        · exact .inl (by rw [y]; exact List.mem_cons_self)
        · exact .inl (by rw [List.mem_singleton.mp y]; exact List.mem_cons_of_mem _ List.mem_cons_self)
      · exact .inr (s1.free z hm)
  have nf : ∀ {a : Addr} {o : HO}, (a = p ∨ a = c.P) → H1 a = some o → a ∉ fp' := fun {a o} ha e hm => by
    rcases fr a hm with z | z
    · rcases ha with rfl | rfl
      · exact h.pf z
      · exact h.Pf z
    · rw [e] at z
      cases z
  have pf' : p ∉ fp' := by
    obtain ⟨x, y, e1, _⟩ := hp1
    exact nf (.inl rfl) e1
  have Pf' : c.P ∉ fp' := nf (.inr rfl) hP1
  have sI : Same (Ho (p :: c.m) H) (Ho (p :: PbD.m { c with la := la', kn := e.kn, es := c.es ++ [e], fp := fp' }) H3) := ho_step s03 (fun a ha => ha) fun a ha => by
    rcases List.mem_cons.mp ha with z | z
    · exact .inl (by rw [z]; exact List.mem_cons_self)
    rcases List.mem_cons.mp z with z | z
    · exact .inl (by rw [z]; exact List.mem_cons_of_mem _ List.mem_cons_self)
    · exact fr0 a z
  have sN : Same (new H H1) (Ho (p :: PbD.m { c with la := la', kn := e.kn, es := c.es ++ [e], fp := fp' }) H3) := fun a o e => by
    obtain ⟨e0, e1⟩ := new_iff.mp e
    have no : ∀ x ∈ p :: c.m, a ≠ x := fun x hx z => by
      obtain ⟨o', ho⟩ := h.ex x hx
      rw [← z, e0] at ho
      cases ho
    refine ho_in (fun hm => ?_) (s3 a o (fun hm => no a (List.mem_cons_of_mem _ (List.mem_cons_of_mem _ hm)) rfl) e1)
    rcases List.mem_cons.mp hm with z | z
    · exact no p List.mem_cons_self z
    rcases List.mem_cons.mp z with z | z
    · exact no c.P (List.mem_cons_of_mem _ List.mem_cons_self) z
    · rcases fr a z with y | y
      · exact no a (List.mem_cons_of_mem _ (List.mem_cons_of_mem _ y)) rfl
      · rw [e1] at y
        cases y
  refine ⟨⟨hp3, s3 _ _ h.Pf hP1, h.hI.mono sI, h.hG, Int.le_trans h.k0 kle, ⟨some e, hla.mono sN, fun x hx => by cases hx; exact ok⟩, bk3, fun x hx => ?_, fun x hx => ?_, h.pP, pf', Pf'⟩, s03, fr0⟩
  · rcases List.mem_append.mp hx with hx | hx
    · exact Int.le_trans (h.kl x hx) kle
    · rw [List.mem_singleton.mp hx]
      exact Int.le_refl _
  · rcases List.mem_append.mp hx with hx | hx
    · exact h.wl x hx
    · rw [List.mem_singleton.mp hx]
      exact sm
theorem Pb.land {CB CH : Addr} {H : Hp} {p : Addr} {c : PbD} (h : Pb CB CH H p c) (z : Str) (R d : Int) : (shopOf c.es c.D.rk z none R).land d < 10 ^ 55 := by
  rw [land_held]
  show numI (heldE c.es false z none d) < _
  unfold heldE
  cases e : heldO c.es false z none d with
  | none => show (0 : Int) < 10 ^ 55; decide
  | some w =>
    obtain ⟨x, hx, _, hw⟩ := heldO_mem e
    show numI w < _
    rw [← hw]
    cases hv : x.w with
    | int n => exact h.wl x hx n hv
    | _ => show (0 : Int) < 10 ^ 55; decide
/-! ### what a book is made of -/
def OwnO (o : HO) : Prop := (∃ C d fs, o = .ins C d fs) ∨ ∃ r, o = .dK r
theorem HistAt.own {C : Addr} {H : Hp} {a : HA} (h : HistAt C H a) : ∀ c ∈ a.fp, ∀ o, H c = some o → OwnO o := by
  intro c hc o e
  rcases List.mem_cons.mp hc with rfl | hc
  · rw [h.ix] at e
    cases e
    exact .inl ⟨_, _, _, rfl⟩
  rcases List.mem_cons.mp hc with rfl | hc
  · rw [h.bd] at e
    cases e
    exact .inr ⟨_, rfl⟩
  obtain ⟨p, hp, rfl⟩ := List.mem_map.mp hc
  obtain ⟨i, hi⟩ := List.getElem?_of_mem hp
  obtain ⟨e', _, _, h2⟩ := paired_get h.ta hi
  rw [h2] at e
  cases e
  exact .inr ⟨_, rfl⟩
theorem Bk.own {CB CH : Addr} {H : Hp} {b : Addr} {rk : List (Str × Int)} {es : List Evt} {fp : List Addr} (k : Bk CB CH H b rk es fp) : ∀ c ∈ fp, ∀ o, H c = some o → OwnO o := by
  obtain ⟨B, rfl, rfl, rfl, rfl, h, _⟩ := k
  intro c hc o e
  rcases List.mem_cons.mp hc with rfl | hc
  · rw [h.ix] at e
    cases e
    exact .inl ⟨_, _, _, rfl⟩
  rcases List.mem_cons.mp hc with rfl | hc
  · rw [h.rd] at e
    cases e
    exact .inr ⟨_, rfl⟩
  rcases List.mem_cons.mp hc with rfl | hc
  · rw [h.md] at e
    cases e
    exact .inr ⟨_, rfl⟩
  rcases List.mem_cons.mp hc with rfl | hc
  · rw [h.ldd] at e
    cases e
    exact .inr ⟨_, rfl⟩
  rcases List.mem_append.mp hc with hc | hc
  · obtain ⟨x, hx, hc⟩ := hsfp_mem.mp hc
    exact (h.hm x hx).own c hc o e
  · obtain ⟨x, hx, hc⟩ := hsfp_mem.mp hc
    exact (h.hl x hx).own c hc o e
/-! ### all but tables and the pot -/
def ExtP (p : Addr) (H H' : Hp) : Prop := ∀ a o, a ≠ p → H a = some o → (∀ ps, o ≠ .tbl ps) → H' a = some o
theorem ExtP.trans {p : Addr} {H H1 H2 : Hp} (a : ExtP p H H1) (b : ExtP p H1 H2) : ExtP p H H2 := fun x o n h t => b x o n (a x o n h t) t
theorem ExtP.L {p : Addr} {fp : List Addr} {H H1 H2 : Hp} (e : ExtP p H H1) (n : ∀ c ∈ fp, NewN H c) (s : SameL fp H1 H2) : ExtP p H H2 := fun c o np h t => s c o (fun m => by
  obtain ⟨ps, z⟩ := n c m o h
  exact t ps z) (e c o np h t)
end LT
set_option Elab.async false
set_option linter.all false
set_option maxRecDepth 100000
namespace K80
open PySem PySem.Spec PyProof.Rows L2 LT NdefX
def topS (i : Nat) : Stmt := PySem.Challenge.pw_lightturns_k80_stores_by_names.main.body.getD i (.Pass ⟨0, 0, 0, 0⟩)
abbrev s_is_name : Stmt := topS 18
abbrev s_is_whole : Stmt := topS 20
abbrev s_is_from : Stmt := topS 21
abbrev s_is_within : Stmt := topS 22
abbrev s_is_day : Stmt := topS 23
abbrev s_parts_for : Stmt := topS 24
abbrev s_Boat___init__ : Stmt := inClass (topS 27) 0
abbrev s_Boat_seats : Stmt := inClass (topS 27) 1
abbrev s_Boat_carries : Stmt := inClass (topS 27) 2
abbrev s_Boat_man : Stmt := inClass (topS 27) 3
abbrev s_fewest : Stmt := topS 28
abbrev s_room_of : Stmt := topS 29
abbrev s_weight_out : Stmt := topS 30
abbrev s_check_wanted : Stmt := topS 31
abbrev s_are_stores : Stmt := topS 32
abbrev s_is_place : Stmt := topS 35
abbrev s_check_day : Stmt := topS 37
abbrev s_check_known : Stmt := topS 38
abbrev s_check_days : Stmt := topS 39
abbrev s_check_light : Stmt := topS 40
abbrev s_check_place : Stmt := topS 41
abbrev s_check_number : Stmt := topS 42
abbrev s_Stretch___init__ : Stmt := inClass (topS 44) 0
abbrev s_Stretch_first : Stmt := inClass (topS 44) 1
abbrev s_Stretch_last : Stmt := inClass (topS 44) 2
abbrev s_Stretch_has : Stmt := inClass (topS 44) 3
abbrev s_Stretch___repr__ : Stmt := inClass (topS 44) 5
abbrev s_earlier_end : Stmt := topS 45
abbrev s_runs_of : Stmt := topS 47
abbrev s_History___init__ : Stmt := inClass (topS 49) 0
abbrev s_History_note : Stmt := inClass (topS 49) 1
abbrev s_History_told_last : Stmt := inClass (topS 49) 3
abbrev s_History_holding : Stmt := inClass (topS 49) 4
abbrev s_Book___init__ : Stmt := inClass (topS 54) 0
abbrev s_Book_ranks : Stmt := inClass (topS 54) 1
abbrev s_Book_tell : Stmt := inClass (topS 54) 2
abbrev s_Book_land : Stmt := inClass (topS 54) 3
abbrev s_Book_where : Stmt := inClass (topS 54) 5
abbrev s_Book_landed : Stmt := inClass (topS 54) 6
abbrev s_Book_moves_known : Stmt := inClass (topS 54) 7
abbrev s_Book_landings_known : Stmt := inClass (topS 54) 8
abbrev s_check_keeper : Stmt := topS 55
abbrev s_check_not_early : Stmt := topS 56
abbrev s_are_ranks : Stmt := topS 57
abbrev s_turns : Stmt := topS 59
abbrev s_came : Stmt := topS 60
abbrev s_went : Stmt := topS 61
abbrev s_names_at : Stmt := topS 62
abbrev s_names_before : Stmt := topS 63
abbrev s_heads : Stmt := topS 65
abbrev s_put_steps : Stmt := topS 66
abbrev s_left_over : Stmt := topS 67
abbrev s_unfed : Stmt := topS 68
abbrev s_weight_wanted : Stmt := topS 69
abbrev s_landing : Stmt := topS 70
abbrev s_supplies : Stmt := topS 71
abbrev s_cut_at : Stmt := topS 72
abbrev s_left_on : Stmt := topS 73
abbrev s__law_pot : Stmt := topS 75
abbrev s__law_take : Stmt := topS 76
abbrev s__law_far : Stmt := topS 77
abbrev s__law_names : Stmt := topS 78
abbrev s__law_plan : Stmt := topS 79
abbrev s__law_worth : Stmt := topS 80
abbrev s__law_event : Stmt := topS 81
abbrev s__law_tell : Stmt := topS 82
abbrev s__law_looks_right : Stmt := topS 83
abbrev s_law : Stmt := topS 84
/-- all that the top has left -/
structure All (K : PySem.W.Frag) (P : Program) (mg : Str → Option Value) : Type where
  T : Tx mg
  t_SMALL_LETTERS : Tok
  g_SMALL_LETTERS : mg "SMALL_LETTERS" = some (.str (Str.ofString "abcdefghijklmnopqrstuvwxyz") t_SMALL_LETTERS)
  t_LONGEST_NAME : Tok
  g_LONGEST_NAME : mg "LONGEST_NAME" = some (.int (8) t_LONGEST_NAME)
  t_MOST_THINGS : Tok
  g_MOST_THINGS : mg "MOST_THINGS" = some (.int (8) t_MOST_THINGS)
  t_ASHORE : Tok
  g_ASHORE : mg "ASHORE" = some (.str (Str.ofString "") t_ASHORE)
  t_MOST_KEEPERS : Tok
  g_MOST_KEEPERS : mg "MOST_KEEPERS" = some (.int (30) t_MOST_KEEPERS)
  t_HIGHEST_RANK : Tok
  g_HIGHEST_RANK : mg "HIGHEST_RANK" = some (.int (1) t_HIGHEST_RANK)
  t_LOWEST_RANK : Tok
  g_LOWEST_RANK : mg "LOWEST_RANK" = some (.int (9) t_LOWEST_RANK)
  C_Boat : Addr
  Z_Boat : ClF K mg "Boat" C_Boat
  n_Boat_many_seats : PySem.W.findIn K (.ref C_Boat) "many_seats" = some none
  n_Boat_most_weight : PySem.W.findIn K (.ref C_Boat) "most_weight" = some none
  n_Boat_man_weight : PySem.W.findIn K (.ref C_Boat) "man_weight" = some none
  C_Stretch : Addr
  Z_Stretch : ClF K mg "Stretch" C_Stretch
  n_Stretch_first_day : PySem.W.findIn K (.ref C_Stretch) "first_day" = some none
  n_Stretch_last_day : PySem.W.findIn K (.ref C_Stretch) "last_day" = some none
  C_History : Addr
  Z_History : ClF K mg "History" C_History
  n_History_by_day : PySem.W.findIn K (.ref C_History) "by_day" = some none
  C_Book : Addr
  Z_Book : ClF K mg "Book" C_Book
  n_Book_rank_of : PySem.W.findIn K (.ref C_Book) "rank_of" = some none
  n_Book_moves : PySem.W.findIn K (.ref C_Book) "moves" = some none
  n_Book_landings : PySem.W.findIn K (.ref C_Book) "landings" = some none
  n_Book_latest_known : PySem.W.findIn K (.ref C_Book) "latest_known" = some none
  f_Boat___init__ : Addr
  d_Boat___init__ : FuncData
  h_Boat___init__ : Mth K C_Boat "__init__" "Boat.__init__" ["self", "seats", "carries", "man"] s_Boat___init__ f_Boat___init__ d_Boat___init__
  M_Boat : Mk K C_Boat f_Boat___init__
  f_Boat_seats : Addr
  d_Boat_seats : FuncData
  h_Boat_seats : Mth K C_Boat "seats" "Boat.seats" ["self"] s_Boat_seats f_Boat_seats d_Boat_seats
  f_Boat_carries : Addr
  d_Boat_carries : FuncData
  h_Boat_carries : Mth K C_Boat "carries" "Boat.carries" ["self"] s_Boat_carries f_Boat_carries d_Boat_carries
  f_Boat_man : Addr
  d_Boat_man : FuncData
  h_Boat_man : Mth K C_Boat "man" "Boat.man" ["self"] s_Boat_man f_Boat_man d_Boat_man
  f_Stretch_first : Addr
  d_Stretch_first : FuncData
  h_Stretch_first : Mth K C_Stretch "first" "Stretch.first" ["self"] s_Stretch_first f_Stretch_first d_Stretch_first
  f_Stretch_last : Addr
  d_Stretch_last : FuncData
  h_Stretch_last : Mth K C_Stretch "last" "Stretch.last" ["self"] s_Stretch_last f_Stretch_last d_Stretch_last
  f_Stretch_has : Addr
  d_Stretch_has : FuncData
  h_Stretch_has : Mth K C_Stretch "has" "Stretch.has" ["self", "day"] s_Stretch_has f_Stretch_has d_Stretch_has
  f_Stretch___repr__ : Addr
  d_Stretch___repr__ : FuncData
  h_Stretch___repr__ : Mth K C_Stretch "__repr__" "Stretch.__repr__" ["self"] s_Stretch___repr__ f_Stretch___repr__ d_Stretch___repr__
  f_History___init__ : Addr
  d_History___init__ : FuncData
  h_History___init__ : Mth K C_History "__init__" "History.__init__" ["self"] s_History___init__ f_History___init__ d_History___init__
  M_History : Mk K C_History f_History___init__
  f_History_note : Addr
  d_History_note : FuncData
  h_History_note : Mth K C_History "note" "History.note" ["self", "known", "day", "worth"] s_History_note f_History_note d_History_note
  f_History_told_last : Addr
  d_History_told_last : FuncData
  h_History_told_last : Mth K C_History "told_last" "History.told_last" ["self", "day", "known"] s_History_told_last f_History_told_last d_History_told_last
  f_History_holding : Addr
  d_History_holding : FuncData
  h_History_holding : Mth K C_History "holding" "History.holding" ["self", "known"] s_History_holding f_History_holding d_History_holding
  f_Book___init__ : Addr
  d_Book___init__ : FuncData
  h_Book___init__ : Mth K C_Book "__init__" "Book.__init__" ["self", "ranks"] s_Book___init__ f_Book___init__ d_Book___init__
  M_Book : Mk K C_Book f_Book___init__
  f_Book_ranks : Addr
  d_Book_ranks : FuncData
  h_Book_ranks : Mth K C_Book "ranks" "Book.ranks" ["self"] s_Book_ranks f_Book_ranks d_Book_ranks
  f_Book_tell : Addr
  d_Book_tell : FuncData
  h_Book_tell : Mth K C_Book "tell" "Book.tell" ["self", "known", "keeper", "day", "place"] s_Book_tell f_Book_tell d_Book_tell
  f_Book_land : Addr
  d_Book_land : FuncData
  h_Book_land : Mth K C_Book "land" "Book.land" ["self", "known", "light", "day", "weight"] s_Book_land f_Book_land d_Book_land
  f_Book_moves_known : Addr
  d_Book_moves_known : FuncData
  h_Book_moves_known : Mth K C_Book "moves_known" "Book.moves_known" ["self", "keeper", "known"] s_Book_moves_known f_Book_moves_known d_Book_moves_known
  f_Book_landings_known : Addr
  d_Book_landings_known : FuncData
  h_Book_landings_known : Mth K C_Book "landings_known" "Book.landings_known" ["self", "light", "known"] s_Book_landings_known f_Book_landings_known d_Book_landings_known
  f_Stretch___init__ : Addr
  d_Stretch___init__ : FuncData
  q_Stretch___init__ : FunD K "__init__" "Stretch.__init__" (defArgs s_Stretch___init__) (defBody s_Stretch___init__) (defScope s_Stretch___init__) [.non] [] f_Stretch___init__ d_Stretch___init__
  me_Stretch___init__ : Meth K C_Stretch "__init__" f_Stretch___init__
  M_Stretch : Mk K C_Stretch f_Stretch___init__
  f_Book_where : Addr
  d_Book_where : FuncData
  q_Book_where : FunD K "where" "Book.where" (defArgs s_Book_where) (defBody s_Book_where) (defScope s_Book_where) [.non] [] f_Book_where d_Book_where
  me_Book_where : Meth K C_Book "where" f_Book_where
  f_Book_landed : Addr
  d_Book_landed : FuncData
  q_Book_landed : FunD K "landed" "Book.landed" (defArgs s_Book_landed) (defBody s_Book_landed) (defScope s_Book_landed) [.non] [] f_Book_landed d_Book_landed
  me_Book_landed : Meth K C_Book "landed" f_Book_landed
  f_is_name : Addr
  d_is_name : FuncData
  h_is_name : Has K mg "is_name" ["thing"] s_is_name f_is_name d_is_name
  f_is_whole : Addr
  d_is_whole : FuncData
  h_is_whole : Has K mg "is_whole" ["thing"] s_is_whole f_is_whole d_is_whole
  f_is_from : Addr
  d_is_from : FuncData
  h_is_from : Has K mg "is_from" ["thing", "least"] s_is_from f_is_from d_is_from
  f_is_within : Addr
  d_is_within : FuncData
  h_is_within : Has K mg "is_within" ["thing", "least", "most"] s_is_within f_is_within d_is_within
  f_is_day : Addr
  d_is_day : FuncData
  h_is_day : Has K mg "is_day" ["thing"] s_is_day f_is_day d_is_day
  f_parts_for : Addr
  d_parts_for : FuncData
  h_parts_for : Has K mg "parts_for" ["many", "most"] s_parts_for f_parts_for d_parts_for
  f_room_of : Addr
  d_room_of : FuncData
  h_room_of : Has K mg "room_of" ["boat"] s_room_of f_room_of d_room_of
  f_weight_out : Addr
  d_weight_out : FuncData
  h_weight_out : Has K mg "weight_out" ["boat", "out", "stores"] s_weight_out f_weight_out d_weight_out
  f_check_wanted : Addr
  d_check_wanted : FuncData
  h_check_wanted : Has K mg "check_wanted" ["out", "back", "stores"] s_check_wanted f_check_wanted d_check_wanted
  f_are_stores : Addr
  d_are_stores : FuncData
  h_are_stores : Has K mg "are_stores" ["thing"] s_are_stores f_are_stores d_are_stores
  f_is_place : Addr
  d_is_place : FuncData
  h_is_place : Has K mg "is_place" ["thing"] s_is_place f_is_place d_is_place
  f_check_day : Addr
  d_check_day : FuncData
  h_check_day : Has K mg "check_day" ["thing"] s_check_day f_check_day d_check_day
  f_check_known : Addr
  d_check_known : FuncData
  h_check_known : Has K mg "check_known" ["thing"] s_check_known f_check_known d_check_known
  f_check_days : Addr
  d_check_days : FuncData
  h_check_days : Has K mg "check_days" ["day", "known"] s_check_days f_check_days d_check_days
  f_check_light : Addr
  d_check_light : FuncData
  h_check_light : Has K mg "check_light" ["thing"] s_check_light f_check_light d_check_light
  f_check_place : Addr
  d_check_place : FuncData
  h_check_place : Has K mg "check_place" ["thing"] s_check_place f_check_place d_check_place
  f_check_number : Addr
  d_check_number : FuncData
  h_check_number : Has K mg "check_number" ["thing", "least"] s_check_number f_check_number d_check_number
  f_earlier_end : Addr
  d_earlier_end : FuncData
  h_earlier_end : Has K mg "earlier_end" ["one", "other"] s_earlier_end f_earlier_end d_earlier_end
  f_runs_of : Addr
  d_runs_of : FuncData
  h_runs_of : Has K mg "runs_of" ["start", "changes"] s_runs_of f_runs_of d_runs_of
  f_check_keeper : Addr
  d_check_keeper : FuncData
  h_check_keeper : Has K mg "check_keeper" ["book", "thing"] s_check_keeper f_check_keeper d_check_keeper
  f_check_not_early : Addr
  d_check_not_early : FuncData
  h_check_not_early : Has K mg "check_not_early" ["book", "known"] s_check_not_early f_check_not_early d_check_not_early
  f_are_ranks : Addr
  d_are_ranks : FuncData
  h_are_ranks : Has K mg "are_ranks" ["thing"] s_are_ranks f_are_ranks d_are_ranks
  f_names_at : Addr
  d_names_at : FuncData
  h_names_at : Has K mg "names_at" ["book", "place", "day", "known"] s_names_at f_names_at d_names_at
  f_names_before : Addr
  d_names_before : FuncData
  h_names_before : Has K mg "names_before" ["book", "place", "day", "known"] s_names_before f_names_before d_names_before
  f_put_steps : Addr
  d_put_steps : FuncData
  h_put_steps : Has K mg "put_steps" ["steps", "stretch"] s_put_steps f_put_steps d_put_steps
  f_supplies : Addr
  d_supplies : FuncData
  h_supplies : Has K mg "supplies" ["book", "light", "ration", "known"] s_supplies f_supplies d_supplies
  f_cut_at : Addr
  d_cut_at : FuncData
  h_cut_at : Has K mg "cut_at" ["stretch", "days"] s_cut_at f_cut_at d_cut_at
  f_left_on : Addr
  d_left_on : FuncData
  h_left_on : Has K mg "left_on" ["supply", "day"] s_left_on f_left_on d_left_on
  f__law_pot : Addr
  d__law_pot : FuncData
  h__law_pot : Has K mg "_law_pot" ["_law_script", "_law_k"] s__law_pot f__law_pot d__law_pot
  f__law_take : Addr
  d__law_take : FuncData
  h__law_take : Has K mg "_law_take" ["_law_pot_here", "_law_many"] s__law_take f__law_take d__law_take
  f__law_far : Addr
  d__law_far : FuncData
  h__law_far : Has K mg "_law_far" ["_law_pot_here"] s__law_far f__law_far d__law_far
  f__law_names : Addr
  d__law_names : FuncData
  h__law_names : Has K mg "_law_names" ["_law_pot_here", "_law_many"] s__law_names f__law_names d__law_names
  f__law_plan : Addr
  d__law_plan : FuncData
  h__law_plan : Has K mg "_law_plan" ["_law_pot_here", "_law_most"] s__law_plan f__law_plan d__law_plan
  f__law_worth : Addr
  d__law_worth : FuncData
  h__law_worth : Has K mg "_law_worth" ["_law_pot_here", "_law_kind", "_law_lamp"] s__law_worth f__law_worth d__law_worth
  f__law_event : Addr
  d__law_event : FuncData
  h__law_event : Has K mg "_law_event" ["_law_pot_here", "_law_plan_here"] s__law_event f__law_event d__law_event
  f__law_tell : Addr
  d__law_tell : FuncData
  h__law_tell : Has K mg "_law_tell" ["_law_one", "_law_event_here"] s__law_tell f__law_tell d__law_tell
  f__law_looks_right : Addr
  d__law_looks_right : FuncData
  h__law_looks_right : Has K mg "_law_looks_right" ["_law_pot_here", "_law_one", "_law_craft", "_law_plan_here"] s__law_looks_right f__law_looks_right d__law_looks_right
  f_fewest : Addr
  d_fewest : FuncData
  q_fewest : FunD K "fewest" "fewest" (defArgs s_fewest) (defBody s_fewest) (defScope s_fewest) [.int 0, .non] [] f_fewest d_fewest
  gl_fewest : mg "fewest" = some (.ref f_fewest)
  kp_fewest : PySem.W.keepIn K (.ref f_fewest) = true
  f_turns : Addr
  d_turns : FuncData
  q_turns : FunD K "turns" "turns" (defArgs s_turns) (defBody s_turns) (defScope s_turns) [.non] [] f_turns d_turns
  gl_turns : mg "turns" = some (.ref f_turns)
  kp_turns : PySem.W.keepIn K (.ref f_turns) = true
  f_came : Addr
  d_came : FuncData
  q_came : FunD K "came" "came" (defArgs s_came) (defBody s_came) (defScope s_came) [.non] [] f_came d_came
  gl_came : mg "came" = some (.ref f_came)
  kp_came : PySem.W.keepIn K (.ref f_came) = true
  f_went : Addr
  d_went : FuncData
  q_went : FunD K "went" "went" (defArgs s_went) (defBody s_went) (defScope s_went) [.non] [] f_went d_went
  gl_went : mg "went" = some (.ref f_went)
  kp_went : PySem.W.keepIn K (.ref f_went) = true
  f_heads : Addr
  d_heads : FuncData
  q_heads : FunD K "heads" "heads" (defArgs s_heads) (defBody s_heads) (defScope s_heads) [.non] [] f_heads d_heads
  gl_heads : mg "heads" = some (.ref f_heads)
  kp_heads : PySem.W.keepIn K (.ref f_heads) = true
  f_left_over : Addr
  d_left_over : FuncData
  q_left_over : FunD K "left_over" "left_over" (defArgs s_left_over) (defBody s_left_over) (defScope s_left_over) [.non] [] f_left_over d_left_over
  gl_left_over : mg "left_over" = some (.ref f_left_over)
  kp_left_over : PySem.W.keepIn K (.ref f_left_over) = true
  f_unfed : Addr
  d_unfed : FuncData
  q_unfed : FunD K "unfed" "unfed" (defArgs s_unfed) (defBody s_unfed) (defScope s_unfed) [.non] [] f_unfed d_unfed
  gl_unfed : mg "unfed" = some (.ref f_unfed)
  kp_unfed : PySem.W.keepIn K (.ref f_unfed) = true
  f_weight_wanted : Addr
  d_weight_wanted : FuncData
  q_weight_wanted : FunD K "weight_wanted" "weight_wanted" (defArgs s_weight_wanted) (defBody s_weight_wanted) (defScope s_weight_wanted) [.non] [] f_weight_wanted d_weight_wanted
  gl_weight_wanted : mg "weight_wanted" = some (.ref f_weight_wanted)
  kp_weight_wanted : PySem.W.keepIn K (.ref f_weight_wanted) = true
  f_landing : Addr
  d_landing : FuncData
  q_landing : FunD K "landing" "landing" (defArgs s_landing) (defBody s_landing) (defScope s_landing) [.non] [] f_landing d_landing
  gl_landing : mg "landing" = some (.ref f_landing)
  kp_landing : PySem.W.keepIn K (.ref f_landing) = true
end K80
set_option Elab.async false
set_option linter.all false
set_option maxRecDepth 100000
set_option maxHeartbeats 1600000
set_option pp.maxSteps 300
namespace K80
open PySem PySem.Spec PyProof.Rows L2 LT NdefX
section
variable {P : Program} {w : World} {K : PySem.W.Frag} {mg : Str → Option Value} {base : Heap}
theorem sc_is_whole : FnScope ["thing"] ["thing"] (defScope s_is_whole) := ⟨rfl, rfl, rfl, by decide +kernel, rfl, by decide +kernel, by decide +kernel⟩
theorem ok_is_whole (D : All K P mg) : FnOk P w K mg base CX0 1 D.f_is_whole D.d_is_whole ["thing"] spWhole := by
  refine D.h_is_whole.fn.ok sc_is_whole (fun vs H Q E h => ?_) (fun cdv A outer s H vs Q E hr h => ?_)
  · first | (obtain ⟨_, rfl, _⟩ := h; rfl) | (obtain ⟨_, _, rfl, _⟩ := h; rfl) | (obtain ⟨_, _, _, rfl, _⟩ := h; rfl) | (obtain ⟨_, _, _, _, rfl, _⟩ := h; rfl) | (obtain ⟨_, _, _, _, _, rfl, _⟩ := h; rfl) | (obtain ⟨_, _, _, _, _, _, rfl, _⟩ := h; rfl) | (obtain ⟨_, _, _, _, _, _, _, rfl, _⟩ := h; rfl) | (obtain ⟨_, _, _, _, _, _, _, _, rfl, _⟩ := h; rfl) | (obtain ⟨_, _, _, _, _, _, _, _, _, rfl, _⟩ := h; rfl) | (obtain ⟨_, _, _, _, _, _, _, _, _, _, rfl, _⟩ := h; rfl) | (obtain ⟨_, _, _, _, _, _, _, _, _, _, _, rfl, _⟩ := h; rfl) | (obtain ⟨_, _, _, _, _, _, _, _, _, _, _, _, rfl, _⟩ := h; rfl) | (obtain ⟨_, _, _, _, _, _, _, _, _, _, _, _, _, rfl, _⟩ := h; rfl) | (obtain ⟨_, _, _, _, _, _, _, _, _, _, _, _, _, _, rfl, _⟩ := h; rfl) | (obtain ⟨_, _, _, _, _, _, _, _, _, _, _, _, _, _, _, rfl, _⟩ := h; rfl)
  · have T := D.T
    have nd := sc_is_whole.nd
    have hu := hr.units
    have hu1 := hu_of hr
    have hu0 := hr.units0
    obtain ⟨v, rfl, hv, q⟩ := h
    refine ⟨_, pss_one (ps_ret (pe_and (pe_callB call_isi (by rfl) T.isi (by decide +kernel) (pa_cons (pv 0) (pa_cons (pe_bltn (v := .ty "int") (by rfl) T.int (by decide +kernel) rfl) pa_nil))) (pe_one (pe_not (pe_callB call_isi (by rfl) T.isi (by decide +kernel) (pa_cons (pv 0) (pa_cons (pe_bltn (v := .ty "bool") (by rfl) T.bool (by decide +kernel) rfl) pa_nil))))))), ?_⟩
    obtain ⟨t, ty, k1, k2⟩ := hv.ty (K := K)
    refine ⟨_, rfl, v, .ty "int", t, _, isInt v, rfl, .ty _, ty, k1, _, rfl, ?_⟩
    rw [← whole_eq v] at q
    cases hb : isInt v with
    | false =>
      rw [hb] at q
      exact q
    | true =>
      rw [hb] at q
      exact ⟨_, rfl, v, .ty "bool", t, _, isBl v, rfl, .ty _, ty, k2, _, rfl, q⟩
theorem sc_is_from : FnScope ["thing", "least"] ["thing", "least"] (defScope s_is_from) := ⟨rfl, rfl, rfl, by decide +kernel, rfl, by decide +kernel, by decide +kernel⟩
theorem ok_is_from (D : All K P mg) : FnOk P w K mg base CX0 2 D.f_is_from D.d_is_from ["thing", "least"] spFromB := by
  refine D.h_is_from.fn.ok sc_is_from (fun vs H Q E h => ?_) (fun cdv A outer s H vs Q E hr h => ?_)
  · first | (obtain ⟨_, rfl, _⟩ := h; rfl) | (obtain ⟨_, _, rfl, _⟩ := h; rfl) | (obtain ⟨_, _, _, rfl, _⟩ := h; rfl) | (obtain ⟨_, _, _, _, rfl, _⟩ := h; rfl) | (obtain ⟨_, _, _, _, _, rfl, _⟩ := h; rfl) | (obtain ⟨_, _, _, _, _, _, rfl, _⟩ := h; rfl) | (obtain ⟨_, _, _, _, _, _, _, rfl, _⟩ := h; rfl) | (obtain ⟨_, _, _, _, _, _, _, _, rfl, _⟩ := h; rfl) | (obtain ⟨_, _, _, _, _, _, _, _, _, rfl, _⟩ := h; rfl) | (obtain ⟨_, _, _, _, _, _, _, _, _, _, rfl, _⟩ := h; rfl) | (obtain ⟨_, _, _, _, _, _, _, _, _, _, _, rfl, _⟩ := h; rfl) | (obtain ⟨_, _, _, _, _, _, _, _, _, _, _, _, rfl, _⟩ := h; rfl) | (obtain ⟨_, _, _, _, _, _, _, _, _, _, _, _, _, rfl, _⟩ := h; rfl) | (obtain ⟨_, _, _, _, _, _, _, _, _, _, _, _, _, _, rfl, _⟩ := h; rfl) | (obtain ⟨_, _, _, _, _, _, _, _, _, _, _, _, _, _, _, rfl, _⟩ := h; rfl)
  · have T := D.T
    have nd := sc_is_from.nd
    have hu := hr.units
    have hu1 := hu_of hr
    have hu0 := hr.units0
    obtain ⟨v, l, rfl, hv, q⟩ := h
    refine ⟨_, pss_one (ps_ret (pe_and (pe_call (ok_is_whole D) (hr.mono (by decide)) (by rfl) D.h_is_whole.gl D.h_is_whole.fn.kp D.h_is_whole.bd .nil pass0 (pa_cons (pv 0) pa_nil)) (pe_one (pe_cmpR op_ge (pv 0) (pv 1) (nomark _))))), ?_⟩
    refine ⟨_, rfl, v, rfl, hv, _, rfl, ?_⟩
    cases hv with
    | int i => exact ⟨_, rfl, _, rfl, _, _, rfl, rfl, q⟩
    | _ => exact q
theorem sc_is_within : FnScope ["thing", "least", "most"] ["thing", "least", "most"] (defScope s_is_within) := ⟨rfl, rfl, rfl, by decide +kernel, rfl, by decide +kernel, by decide +kernel⟩
theorem ok_is_within (D : All K P mg) : FnOk P w K mg base CX0 2 D.f_is_within D.d_is_within ["thing", "least", "most"] spWithin := by
  refine D.h_is_within.fn.ok sc_is_within (fun vs H Q E h => ?_) (fun cdv A outer s H vs Q E hr h => ?_)
  · first | (obtain ⟨_, rfl, _⟩ := h; rfl) | (obtain ⟨_, _, rfl, _⟩ := h; rfl) | (obtain ⟨_, _, _, rfl, _⟩ := h; rfl) | (obtain ⟨_, _, _, _, rfl, _⟩ := h; rfl) | (obtain ⟨_, _, _, _, _, rfl, _⟩ := h; rfl) | (obtain ⟨_, _, _, _, _, _, rfl, _⟩ := h; rfl) | (obtain ⟨_, _, _, _, _, _, _, rfl, _⟩ := h; rfl) | (obtain ⟨_, _, _, _, _, _, _, _, rfl, _⟩ := h; rfl) | (obtain ⟨_, _, _, _, _, _, _, _, _, rfl, _⟩ := h; rfl) | (obtain ⟨_, _, _, _, _, _, _, _, _, _, rfl, _⟩ := h; rfl) | (obtain ⟨_, _, _, _, _, _, _, _, _, _, _, rfl, _⟩ := h; rfl) | (obtain ⟨_, _, _, _, _, _, _, _, _, _, _, _, rfl, _⟩ := h; rfl) | (obtain ⟨_, _, _, _, _, _, _, _, _, _, _, _, _, rfl, _⟩ := h; rfl) | (obtain ⟨_, _, _, _, _, _, _, _, _, _, _, _, _, _, rfl, _⟩ := h; rfl) | (obtain ⟨_, _, _, _, _, _, _, _, _, _, _, _, _, _, _, rfl, _⟩ := h; rfl)
  · have T := D.T
    have nd := sc_is_within.nd
    have hu := hr.units
    have hu1 := hu_of hr
    have hu0 := hr.units0
    obtain ⟨v, l, m, rfl, hv, q⟩ := h
    refine ⟨_, pss_one (ps_ret (pe_and (pe_call (ok_is_whole D) (hr.mono (by decide)) (by rfl) D.h_is_whole.gl D.h_is_whole.fn.kp D.h_is_whole.bd .nil pass0 (pa_cons (pv 0) pa_nil)) (pe_one (pe_chain op_le op_le (pv 1) (pv 0) (pv 2))))), ?_⟩
    refine ⟨_, rfl, v, rfl, hv, _, rfl, ?_⟩
    cases hv with
    | int i =>
      refine ⟨_, rfl, _, rfl, l, i, rfl, rfl, _, rfl, ?_⟩
      have q' : Q (.bl (decide (l ≤ i) && decide (i ≤ m))) H := q
      cases h : decide (l ≤ i) with
      | true =>
        rw [h] at q'
        exact ⟨_, rfl, i, m, rfl, rfl, q'⟩
      | false =>
        rw [h] at q'
        exact q'
    | _ => exact q
theorem sc_is_day : FnScope ["thing"] ["thing"] (defScope s_is_day) := ⟨rfl, rfl, rfl, by decide +kernel, rfl, by decide +kernel, by decide +kernel⟩
theorem ok_is_day (D : All K P mg) : FnOk P w K mg base CX0 3 D.f_is_day D.d_is_day ["thing"] spDayB := by
  refine D.h_is_day.fn.ok sc_is_day (fun vs H Q E h => ?_) (fun cdv A outer s H vs Q E hr h => ?_)
  · first | (obtain ⟨_, rfl, _⟩ := h; rfl) | (obtain ⟨_, _, rfl, _⟩ := h; rfl) | (obtain ⟨_, _, _, rfl, _⟩ := h; rfl) | (obtain ⟨_, _, _, _, rfl, _⟩ := h; rfl) | (obtain ⟨_, _, _, _, _, rfl, _⟩ := h; rfl) | (obtain ⟨_, _, _, _, _, _, rfl, _⟩ := h; rfl) | (obtain ⟨_, _, _, _, _, _, _, rfl, _⟩ := h; rfl) | (obtain ⟨_, _, _, _, _, _, _, _, rfl, _⟩ := h; rfl) | (obtain ⟨_, _, _, _, _, _, _, _, _, rfl, _⟩ := h; rfl) | (obtain ⟨_, _, _, _, _, _, _, _, _, _, rfl, _⟩ := h; rfl) | (obtain ⟨_, _, _, _, _, _, _, _, _, _, _, rfl, _⟩ := h; rfl) | (obtain ⟨_, _, _, _, _, _, _, _, _, _, _, _, rfl, _⟩ := h; rfl) | (obtain ⟨_, _, _, _, _, _, _, _, _, _, _, _, _, rfl, _⟩ := h; rfl) | (obtain ⟨_, _, _, _, _, _, _, _, _, _, _, _, _, _, rfl, _⟩ := h; rfl) | (obtain ⟨_, _, _, _, _, _, _, _, _, _, _, _, _, _, _, rfl, _⟩ := h; rfl)
  · have T := D.T
    have nd := sc_is_day.nd
    have hu := hr.units
    have hu1 := hu_of hr
    have hu0 := hr.units0
    obtain ⟨v, rfl, hv, q⟩ := h
    refine ⟨_, pss_one (ps_ret (pe_call (ok_is_from D) (hr.mono (by decide)) (by rfl) D.h_is_from.gl D.h_is_from.fn.kp D.h_is_from.bd .nil pass0 (pa_cons (pv 0) (pa_cons pe_int pa_nil)))), ?_⟩
    exact ⟨_, rfl, v, 0, rfl, hv, q⟩
theorem sc_is_name : FnScope ["thing", "letter"] ["thing"] (defScope s_is_name) := ⟨rfl, rfl, rfl, by decide +kernel, rfl, by decide +kernel, by decide +kernel⟩
theorem ok_is_name (D : All K P mg) : FnOk P w K mg base CX0 1 D.f_is_name D.d_is_name ["thing"] spNameB := by
  refine D.h_is_name.fn.ok sc_is_name (fun vs H Q E h => ?_) (fun cdv A outer s H vs Q E hr h => ?_)
  · first | (obtain ⟨_, rfl, _⟩ := h; rfl) | (obtain ⟨_, _, rfl, _⟩ := h; rfl) | (obtain ⟨_, _, _, rfl, _⟩ := h; rfl) | (obtain ⟨_, _, _, _, rfl, _⟩ := h; rfl) | (obtain ⟨_, _, _, _, _, rfl, _⟩ := h; rfl) | (obtain ⟨_, _, _, _, _, _, rfl, _⟩ := h; rfl) | (obtain ⟨_, _, _, _, _, _, _, rfl, _⟩ := h; rfl) | (obtain ⟨_, _, _, _, _, _, _, _, rfl, _⟩ := h; rfl) | (obtain ⟨_, _, _, _, _, _, _, _, _, rfl, _⟩ := h; rfl) | (obtain ⟨_, _, _, _, _, _, _, _, _, _, rfl, _⟩ := h; rfl) | (obtain ⟨_, _, _, _, _, _, _, _, _, _, _, rfl, _⟩ := h; rfl) | (obtain ⟨_, _, _, _, _, _, _, _, _, _, _, _, rfl, _⟩ := h; rfl) | (obtain ⟨_, _, _, _, _, _, _, _, _, _, _, _, _, rfl, _⟩ := h; rfl) | (obtain ⟨_, _, _, _, _, _, _, _, _, _, _, _, _, _, rfl, _⟩ := h; rfl) | (obtain ⟨_, _, _, _, _, _, _, _, _, _, _, _, _, _, _, rfl, _⟩ := h; rfl)
  · have T := D.T
    have nd := sc_is_name.nd
    have hu := hr.units
    have hu1 := hu_of hr
    have hu0 := hr.units0
    obtain ⟨v, rfl, hv, hz, q⟩ := h
    refine ⟨_, pss_cons (ps_if (pt_not (pt_val (pe_callB call_isi (by rfl) T.isi (by decide +kernel) (pa_cons (pv 0) (pa_cons (pe_bltn (v := .ty "str") (by rfl) T.str (by decide +kernel) rfl) pa_nil))))) (pss_one (ps_ret pe_bl)) pss_nil)
      (pss_cons (ps_if (pt_not (pt_chain op_le op_le pe_int (pe_callB call_len_str (by rfl) T.len PySem.boot_len (pa_cons (pv 0) pa_nil)) (pe_glob (v := .int (8)) (by rfl) D.g_LONGEST_NAME ⟨_, rfl⟩))) (pss_one (ps_ret pe_bl)) pss_nil)
      (pss_one (ps_ret (pe_callB (cr_all rfl) (by rfl) T.all (by decide +kernel) (pa_cons (pe_lc (own := [("letter", 1)]) (g := gName 1) (tt := tYes) rfl nd (pi_str (pv 0)) (blkOk_by (N := ["thing", "letter"]) (sc := defScope s_is_name) (by decide +kernel)) (fun _ _ _ _ _ => (pg_name (i := 1) nd rfl (Or.inl rfl))) (fun _ _ _ _ _ => pts_nil) (fun _ _ _ _ _ => (pe_cmpR op_in_sign (pv 1) (pe_glob (v := .str (Str.ofString "abcdefghijklmnopqrstuvwxyz")) (by rfl) D.g_SMALL_LETTERS ⟨_, rfl⟩) (by rfl)))) pa_nil))))), ?_⟩
    obtain ⟨t, ty, k1⟩ := hv.tyS (K := K)
    refine ⟨_, rfl, v, .ty "str", t, _, isStr v, rfl, .ty _, ty, k1, _, rfl, ?_⟩
    cases hv with
    | str z =>
      refine iteF ?_
      refine ⟨_, rfl, z, rfl, hz z rfl, _, _, rfl, rfl, _, rfl, ?_⟩
      by_cases h1 : 1 ≤ z.length
      · rw [if_pos (decide_eq_true (show (1 : Int) ≤ (z.length : Nat) by omega))]
        refine ⟨_, _, rfl, rfl, _, rfl, ?_⟩
        by_cases h8 : z.length ≤ 8
        · rw [decide_eq_true (show ((z.length : Nat) : Int) ≤ 8 by omega)]
          refine iteF ?_
          refine ⟨_, rfl, z, rfl, fun D nD => ?_⟩
          refine lc_it walk_str (fun i H' => Same H H' ∧ H' D = some (.lst (((z.cps.toList.take i).map small).map V.bl))) ⟨same_upd nD, upd_same⟩ (fun _ _ _ _ => trivial) ?_ ?_
          · rintro i x H1 H2 hi ⟨sm, eD⟩ ⟨rfl, c, hc, rfl⟩
            have hc' : z.cps.toList[i]? = some c := by rw [Array.getElem?_toList]; exact hc
            refine ⟨rfl, _, rfl, c, _, rfl, rfl, ?_⟩
            rw [small_mem]
            refine ⟨_, eD, ?_, same_app nD sm, ?_⟩
            · rw [List.length_map, List.length_map, List.length_take]
              have : z.cps.size = z.length := rfl
              have := Nat.min_le_left i z.cps.toList.length
              exact small2k (by omega)
            · rw [upd_same, ← take_more small hc', List.map_append]
              rfl
          · rintro H2 ⟨sm, eD⟩
            refine ⟨D, (z.cps.toList.take z.cps.size).map small, rfl, SqL.of eD, ?_⟩
            have e : nameB (.str z) = ((z.cps.toList.take z.cps.size).map small).all id := by
              show (decide (1 ≤ z.length) && decide (z.length ≤ 8) && z.cps.toList.all small) = _
              rw [decide_eq_true h1, decide_eq_true h8, ← Array.length_toList, List.take_length, List.all_map]
              rfl
            rw [← e]
            exact q H2 sm
        · rw [decide_eq_false (show ¬ ((z.length : Nat) : Int) ≤ 8 by omega)]
          show Q (.bl false) H
          have e : nameB (.str z) = false := by
            show (decide (1 ≤ z.length) && decide (z.length ≤ 8) && z.cps.toList.all small) = _
            rw [decide_eq_false h8, Bool.and_false]
            rfl
          rw [e] at q
          exact q H (Same.refl _)
      · rw [if_neg (by rw [decide_eq_false (show ¬ (1 : Int) ≤ (z.length : Nat) by omega)]; nofun)]
        refine ⟨_, rfl, ?_⟩
        show Q (.bl false) H
        have e : nameB (.str z) = false := by
          show (decide (1 ≤ z.length) && decide (z.length ≤ 8) && z.cps.toList.all small) = _
          rw [decide_eq_false h1]
          rfl
        rw [e] at q
        exact q H (Same.refl _)
    | _ => exact q H (Same.refl _)
theorem sc_is_place : FnScope ["thing"] ["thing"] (defScope s_is_place) := ⟨rfl, rfl, rfl, by decide +kernel, rfl, by decide +kernel, by decide +kernel⟩
theorem ok_is_place (D : All K P mg) : FnOk P w K mg base CX0 2 D.f_is_place D.d_is_place ["thing"] spPlaceB := by
  refine D.h_is_place.fn.ok sc_is_place (fun vs H Q E h => ?_) (fun cdv A outer s H vs Q E hr h => ?_)
  · first | (obtain ⟨_, rfl, _⟩ := h; rfl) | (obtain ⟨_, _, rfl, _⟩ := h; rfl) | (obtain ⟨_, _, _, rfl, _⟩ := h; rfl) | (obtain ⟨_, _, _, _, rfl, _⟩ := h; rfl) | (obtain ⟨_, _, _, _, _, rfl, _⟩ := h; rfl) | (obtain ⟨_, _, _, _, _, _, rfl, _⟩ := h; rfl) | (obtain ⟨_, _, _, _, _, _, _, rfl, _⟩ := h; rfl) | (obtain ⟨_, _, _, _, _, _, _, _, rfl, _⟩ := h; rfl) | (obtain ⟨_, _, _, _, _, _, _, _, _, rfl, _⟩ := h; rfl) | (obtain ⟨_, _, _, _, _, _, _, _, _, _, rfl, _⟩ := h; rfl) | (obtain ⟨_, _, _, _, _, _, _, _, _, _, _, rfl, _⟩ := h; rfl) | (obtain ⟨_, _, _, _, _, _, _, _, _, _, _, _, rfl, _⟩ := h; rfl) | (obtain ⟨_, _, _, _, _, _, _, _, _, _, _, _, _, rfl, _⟩ := h; rfl) | (obtain ⟨_, _, _, _, _, _, _, _, _, _, _, _, _, _, rfl, _⟩ := h; rfl) | (obtain ⟨_, _, _, _, _, _, _, _, _, _, _, _, _, _, _, rfl, _⟩ := h; rfl)
  · have T := D.T
    have nd := sc_is_place.nd
    have hu := hr.units
    have hu1 := hu_of hr
    have hu0 := hr.units0
    obtain ⟨v, rfl, hv, hz, q⟩ := h
    refine ⟨_, pss_one (ps_ret (pe_or (pe_call (ok_is_name D) (hr.mono (by decide)) (by rfl) D.h_is_name.gl D.h_is_name.fn.kp D.h_is_name.bd .nil pass0 (pa_cons (pv 0) pa_nil)) (pe_one (pe_and (pe_callB call_isi (by rfl) T.isi (by decide +kernel) (pa_cons (pv 0) (pa_cons (pe_bltn (v := .ty "str") (by rfl) T.str (by decide +kernel) rfl) pa_nil))) (pe_one (pe_cmpR op_eq (pv 0) (pe_glob (v := .str (Str.ofString "")) (by rfl) D.g_ASHORE ⟨_, rfl⟩) (nomark _))))))), ?_⟩
    refine ⟨_, rfl, v, rfl, hv, hz, fun H1 s1 => ⟨_, rfl, ?_⟩⟩
    obtain ⟨t, ty, k1⟩ := (hv.mono s1).tyS (K := K)
    cases hv with
    | str z =>
      have q' : ∀ H', Same H H' → Q (.bl (nameB (.str z) || decide (z = Str.ofString ""))) H' := q
      cases hn : nameB (.str z) with
      | true =>
        rw [hn] at q'
        exact q' H1 s1
      | false =>
        rw [hn] at q'
        refine ⟨_, rfl, .str z, .ty "str", t, _, true, rfl, .ty _, ty, k1, _, rfl, ⟨_, rfl, rfl, ?_⟩⟩
        have e : decide (V.str z = V.str (Str.ofString "")) = decide (z = Str.ofString "") := by
          by_cases h : z = Str.ofString ""
          · rw [decide_eq_true h, decide_eq_true (by rw [h])]
          · rw [decide_eq_false h, decide_eq_false (fun e => h (V.str.inj e))]
        rw [e]
        exact q' H1 s1
    | _ => exact ⟨_, rfl, _, .ty "str", t, _, false, rfl, .ty _, ty, k1, _, rfl, q H1 s1⟩
theorem sc_check_day : FnScope ["thing"] ["thing"] (defScope s_check_day) := ⟨rfl, rfl, rfl, by decide +kernel, rfl, by decide +kernel, by decide +kernel⟩
theorem ok_check_day (D : All K P mg) : FnOk P w K mg base CX0 4 D.f_check_day D.d_check_day ["thing"] spCkDay := by
  refine D.h_check_day.fn.ok sc_check_day (fun vs H Q E h => ?_) (fun cdv A outer s H vs Q E hr h => ?_)
  · first | (obtain ⟨_, rfl, _⟩ := h; rfl) | (obtain ⟨_, _, rfl, _⟩ := h; rfl) | (obtain ⟨_, _, _, rfl, _⟩ := h; rfl) | (obtain ⟨_, _, _, _, rfl, _⟩ := h; rfl) | (obtain ⟨_, _, _, _, _, rfl, _⟩ := h; rfl) | (obtain ⟨_, _, _, _, _, _, rfl, _⟩ := h; rfl) | (obtain ⟨_, _, _, _, _, _, _, rfl, _⟩ := h; rfl) | (obtain ⟨_, _, _, _, _, _, _, _, rfl, _⟩ := h; rfl) | (obtain ⟨_, _, _, _, _, _, _, _, _, rfl, _⟩ := h; rfl) | (obtain ⟨_, _, _, _, _, _, _, _, _, _, rfl, _⟩ := h; rfl) | (obtain ⟨_, _, _, _, _, _, _, _, _, _, _, rfl, _⟩ := h; rfl) | (obtain ⟨_, _, _, _, _, _, _, _, _, _, _, _, rfl, _⟩ := h; rfl) | (obtain ⟨_, _, _, _, _, _, _, _, _, _, _, _, _, rfl, _⟩ := h; rfl) | (obtain ⟨_, _, _, _, _, _, _, _, _, _, _, _, _, _, rfl, _⟩ := h; rfl) | (obtain ⟨_, _, _, _, _, _, _, _, _, _, _, _, _, _, _, rfl, _⟩ := h; rfl)
  · have T := D.T
    have nd := sc_check_day.nd
    have hu := hr.units
    have hu1 := hu_of hr
    have hu0 := hr.units0
    obtain ⟨i, rfl, h0, q⟩ := h
    refine ⟨_, pss_one (ps_if (pt_not (pt_val (pe_call (ok_is_day D) (hr.mono (by decide)) (by rfl) D.h_is_day.gl D.h_is_day.fn.kp D.h_is_day.bd .nil pass0 (pa_cons (pv 0) pa_nil)))) (pss_one ps_never) pss_nil), ?_⟩
    refine ⟨_, rfl, .int i, rfl, .int i, _, rfl, ?_⟩
    have e : fromB (.int i) 0 = true := decide_eq_true h0
    rw [e]
    exact iteF q
theorem sc_check_known : FnScope ["thing"] ["thing"] (defScope s_check_known) := ⟨rfl, rfl, rfl, by decide +kernel, rfl, by decide +kernel, by decide +kernel⟩
theorem ok_check_known (D : All K P mg) : FnOk P w K mg base CX0 5 D.f_check_known D.d_check_known ["thing"] spCkKnown := by
  refine D.h_check_known.fn.ok sc_check_known (fun vs H Q E h => ?_) (fun cdv A outer s H vs Q E hr h => ?_)
  · first | (obtain ⟨_, rfl, _⟩ := h; rfl) | (obtain ⟨_, _, rfl, _⟩ := h; rfl) | (obtain ⟨_, _, _, rfl, _⟩ := h; rfl) | (obtain ⟨_, _, _, _, rfl, _⟩ := h; rfl) | (obtain ⟨_, _, _, _, _, rfl, _⟩ := h; rfl) | (obtain ⟨_, _, _, _, _, _, rfl, _⟩ := h; rfl) | (obtain ⟨_, _, _, _, _, _, _, rfl, _⟩ := h; rfl) | (obtain ⟨_, _, _, _, _, _, _, _, rfl, _⟩ := h; rfl) | (obtain ⟨_, _, _, _, _, _, _, _, _, rfl, _⟩ := h; rfl) | (obtain ⟨_, _, _, _, _, _, _, _, _, _, rfl, _⟩ := h; rfl) | (obtain ⟨_, _, _, _, _, _, _, _, _, _, _, rfl, _⟩ := h; rfl) | (obtain ⟨_, _, _, _, _, _, _, _, _, _, _, _, rfl, _⟩ := h; rfl) | (obtain ⟨_, _, _, _, _, _, _, _, _, _, _, _, _, rfl, _⟩ := h; rfl) | (obtain ⟨_, _, _, _, _, _, _, _, _, _, _, _, _, _, rfl, _⟩ := h; rfl) | (obtain ⟨_, _, _, _, _, _, _, _, _, _, _, _, _, _, _, rfl, _⟩ := h; rfl)
  · have T := D.T
    have nd := sc_check_known.nd
    have hu := hr.units
    have hu1 := hu_of hr
    have hu0 := hr.units0
    obtain ⟨kn, rfl, h0, q⟩ := h
    refine ⟨_, pss_one (ps_if (pt_cmpR op_notN (pv 0) pe_non (nomark _)) (pss_one (ps_expr (pe_call (ok_check_day D) (hr.mono (by decide)) (by rfl) D.h_check_day.gl D.h_check_day.fn.kp D.h_check_day.bd .nil pass0 (pa_cons (pv 0) pa_nil)))) pss_nil), ?_⟩
    refine ⟨_, rfl, rfl, _, rfl, ?_⟩
    cases kn with
    | none => exact iteF q
    | some k => exact iteT ⟨_, rfl, k, rfl, h0 k rfl, q⟩
theorem sc_check_days : FnScope ["day", "known"] ["day", "known"] (defScope s_check_days) := ⟨rfl, rfl, rfl, by decide +kernel, rfl, by decide +kernel, by decide +kernel⟩
theorem ok_check_days (D : All K P mg) : FnOk P w K mg base CX0 6 D.f_check_days D.d_check_days ["day", "known"] spCkDays := by
  refine D.h_check_days.fn.ok sc_check_days (fun vs H Q E h => ?_) (fun cdv A outer s H vs Q E hr h => ?_)
  · first | (obtain ⟨_, rfl, _⟩ := h; rfl) | (obtain ⟨_, _, rfl, _⟩ := h; rfl) | (obtain ⟨_, _, _, rfl, _⟩ := h; rfl) | (obtain ⟨_, _, _, _, rfl, _⟩ := h; rfl) | (obtain ⟨_, _, _, _, _, rfl, _⟩ := h; rfl) | (obtain ⟨_, _, _, _, _, _, rfl, _⟩ := h; rfl) | (obtain ⟨_, _, _, _, _, _, _, rfl, _⟩ := h; rfl) | (obtain ⟨_, _, _, _, _, _, _, _, rfl, _⟩ := h; rfl) | (obtain ⟨_, _, _, _, _, _, _, _, _, rfl, _⟩ := h; rfl) | (obtain ⟨_, _, _, _, _, _, _, _, _, _, rfl, _⟩ := h; rfl) | (obtain ⟨_, _, _, _, _, _, _, _, _, _, _, rfl, _⟩ := h; rfl) | (obtain ⟨_, _, _, _, _, _, _, _, _, _, _, _, rfl, _⟩ := h; rfl) | (obtain ⟨_, _, _, _, _, _, _, _, _, _, _, _, _, rfl, _⟩ := h; rfl) | (obtain ⟨_, _, _, _, _, _, _, _, _, _, _, _, _, _, rfl, _⟩ := h; rfl) | (obtain ⟨_, _, _, _, _, _, _, _, _, _, _, _, _, _, _, rfl, _⟩ := h; rfl)
  · have T := D.T
    have nd := sc_check_days.nd
    have hu := hr.units
    have hu1 := hu_of hr
    have hu0 := hr.units0
    obtain ⟨i, kn, rfl, h0, hk, q⟩ := h
    refine ⟨_, pss_cons (ps_expr (pe_call (ok_check_day D) (hr.mono (by decide)) (by rfl) D.h_check_day.gl D.h_check_day.fn.kp D.h_check_day.bd .nil pass0 (pa_cons (pv 0) pa_nil)))
      (pss_one (ps_expr (pe_call (ok_check_known D) (hr.mono (by decide)) (by rfl) D.h_check_known.gl D.h_check_known.fn.kp D.h_check_known.bd .nil pass0 (pa_cons (pv 1) pa_nil)))), ?_⟩
    exact ⟨_, rfl, i, rfl, h0, _, rfl, kn, rfl, hk, q⟩
theorem sc_check_light : FnScope ["thing"] ["thing"] (defScope s_check_light) := ⟨rfl, rfl, rfl, by decide +kernel, rfl, by decide +kernel, by decide +kernel⟩
theorem ok_check_light (D : All K P mg) : FnOk P w K mg base CX0 2 D.f_check_light D.d_check_light ["thing"] spCkLight := by
  refine D.h_check_light.fn.ok sc_check_light (fun vs H Q E h => ?_) (fun cdv A outer s H vs Q E hr h => ?_)
  · first | (obtain ⟨_, rfl, _⟩ := h; rfl) | (obtain ⟨_, _, rfl, _⟩ := h; rfl) | (obtain ⟨_, _, _, rfl, _⟩ := h; rfl) | (obtain ⟨_, _, _, _, rfl, _⟩ := h; rfl) | (obtain ⟨_, _, _, _, _, rfl, _⟩ := h; rfl) | (obtain ⟨_, _, _, _, _, _, rfl, _⟩ := h; rfl) | (obtain ⟨_, _, _, _, _, _, _, rfl, _⟩ := h; rfl) | (obtain ⟨_, _, _, _, _, _, _, _, rfl, _⟩ := h; rfl) | (obtain ⟨_, _, _, _, _, _, _, _, _, rfl, _⟩ := h; rfl) | (obtain ⟨_, _, _, _, _, _, _, _, _, _, rfl, _⟩ := h; rfl) | (obtain ⟨_, _, _, _, _, _, _, _, _, _, _, rfl, _⟩ := h; rfl) | (obtain ⟨_, _, _, _, _, _, _, _, _, _, _, _, rfl, _⟩ := h; rfl) | (obtain ⟨_, _, _, _, _, _, _, _, _, _, _, _, _, rfl, _⟩ := h; rfl) | (obtain ⟨_, _, _, _, _, _, _, _, _, _, _, _, _, _, rfl, _⟩ := h; rfl) | (obtain ⟨_, _, _, _, _, _, _, _, _, _, _, _, _, _, _, rfl, _⟩ := h; rfl)
  · have T := D.T
    have nd := sc_check_light.nd
    have hu := hr.units
    have hu1 := hu_of hr
    have hu0 := hr.units0
    obtain ⟨z, rfl, hz, q⟩ := h
    refine ⟨_, pss_one (ps_if (pt_not (pt_val (pe_call (ok_is_name D) (hr.mono (by decide)) (by rfl) D.h_is_name.gl D.h_is_name.fn.kp D.h_is_name.bd .nil pass0 (pa_cons (pv 0) pa_nil)))) (pss_one ps_never) pss_nil), ?_⟩
    have l8 := hz.l8
    refine ⟨_, rfl, .str z, rfl, .str z, fun y e => by cases e; rw [sizeLine_eq]; omega, fun H1 s1 => ⟨_, rfl, ?_⟩⟩
    rw [hz.b]
    exact iteF (q H1 s1)
theorem sc_check_place : FnScope ["thing"] ["thing"] (defScope s_check_place) := ⟨rfl, rfl, rfl, by decide +kernel, rfl, by decide +kernel, by decide +kernel⟩
theorem ok_check_place (D : All K P mg) : FnOk P w K mg base CX0 3 D.f_check_place D.d_check_place ["thing"] spCkPlace := by
  refine D.h_check_place.fn.ok sc_check_place (fun vs H Q E h => ?_) (fun cdv A outer s H vs Q E hr h => ?_)
  · first | (obtain ⟨_, rfl, _⟩ := h; rfl) | (obtain ⟨_, _, rfl, _⟩ := h; rfl) | (obtain ⟨_, _, _, rfl, _⟩ := h; rfl) | (obtain ⟨_, _, _, _, rfl, _⟩ := h; rfl) | (obtain ⟨_, _, _, _, _, rfl, _⟩ := h; rfl) | (obtain ⟨_, _, _, _, _, _, rfl, _⟩ := h; rfl) | (obtain ⟨_, _, _, _, _, _, _, rfl, _⟩ := h; rfl) | (obtain ⟨_, _, _, _, _, _, _, _, rfl, _⟩ := h; rfl) | (obtain ⟨_, _, _, _, _, _, _, _, _, rfl, _⟩ := h; rfl) | (obtain ⟨_, _, _, _, _, _, _, _, _, _, rfl, _⟩ := h; rfl) | (obtain ⟨_, _, _, _, _, _, _, _, _, _, _, rfl, _⟩ := h; rfl) | (obtain ⟨_, _, _, _, _, _, _, _, _, _, _, _, rfl, _⟩ := h; rfl) | (obtain ⟨_, _, _, _, _, _, _, _, _, _, _, _, _, rfl, _⟩ := h; rfl) | (obtain ⟨_, _, _, _, _, _, _, _, _, _, _, _, _, _, rfl, _⟩ := h; rfl) | (obtain ⟨_, _, _, _, _, _, _, _, _, _, _, _, _, _, _, rfl, _⟩ := h; rfl)
  · have T := D.T
    have nd := sc_check_place.nd
    have hu := hr.units
    have hu1 := hu_of hr
    have hu0 := hr.units0
    obtain ⟨z, rfl, hz, q⟩ := h
    refine ⟨_, pss_one (ps_if (pt_not (pt_val (pe_call (ok_is_place D) (hr.mono (by decide)) (by rfl) D.h_is_place.gl D.h_is_place.fn.kp D.h_is_place.bd .nil pass0 (pa_cons (pv 0) pa_nil)))) (pss_one ps_never) pss_nil), ?_⟩
    have l8 := pl_len hz
    refine ⟨_, rfl, .str z, rfl, .str z, fun y e => by cases e; rw [sizeLine_eq]; omega, fun H1 s1 => ⟨_, rfl, ?_⟩⟩
    rw [pl_b hz]
    exact iteF (q H1 s1)
theorem sc_check_number : FnScope ["thing", "least"] ["thing", "least"] (defScope s_check_number) := ⟨rfl, rfl, rfl, by decide +kernel, rfl, by decide +kernel, by decide +kernel⟩
theorem ok_check_number (D : All K P mg) : FnOk P w K mg base CX0 3 D.f_check_number D.d_check_number ["thing", "least"] spCkNumber := by
  refine D.h_check_number.fn.ok sc_check_number (fun vs H Q E h => ?_) (fun cdv A outer s H vs Q E hr h => ?_)
  · first | (obtain ⟨_, rfl, _⟩ := h; rfl) | (obtain ⟨_, _, rfl, _⟩ := h; rfl) | (obtain ⟨_, _, _, rfl, _⟩ := h; rfl) | (obtain ⟨_, _, _, _, rfl, _⟩ := h; rfl) | (obtain ⟨_, _, _, _, _, rfl, _⟩ := h; rfl) | (obtain ⟨_, _, _, _, _, _, rfl, _⟩ := h; rfl) | (obtain ⟨_, _, _, _, _, _, _, rfl, _⟩ := h; rfl) | (obtain ⟨_, _, _, _, _, _, _, _, rfl, _⟩ := h; rfl) | (obtain ⟨_, _, _, _, _, _, _, _, _, rfl, _⟩ := h; rfl) | (obtain ⟨_, _, _, _, _, _, _, _, _, _, rfl, _⟩ := h; rfl) | (obtain ⟨_, _, _, _, _, _, _, _, _, _, _, rfl, _⟩ := h; rfl) | (obtain ⟨_, _, _, _, _, _, _, _, _, _, _, _, rfl, _⟩ := h; rfl) | (obtain ⟨_, _, _, _, _, _, _, _, _, _, _, _, _, rfl, _⟩ := h; rfl) | (obtain ⟨_, _, _, _, _, _, _, _, _, _, _, _, _, _, rfl, _⟩ := h; rfl) | (obtain ⟨_, _, _, _, _, _, _, _, _, _, _, _, _, _, _, rfl, _⟩ := h; rfl)
  · have T := D.T
    have nd := sc_check_number.nd
    have hu := hr.units
    have hu1 := hu_of hr
    have hu0 := hr.units0
    obtain ⟨i, l, rfl, h0, q⟩ := h
    refine ⟨_, pss_one (ps_if (pt_not (pt_val (pe_call (ok_is_from D) (hr.mono (by decide)) (by rfl) D.h_is_from.gl D.h_is_from.fn.kp D.h_is_from.bd .nil pass0 (pa_cons (pv 0) (pa_cons (pv 1) pa_nil))))) (pss_one ps_never) pss_nil), ?_⟩
    refine ⟨_, rfl, _, rfl, .int i, l, rfl, .int i, _, rfl, ?_⟩
    have e : fromB (.int i) l = true := decide_eq_true h0
    rw [e]
    exact iteF q
theorem sc_History___init__ : FnScope ["self"] ["self"] (defScope s_History___init__) := ⟨rfl, rfl, rfl, by decide +kernel, rfl, by decide +kernel, by decide +kernel⟩
theorem ok_History___init__ (D : All K P mg) : FnOk P w K mg base CX0 1 D.f_History___init__ D.d_History___init__ ["self"] (spHInit D.C_History) := by
  refine D.h_History___init__.fn.ok sc_History___init__ (fun vs H Q E h => ?_) (fun cdv A outer s H vs Q E hr h => ?_)
  · first | (obtain ⟨_, rfl, _⟩ := h; rfl) | (obtain ⟨_, _, rfl, _⟩ := h; rfl) | (obtain ⟨_, _, _, rfl, _⟩ := h; rfl) | (obtain ⟨_, _, _, _, rfl, _⟩ := h; rfl) | (obtain ⟨_, _, _, _, _, rfl, _⟩ := h; rfl) | (obtain ⟨_, _, _, _, _, _, rfl, _⟩ := h; rfl) | (obtain ⟨_, _, _, _, _, _, _, rfl, _⟩ := h; rfl) | (obtain ⟨_, _, _, _, _, _, _, _, rfl, _⟩ := h; rfl) | (obtain ⟨_, _, _, _, _, _, _, _, _, rfl, _⟩ := h; rfl) | (obtain ⟨_, _, _, _, _, _, _, _, _, _, rfl, _⟩ := h; rfl) | (obtain ⟨_, _, _, _, _, _, _, _, _, _, _, rfl, _⟩ := h; rfl) | (obtain ⟨_, _, _, _, _, _, _, _, _, _, _, _, rfl, _⟩ := h; rfl) | (obtain ⟨_, _, _, _, _, _, _, _, _, _, _, _, _, rfl, _⟩ := h; rfl) | (obtain ⟨_, _, _, _, _, _, _, _, _, _, _, _, _, _, rfl, _⟩ := h; rfl) | (obtain ⟨_, _, _, _, _, _, _, _, _, _, _, _, _, _, _, rfl, _⟩ := h; rfl)
  · have T := D.T
    have nd := sc_History___init__.nd
    have hu := hr.units
    have hu1 := hu_of hr
    have hu0 := hr.units0
    obtain ⟨x, dx, rfl, hx, q⟩ := h
    refine ⟨_, pss_one (ps_fld (pv 0) pe_dnewK rfl), ?_⟩
    refine fun N nN => ?_
    have nx : x ≠ N := ne_of_none hx nN
    have s1 := same_upd (o := .dK []) nN
    have eN := upd_same (H := H) (a := N) (o := .dK [])
    generalize upd H N (.dK []) = H1 at *
    refine ⟨_, rfl, x, _, dx, _, rfl, s1 _ _ hx, D.Z_History.cl, D.n_History_by_day, by decide, ?_⟩
    refine q ⟨x, dx, N, [], []⟩ _ rfl rfl rfl nN ⟨upd_same, ?_, .nil, List.nodup_cons.mpr ⟨fun h => nx (List.mem_singleton.mp h), List.nodup_cons.mpr ⟨nofun, List.nodup_nil⟩⟩, List.nodup_nil⟩ (SameB.upd (SameB.of s1))
    show upd H1 x _ N = _
    rw [upd_ne nx.symm]
    exact eN
theorem sc_History_note : FnScope ["self", "known", "day", "worth", "told"] ["self", "known", "day", "worth"] (defScope s_History_note) := ⟨rfl, rfl, rfl, by decide +kernel, rfl, by decide +kernel, by decide +kernel⟩
theorem ok_History_note (D : All K P mg) : FnOk P w K mg base CX0 1 D.f_History_note D.d_History_note ["self", "known", "day", "worth"] (spNote D.C_History) := by
  refine D.h_History_note.fn.ok sc_History_note (fun vs H Q E h => ?_) (fun cdv A outer s H vs Q E hr h => ?_)
  · first | (obtain ⟨_, rfl, _⟩ := h; rfl) | (obtain ⟨_, _, rfl, _⟩ := h; rfl) | (obtain ⟨_, _, _, rfl, _⟩ := h; rfl) | (obtain ⟨_, _, _, _, rfl, _⟩ := h; rfl) | (obtain ⟨_, _, _, _, _, rfl, _⟩ := h; rfl) | (obtain ⟨_, _, _, _, _, _, rfl, _⟩ := h; rfl) | (obtain ⟨_, _, _, _, _, _, _, rfl, _⟩ := h; rfl) | (obtain ⟨_, _, _, _, _, _, _, _, rfl, _⟩ := h; rfl) | (obtain ⟨_, _, _, _, _, _, _, _, _, rfl, _⟩ := h; rfl) | (obtain ⟨_, _, _, _, _, _, _, _, _, _, rfl, _⟩ := h; rfl) | (obtain ⟨_, _, _, _, _, _, _, _, _, _, _, rfl, _⟩ := h; rfl) | (obtain ⟨_, _, _, _, _, _, _, _, _, _, _, _, rfl, _⟩ := h; rfl) | (obtain ⟨_, _, _, _, _, _, _, _, _, _, _, _, _, rfl, _⟩ := h; rfl) | (obtain ⟨_, _, _, _, _, _, _, _, _, _, _, _, _, _, rfl, _⟩ := h; rfl) | (obtain ⟨_, _, _, _, _, _, _, _, _, _, _, _, _, _, _, rfl, _⟩ := h; rfl)
  · have T := D.T
    have nd := sc_History_note.nd
    have hu := hr.units
    have hu1 := hu_of hr
    have hu0 := hr.units0
    obtain ⟨a, kn, d, w, rfl, W, ok, q⟩ := h
    refine ⟨_, pss_cons (ps_set (i := 4) nd rfl (.inl rfl) (pe_dsetd (pe_fld (pv 0) rfl) (pv 2) pe_dnewK ⟨rfl, rfl, rfl, rfl⟩))
      (pss_one (ps_dput hu1 (pv 4) (pv 1) (pv 3) rfl)), ?_⟩
    have gl := W.glen
    have gl2 := ok.1
    refine ⟨_, rfl, a.x, _, a.dx, _, _, rfl, W.ix, D.Z_History.cl, D.n_History_by_day, rfl, a.D, rfl, .inl ⟨_, .inl W.bd⟩, _, rfl, fun T nT => ?_⟩
    have s1 := same_upd (o := .dK []) nT
    have eT := upd_same (H := H) (a := T) (o := .dK [])
    generalize upd H T (.dK []) = H1 at *
    have W1 := W.mono s1
    refine ⟨dayK a.g, .inl d, W1.bd, rfl, by rw [day_len]; exact small2k (by omega), fun v hv => ?_, fun hn => ?_⟩
    · rw [day_val] at hv
      rcases paired_at (d := d) W1.ta with ⟨e, _⟩ | ⟨T0, t, e1, e2, e3⟩
      · rw [e] at hv
        cases hv
      · rw [e1] at hv
        cases hv
        have tl := ok.2 (d, t) (getA_mem e2)
        have tl : t.length ≤ 60 := tl
        refine ⟨_, rfl, _, rfl, _, rfl, _, _, rfl, DPut.k (k := Sum.inl kn) e3 (by rw [told_len]; exact small2k (by omega)), ?_⟩
        rw [told_put]
        have mT : T0 ∈ a.fp := List.mem_cons_of_mem _ (List.mem_cons_of_mem _ (List.mem_map.mpr ⟨_, getA_mem e1, rfl⟩))
        exact q { a with h := noteH a.h kn d w } _ rfl rfl (W1.note1 e1 e2 upd_same fun c n o e => by rw [upd_ne n]; exact e) (fun c hc => .inl hc) (SameL.upd mT (SameL.of s1))
    · rw [day_val] at hn
      rcases paired_at (d := d) W1.ta with ⟨e1, e2⟩ | ⟨T0, t, e1, e2, e3⟩
      · have nD : T ≠ a.D := fun z => by
          rw [z, W.bd] at nT
          cases nT
        have eT2 : upd H1 a.D (.dK (putK (dayK a.g) (Sum.inl d) (V.ref T))) T = some (.dK (toldK [])) := by rw [upd_ne nD]; exact eT
        refine ⟨_, rfl, _, rfl, _, rfl, _, _, rfl, DPut.k (k := Sum.inl kn) eT2 (by decide), ?_⟩
        rw [told_put, day_put, putA_new e1]
        have mD : a.D ∈ a.fp := List.mem_cons_of_mem _ List.mem_cons_self
        refine q { a with g := a.g ++ [(d, T)], h := noteH a.h kn d w } _ rfl rfl (W.note2 e1 e2 nT upd_same ?_ ?_) ?_ ?_
        · rw [upd_ne nD.symm]
          exact upd_same
        · intro c n1 n2 o e
          rw [upd_ne n1, upd_ne n2]
          exact s1 _ _ e
        · intro c hc
          rcases List.mem_cons.mp hc with rfl | hc
          · exact .inl List.mem_cons_self
          rcases List.mem_cons.mp hc with rfl | hc
          · exact .inl mD
          rw [List.map_append, List.mem_append] at hc
          rcases hc with hc | hc
          · exact .inl (List.mem_cons_of_mem _ (List.mem_cons_of_mem _ hc))
          · rw [List.mem_singleton.mp hc]
            exact .inr nT
        · intro c o n e
          rw [upd_ne (ne_of_none e nT), upd_ne (fun z : c = a.D => n (by rw [z]; exact mD))]
          exact s1 _ _ e
      · rw [e1] at hn
        cases hn
theorem sc_History_told_last : FnScope ["self", "day", "known", "told", "counting", "each"] ["self", "day", "known"] (defScope s_History_told_last) := ⟨rfl, rfl, rfl, by decide +kernel, rfl, by decide +kernel, by decide +kernel⟩
theorem ok_History_told_last (D : All K P mg) : FnOk P w K mg base CX0 1 D.f_History_told_last D.d_History_told_last ["self", "day", "known"] (spLast D.C_History) := by
  refine D.h_History_told_last.fn.ok sc_History_told_last (fun vs H Q E h => ?_) (fun cdv A outer s H vs Q E hr h => ?_)
  · first | (obtain ⟨_, rfl, _⟩ := h; rfl) | (obtain ⟨_, _, rfl, _⟩ := h; rfl) | (obtain ⟨_, _, _, rfl, _⟩ := h; rfl) | (obtain ⟨_, _, _, _, rfl, _⟩ := h; rfl) | (obtain ⟨_, _, _, _, _, rfl, _⟩ := h; rfl) | (obtain ⟨_, _, _, _, _, _, rfl, _⟩ := h; rfl) | (obtain ⟨_, _, _, _, _, _, _, rfl, _⟩ := h; rfl) | (obtain ⟨_, _, _, _, _, _, _, _, rfl, _⟩ := h; rfl) | (obtain ⟨_, _, _, _, _, _, _, _, _, rfl, _⟩ := h; rfl) | (obtain ⟨_, _, _, _, _, _, _, _, _, _, rfl, _⟩ := h; rfl) | (obtain ⟨_, _, _, _, _, _, _, _, _, _, _, rfl, _⟩ := h; rfl) | (obtain ⟨_, _, _, _, _, _, _, _, _, _, _, _, rfl, _⟩ := h; rfl) | (obtain ⟨_, _, _, _, _, _, _, _, _, _, _, _, _, rfl, _⟩ := h; rfl) | (obtain ⟨_, _, _, _, _, _, _, _, _, _, _, _, _, _, rfl, _⟩ := h; rfl) | (obtain ⟨_, _, _, _, _, _, _, _, _, _, _, _, _, _, _, rfl, _⟩ := h; rfl)
  · have T := D.T
    have nd := sc_History_told_last.nd
    have hu := hr.units
    have hu1 := hu_of hr
    have hu0 := hr.units0
    obtain ⟨a, d, kn, rfl, W, ok, q⟩ := h
    refine ⟨_, pss_cons (ps_set (i := 3) nd rfl (.inl rfl) (pe_dget2 hu1 (pe_fld (pv 0) rfl) (pv 1) pe_dnewK ⟨rfl, rfl, rfl, rfl⟩))
      (pss_cons (ps_lock (ps_setLc (i := 4) (own := [("each", 5)]) (g := gName 5) rfl nd rfl rfl (sw_true rfl rfl rfl (by decide +kernel)) (pi_keys (pv 3)) (blkOk_by (N := ["self", "day", "known", "told", "counting", "each"]) (sc := defScope s_History_told_last) (by decide +kernel)) (fun _ _ _ _ _ => (pg_name (i := 5) nd rfl (Or.inl rfl))) (fun _ _ _ _ _ => pts_one (PW.pt (pw_or (pt_cmpR op_isN (pv 2) pe_non (nomark _)) (pw_or1 (pt_cmpR op_le (pv 5) (pv 2) (nomark _)))))) (fun _ _ _ _ _ => (pv 5))))
      (pss_one (ps_ret (pe_ifExp (pt_truth (pv 4) (by intro _; rfl)) (pe_dget hu1 (pv 3) (pe_callB (cr_max rfl) (by rfl) T.max (by decide +kernel) (pa_cons (pv 4) pa_nil)) (fun _ _ => rfl)) pe_non)))), ?_⟩
    refine ⟨_, rfl, a.x, _, a.dx, _, _, rfl, W.ix, D.Z_History.cl, D.n_History_by_day, rfl, a.D, rfl, .inl ⟨_, .inl W.bd⟩, _, rfl, fun T nT => ?_⟩
    have s1 := same_upd (o := .dK []) nT
    have eT := upd_same (H := H) (a := T) (o := .dK [])
    generalize upd H T (.dK []) = H1 at *
    have W1 := W.mono s1
    refine ⟨_, DGet.k (k := Sum.inl d) W1.bd, ?_⟩
    have two : ∃ (c : Addr) (t : Told), (valV (dayK a.g) (Sum.inl d)).getD (.ref T) = .ref c ∧ H1 c = some (.dK (toldK t)) ∧ t = (getA a.h d).getD [] ∧ t.length ≤ 60 := by
      rw [day_val]
      rcases paired_at (d := d) W1.ta with ⟨e1, e2⟩ | ⟨T0, t, e1, e2, e3⟩
      · rw [e1, e2]
        exact ⟨T, [], rfl, eT, rfl, by decide⟩
      · rw [e1, e2]
        exact ⟨T0, t, rfl, e3, rfl, ok.2 (d, t) (getA_mem e2)⟩
    obtain ⟨c, t, ec, hc, et, tl⟩ := two
    rw [ec]
    rw [← et] at q
    refine ⟨c, _, hc, trivial, fun od => ?_⟩
    have ef := upd_same (H := H1) (a := c) (o := .frz od (.dK (toldK t)))
    refine ⟨_, rfl, c, od, rfl, .inl ⟨_, ef, fun F nF => ?_⟩⟩
    have nFc : F ≠ c := fun e => by rw [e, ef] at nF; cases nF
    refine lc_it walk_enk (fun i H' => Same (upd H1 c (.frz od (.dK (toldK t)))) H' ∧ H' F = some (.lst ((((t.take i).map (·.1)).filter (ctK kn)).map V.int))) ⟨same_upd nF, upd_same⟩ (fun i H' _ ⟨s, _⟩ => s _ _ ef) ?_ ?_
    · rintro i x H2 H3 hi ⟨s2, eF⟩ ⟨rfl, p, hp, rfl⟩
      have grow : ((t.take (i + 1)).map (·.1)).filter (ctK kn) = ((t.take i).map (·.1)).filter (ctK kn) ++ if ctK kn p.1 = true then [p.1] else [] := by
        rw [← take_more (·.1) hp, List.filter_append, List.filter_cons, List.filter_nil]
      have ln : (((((t.take i).map (·.1)).filter (ctK kn)).map V.int)).length < sizeLine := by
        rw [List.length_map]
        refine small2k (Nat.le_trans (List.length_filter_le _ _) ?_)
        rw [List.length_map, List.length_take]
        omega
      have keep : ctK kn p.1 = true → Same (upd H1 c (.frz od (.dK (toldK t)))) (upd H3 F (.lst ((((t.take i).map (·.1)).filter (ctK kn)).map V.int ++ [V.int p.1]))) ∧ upd H3 F (.lst ((((t.take i).map (·.1)).filter (ctK kn)).map V.int ++ [V.int p.1])) F = some (.lst ((((t.take (i + 1)).map (·.1)).filter (ctK kn)).map V.int)) := fun h => by
        refine ⟨same_app nF s2, ?_⟩
        rw [upd_same, grow, if_pos h, List.map_append]
        rfl
      refine ⟨rfl, _, rfl, rfl, _, rfl, ?_⟩
      cases kn with
      | none => exact ⟨_, rfl, _, eF, ln, keep rfl⟩
      | some k =>
        refine iteF ⟨_, rfl, _, rfl, _, _, rfl, rfl, _, rfl, ?_⟩
        by_cases hk : p.1 ≤ k
        · rw [decide_eq_true hk]
          exact ⟨_, rfl, _, eF, ln, keep (decide_eq_true hk)⟩
        · rw [decide_eq_false hk]
          refine ⟨s2, ?_⟩
          rw [eF, grow, if_neg (show ¬ ctK (some k) p.1 = true from fun h => hk (of_decide_eq_true h)), List.append_nil]
    · rintro H2 ⟨s2, eF⟩
      rw [List.take_length] at eF
      refine ⟨s2 _ _ ef, ?_⟩
      have s3 : Same H1 (upd H2 c (.dK (toldK t))) := lock_back hc s2
      have eF3 : upd H2 c (.dK (toldK t)) F = some (.lst (((t.map (·.1)).filter (ctK kn)).map V.int)) := by rw [upd_ne nFc]; exact eF
      have hc3 : upd H2 c (.dK (toldK t)) c = some (.dK (toldK t)) := upd_same
      generalize upd H2 c (.dK (toldK t)) = H3 at *
      refine ⟨_, rfl, _, .inl ⟨_, SqL.of eF3, rfl⟩, ?_⟩
      have s13 := s1.trans s3
      cases hn : (t.map (·.1)).filter (ctK kn) with
      | nil =>
        refine iteF (q .non H3 (.inl ⟨fun p hp => ?_, rfl⟩) s13)
        rw [List.filter_eq_nil_iff] at hn
        exact bool_false (hn p.1 (List.mem_map.mpr ⟨p, hp, rfl⟩))
      | cons n0 ns =>
        refine iteT ⟨_, rfl, _, rfl, F, n0 :: ns, rfl, by rw [← hn]; exact SqL.of eF3, by simp, fun m hm hle => ?_⟩
        rw [← hn] at hm hle
        obtain ⟨hm1, hm2⟩ := List.mem_filter.mp hm
        obtain ⟨p, hp, rfl⟩ := List.mem_map.mp hm1
        have hg : ∃ w, getA t p.1 = some w := by
          cases e : getA t p.1 with
          | none => exact absurd hm1 (getA_none_iff.mp e)
          | some w => exact ⟨w, rfl⟩
        obtain ⟨w, hw⟩ := hg
        have dg : DGet H3 c (.int p.1) (some w) := by
          have := DGet.k (k := Sum.inl p.1) hc3
          rw [told_val, hw] at this
          exact this
        exact ⟨c, _, rfl, dg, q w H3 (.inr ⟨p.1, hw, hm2, fun p' hp' hc' => hle _ (List.mem_filter.mpr ⟨List.mem_map.mpr ⟨p', hp', rfl⟩, hc'⟩)⟩) s13⟩
theorem sc_History_holding : FnScope ["self", "known", "rows", "day", "worth"] ["self", "known"] (defScope s_History_holding) := ⟨rfl, rfl, rfl, by decide +kernel, rfl, by decide +kernel, by decide +kernel⟩
theorem ok_History_holding (D : All K P mg) : FnOk P w K mg base CX0 2 D.f_History_holding D.d_History_holding ["self", "known"] (spHolding D.C_History) := by
  refine D.h_History_holding.fn.ok sc_History_holding (fun vs H Q E h => ?_) (fun cdv A outer s H vs Q E hr h => ?_)
  · first | (obtain ⟨_, rfl, _⟩ := h; rfl) | (obtain ⟨_, _, rfl, _⟩ := h; rfl) | (obtain ⟨_, _, _, rfl, _⟩ := h; rfl) | (obtain ⟨_, _, _, _, rfl, _⟩ := h; rfl) | (obtain ⟨_, _, _, _, _, rfl, _⟩ := h; rfl) | (obtain ⟨_, _, _, _, _, _, rfl, _⟩ := h; rfl) | (obtain ⟨_, _, _, _, _, _, _, rfl, _⟩ := h; rfl) | (obtain ⟨_, _, _, _, _, _, _, _, rfl, _⟩ := h; rfl) | (obtain ⟨_, _, _, _, _, _, _, _, _, rfl, _⟩ := h; rfl) | (obtain ⟨_, _, _, _, _, _, _, _, _, _, rfl, _⟩ := h; rfl) | (obtain ⟨_, _, _, _, _, _, _, _, _, _, _, rfl, _⟩ := h; rfl) | (obtain ⟨_, _, _, _, _, _, _, _, _, _, _, _, rfl, _⟩ := h; rfl) | (obtain ⟨_, _, _, _, _, _, _, _, _, _, _, _, _, rfl, _⟩ := h; rfl) | (obtain ⟨_, _, _, _, _, _, _, _, _, _, _, _, _, _, rfl, _⟩ := h; rfl) | (obtain ⟨_, _, _, _, _, _, _, _, _, _, _, _, _, _, _, rfl, _⟩ := h; rfl)
  · have T := D.T
    have nd := sc_History_holding.nd
    have hu := hr.units
    have hu1 := hu_of hr
    have hu0 := hr.units0
    obtain ⟨a, kn, rfl, W, ok, q⟩ := h
    refine ⟨_, pss_cons (ps_setLc (i := 2) (own := [("day", 3)]) (g := gName 3) (tt := tYes) rfl nd rfl rfl (sw_true rfl rfl rfl (by decide +kernel)) (pi_list (pe_callB (call_sortedDI rfl) (by rfl) T.sorted (by decide +kernel) (pa_cons (pe_fld (pv 0) rfl) pa_nil))) (blkOk_by (N := ["self", "known", "rows", "day", "worth"]) (sc := defScope s_History_holding) (by decide +kernel)) (fun _ _ _ _ _ => (pg_name (i := 3) nd rfl (Or.inl rfl))) (fun _ _ _ _ _ => pts_nil) (fun _ _ _ _ _ => (pe_tup (pa_cons (pv 3) (pa_cons (pe_meth (pv 0) D.Z_History.cl D.h_History_told_last.me (ok_History_told_last D) (hr.mono (by decide)) D.h_History_told_last.bd .nil pass0 (pa_cons (pv 3) (pa_cons (pv 1) pa_nil))) pa_nil)))))
      (pss_one (ps_ret (pe_lc (own := [("day", 3), ("worth", 4)]) (g := gTup K 2 (gCons (gName 3) (gCons (gName 4) gNil))) rfl nd (pi_list (pv 2)) (blkOk_by (N := ["self", "known", "rows", "day", "worth"]) (sc := defScope s_History_holding) (by decide +kernel)) (fun _ _ _ _ _ => (pg_tup rfl (pgs_cons (pg_name (i := 3) nd rfl (Or.inl rfl)) (pgs_cons (pg_name (i := 4) nd rfl (Or.inl rfl)) pgs_nil)))) (fun _ _ _ _ _ => pts_one (pt_cmpR op_notN (pv 4) pe_non (nomark _))) (fun _ _ _ _ _ => (pe_tup (pa_cons (pv 3) (pa_cons (pv 4) pa_nil))))))), ?_⟩
    have gl := W.glen
    have gl2 := ok.1
    refine ⟨_, rfl, a.x, _, a.dx, _, _, rfl, W.ix, D.Z_History.cl, D.n_History_by_day, rfl, a.D, _, a.g.map (·.1), rfl, .inl W.bd, dayK_keys _, by rw [List.length_map]; omega, fun ys Y perm up nY => ?_⟩
    have s1 := same_upd (o := .lst (ys.map V.int)) nY
    have eY := upd_same (H := H) (a := Y) (o := .lst (ys.map V.int))
    generalize upd H Y (.lst (ys.map V.int)) = H1 at *
    have W1 := W.mono s1
    have ylen : ys.length ≤ 60 := by rw [perm.length_eq, List.length_map]; omega
    refine ⟨Y, rfl, ⟨_, SqL.of eY⟩, fun F nF => ?_⟩
    refine lc_list (K := K) (a := Y) (xs := ys.map V.int) (fun i H' => Same H1 H' ∧ ∃ (ts : List Addr) (rs : List (Int × V)), H' F = some (.lst (ts.map V.ref)) ∧ RowsP H' ts rs ∧ rs.map (·.1) = ys.take i ∧ ∀ p ∈ rs, LastW ((getA a.h p.1).getD []) kn p.2)
      ⟨same_upd nF, [], [], upd_same, .nil, rfl, nofun⟩ (fun i H' _ ⟨s, _⟩ => SqL.of (s _ _ eY)) ?_ ?_
    · rintro i x H2 hx ⟨s2, ts, rs, eF, hp, ek, hl⟩
      rw [List.getElem?_map, Option.map_eq_some_iff] at hx
      obtain ⟨y, hy, rfl⟩ := hx
      have W2 := W1.mono s2
      refine ⟨rfl, _, rfl, _, rfl, a.x, a.dx, _, rfl, W2.ix, rfl, _, rfl, _, rfl, a, y, kn, rfl, W2, ok, fun w H3 lw s3 => ?_⟩
      refine ⟨by show 2 ≤ sizeLine; decide, fun t nt => ?_⟩
      have s4 := same_upd (o := .tup [V.int y, w]) nt
      have et := upd_same (H := H3) (a := t) (o := .tup [V.int y, w])
      generalize upd H3 t (.tup [V.int y, w]) = H4 at *
      have eF4 := s4 _ _ (s3 _ _ eF)
      have hl2 : ts.length = rs.length := Paired.length hp
      have hl3 : rs.length ≤ 60 := by
        have := congrArg List.length ek
        rw [List.length_map, List.length_take] at this
        omega
      refine ⟨_, eF4, by rw [List.length_map]; exact small2k (by omega), same_app nF (s2.trans (s3.trans s4)), ts ++ [t], rs ++ [(y, w)], ?_, ?_, ?_, ?_⟩
      · rw [upd_same, List.map_append]
        rfl
      · exact ((hp.mono (s3.trans s4)).snoc et).upd eF4
      · rw [List.map_append, ek, List.take_add_one, hy]
        rfl
      · intro p hp
        rcases List.mem_append.mp hp with hp | hp
        · exact hl p hp
        · rw [List.mem_singleton.mp hp]
          exact lw
    · rintro H2 ⟨s2, ts, rs, eF, hp, ek, hl⟩
      rw [List.length_map, List.take_length] at ek
      have hl2 : ts.length = rs.length := Paired.length hp
      have hl3 : rs.length = ys.length := by
        have := congrArg List.length ek
        rw [List.length_map] at this
        exact this
      refine ⟨_, rfl, F, rfl, ⟨_, SqL.of eF⟩, fun G nG => ?_⟩
      refine lc_list (K := K) (a := F) (xs := ts.map V.ref) (fun i H' => Same H2 H' ∧ ∃ (us : List Addr), H' G = some (.lst (us.map V.ref)) ∧ RowsP H' us ((rs.take i).filter fun p => !decide (p.2 = .non)))
        ⟨same_upd nG, [], upd_same, .nil⟩ (fun i H' _ ⟨s, _⟩ => SqL.of (s _ _ eF)) ?_ ?_
      · rintro i x H3 hx ⟨s3, us, eG, hu'⟩
        obtain ⟨t, p, rfl, hpi, ht⟩ := hp.at_ hx
        have ht3 := s3 _ _ ht
        have grow : ((rs.take (i + 1)).filter fun p => !decide (p.2 = .non)) = ((rs.take i).filter fun p => !decide (p.2 = .non)) ++ if (!decide (p.2 = .non)) = true then [p] else [] := by
          rw [List.take_add_one, hpi, List.filter_append]
          show _ ++ List.filter _ [p] = _
          rw [List.filter_cons, List.filter_nil]
        refine ⟨t, _, rfl, SqT.of ht3, rfl, _, _, rfl, _, _, rfl, rfl, rfl, _, rfl, rfl, _, rfl, ?_⟩
        cases hn : (!decide (p.2 = .non)) with
        | false =>
          rw [hn, if_neg (by nofun), List.append_nil] at grow
          refine ⟨s3, us, eG, ?_⟩
          rw [grow]
          exact hu'
        | true =>
          rw [hn, if_pos rfl] at grow
          refine ⟨_, rfl, _, rfl, by show 2 ≤ sizeLine; decide, fun u nu => ?_⟩
          have s4 := same_upd (o := .tup [V.int p.1, p.2]) nu
          have eu := upd_same (H := H3) (a := u) (o := .tup [V.int p.1, p.2])
          generalize upd H3 u (.tup [V.int p.1, p.2]) = H4 at *
          have eG4 := s4 _ _ eG
          have ul : us.length ≤ 60 := by
            rw [Paired.length hu']
            refine Nat.le_trans (List.length_filter_le _ _) ?_
            rw [List.length_take]
            omega
          refine ⟨_, eG4, by rw [List.length_map]; exact small2k (by omega), same_app nG (s3.trans s4), us ++ [u], ?_, ?_⟩
          · rw [upd_same, List.map_append]
            rfl
          · rw [grow]
            exact ((hu'.mono s4).snoc eu).upd eG4
      · rintro H3 ⟨s3, us, eG, hu'⟩
        rw [List.length_map, hl2, List.take_length] at hu'
        have gk : (a.g.map (·.1)).Nodup := by rw [paired_keys W.ta]; exact W.nk
        refine q G _ H3 (s1.trans s2 |>.free nG) ⟨us, eG, hu'⟩ (hold_of W.nk (by rw [← paired_keys W.ta]; exact perm) up ek hl) (s1.trans (s2.trans s3))
theorem sc_are_ranks : FnScope ["thing", "name", "rank"] ["thing"] (defScope s_are_ranks) := ⟨rfl, rfl, rfl, by decide +kernel, rfl, by decide +kernel, by decide +kernel⟩
theorem ok_are_ranks (D : All K P mg) : FnOk P w K mg base CX0 3 D.f_are_ranks D.d_are_ranks ["thing"] spRanks := by
  refine D.h_are_ranks.fn.ok sc_are_ranks (fun vs H Q E h => ?_) (fun cdv A outer s H vs Q E hr h => ?_)
  · first | (obtain ⟨_, rfl, _⟩ := h; rfl) | (obtain ⟨_, _, rfl, _⟩ := h; rfl) | (obtain ⟨_, _, _, rfl, _⟩ := h; rfl) | (obtain ⟨_, _, _, _, rfl, _⟩ := h; rfl) | (obtain ⟨_, _, _, _, _, rfl, _⟩ := h; rfl) | (obtain ⟨_, _, _, _, _, _, rfl, _⟩ := h; rfl) | (obtain ⟨_, _, _, _, _, _, _, rfl, _⟩ := h; rfl) | (obtain ⟨_, _, _, _, _, _, _, _, rfl, _⟩ := h; rfl) | (obtain ⟨_, _, _, _, _, _, _, _, _, rfl, _⟩ := h; rfl) | (obtain ⟨_, _, _, _, _, _, _, _, _, _, rfl, _⟩ := h; rfl) | (obtain ⟨_, _, _, _, _, _, _, _, _, _, _, rfl, _⟩ := h; rfl) | (obtain ⟨_, _, _, _, _, _, _, _, _, _, _, _, rfl, _⟩ := h; rfl) | (obtain ⟨_, _, _, _, _, _, _, _, _, _, _, _, _, rfl, _⟩ := h; rfl) | (obtain ⟨_, _, _, _, _, _, _, _, _, _, _, _, _, _, rfl, _⟩ := h; rfl) | (obtain ⟨_, _, _, _, _, _, _, _, _, _, _, _, _, _, _, rfl, _⟩ := h; rfl)
  · have T := D.T
    have nd := sc_are_ranks.nd
    have hu := hr.units
    have hu1 := hu_of hr
    have hu0 := hr.units0
    obtain ⟨r, rk, rfl, hr', k, q⟩ := h
    refine ⟨_, pss_cons (ps_if (PW.pt (pw_or (pt_not (pt_val (pe_callB call_isi (by rfl) T.isi (by decide +kernel) (pa_cons (pv 0) (pa_cons (pe_bltn (v := .ty "dict") (by rfl) T.dict (by decide +kernel) rfl) pa_nil))))) (pw_or1 (pt_cmpR op_gt (pe_callB call_lenD (by rfl) T.len PySem.boot_len (pa_cons (pv 0) pa_nil)) (pe_glob (v := .int (30)) (by rfl) D.g_MOST_KEEPERS ⟨_, rfl⟩) (nomark _))))) (pss_one (ps_ret pe_bl)) pss_nil)
      (pss_one (ps_ret (pe_callB (cr_all rfl) (by rfl) T.all (by decide +kernel) (pa_cons (pe_lock (pe_lc (own := [("name", 1), ("rank", 2)]) (g := gTup K 2 (gCons (gName 1) (gCons (gName 2) gNil))) (tt := tYes) rfl nd (pi_items (pv 0)) (blkOk_by (N := ["thing", "name", "rank"]) (sc := defScope s_are_ranks) (by decide +kernel)) (fun _ _ _ _ _ => (pg_tup rfl (pgs_cons (pg_name (i := 1) nd rfl (Or.inl rfl)) (pgs_cons (pg_name (i := 2) nd rfl (Or.inl rfl)) pgs_nil)))) (fun _ _ _ _ _ => pts_nil) (fun _ _ _ _ _ => (pe_and (pe_call (ok_is_name D) (hr.mono (by decide)) (by rfl) D.h_is_name.gl D.h_is_name.fn.kp D.h_is_name.bd .nil pass0 (pa_cons (pv 1) pa_nil)) (pe_one (pe_call (ok_is_within D) (hr.mono (by decide)) (by rfl) D.h_is_within.gl D.h_is_within.fn.kp D.h_is_within.bd .nil pass0 (pa_cons (pv 2) (pa_cons (pe_glob (v := .int (1)) (by rfl) D.g_HIGHEST_RANK ⟨_, rfl⟩) (pa_cons (pe_glob (v := .int (9)) (by rfl) D.g_LOWEST_RANK ⟨_, rfl⟩) pa_nil))))))))) pa_nil)))), ?_⟩
    have kl := k.ln
    refine ⟨_, rfl, .ref r, .ty "dict", _, _, true, rfl, .ty _, .base (.dK hr'), kit_ty (show kitB "dict" "dict" = some true by decide +kernel), _, rfl, ?_⟩
    refine iteF ⟨_, rfl, r, _, rfl, hr', _, _, rfl, rfl, _, rfl, ?_⟩
    rw [decide_eq_false (by rw [sd_len]; omega)]
    refine iteF ⟨r, _, hr', trivial, fun od => ?_⟩
    have ed := upd_same (H := H) (a := r) (o := .frz od (.dK (sd rk)))
    refine ⟨_, rfl, r, od, _, rfl, ed, fun F nF => ?_⟩
    have nFr : F ≠ r := fun e => by rw [e, ed] at nF; cases nF
    refine lc_it walk_rows (fun i H' => Same (upd H r (.frz od (.dK (sd rk)))) H' ∧ H' F = some (.lst ((List.replicate i true).map V.bl))) ⟨same_upd nF, upd_same⟩ (fun i H' _ ⟨s, _⟩ => s _ _ ed) ?_ ?_
    · rintro i x H1 H2 hi ⟨s1, eF⟩ ⟨T', p, hp, rfl, nT, rfl⟩
      have hm := List.mem_of_getElem? hp
      have hb := k.b1 p hm
      have hn := k.nm p hm
      have l8 := hn.l8
      refine ⟨T', _, rfl, SqT.of upd_same, rfl, _, _, rfl, _, _, rfl, rfl, rfl, ?_⟩
      have sT := same_upd (o := .tup [.str p.1, .int p.2]) nT
      refine ⟨_, rfl, .str p.1, rfl, .str _, fun z hz => by cases hz; rw [sizeLine_eq]; omega, fun H3 s3 => ⟨_, rfl, ?_⟩⟩
      rw [hn.b]
      refine ⟨_, rfl, .int p.2, 1, 9, rfl, .int _, ?_⟩
      have e : withinB (.int p.2) 1 9 = true := by
        show (decide (1 ≤ p.2) && decide (p.2 ≤ 9)) = true
        rw [decide_eq_true hb.1, decide_eq_true hb.2]
        rfl
      rw [e]
      refine ⟨_, s3 _ _ (sT _ _ eF), small2k (by rw [List.length_map, List.length_replicate]; omega), same_app nF (s1.trans (sT.trans s3)), ?_⟩
      rw [upd_same, ← rep_succ, List.map_append]
      rfl
    · rintro H1 ⟨s1, eF⟩
      refine ⟨s1 _ _ ed, F, List.replicate rk.length true, rfl, SqL.of ?_, ?_⟩
      · rw [upd_ne nFr]
        exact eF
      · rw [rep_all]
        exact q _ (lock_back hr' s1)
end
end K80
set_option Elab.async false
set_option linter.all false
set_option maxRecDepth 100000
set_option maxHeartbeats 1600000
set_option pp.maxSteps 300
namespace K80
open PySem PySem.Spec PyProof.Rows L2 LT NdefX
section
variable {P : Program} {w : World} {K : PySem.W.Frag} {mg : Str → Option Value} {base : Heap}
theorem sc_Book___init__ : FnScope ["self", "ranks", "keeper"] ["self", "ranks"] (defScope s_Book___init__) := ⟨rfl, rfl, rfl, by decide +kernel, rfl, by decide +kernel, by decide +kernel⟩
theorem ok_Book___init__ (D : All K P mg) : FnOk P w K mg base CX0 4 D.f_Book___init__ D.d_Book___init__ ["self", "ranks"] (spBInit D.C_Book D.C_History) := by
  refine D.h_Book___init__.fn.ok sc_Book___init__ (fun vs H Q E h => ?_) (fun cdv A outer s H vs Q E hr h => ?_)
  · first | (obtain ⟨_, rfl, _⟩ := h; rfl) | (obtain ⟨_, _, rfl, _⟩ := h; rfl) | (obtain ⟨_, _, _, rfl, _⟩ := h; rfl) | (obtain ⟨_, _, _, _, rfl, _⟩ := h; rfl) | (obtain ⟨_, _, _, _, _, rfl, _⟩ := h; rfl) | (obtain ⟨_, _, _, _, _, _, rfl, _⟩ := h; rfl) | (obtain ⟨_, _, _, _, _, _, _, rfl, _⟩ := h; rfl) | (obtain ⟨_, _, _, _, _, _, _, _, rfl, _⟩ := h; rfl) | (obtain ⟨_, _, _, _, _, _, _, _, _, rfl, _⟩ := h; rfl) | (obtain ⟨_, _, _, _, _, _, _, _, _, _, rfl, _⟩ := h; rfl) | (obtain ⟨_, _, _, _, _, _, _, _, _, _, _, rfl, _⟩ := h; rfl) | (obtain ⟨_, _, _, _, _, _, _, _, _, _, _, _, rfl, _⟩ := h; rfl) | (obtain ⟨_, _, _, _, _, _, _, _, _, _, _, _, _, rfl, _⟩ := h; rfl) | (obtain ⟨_, _, _, _, _, _, _, _, _, _, _, _, _, _, rfl, _⟩ := h; rfl) | (obtain ⟨_, _, _, _, _, _, _, _, _, _, _, _, _, _, _, rfl, _⟩ := h; rfl)
  · have T := D.T
    have nd := sc_Book___init__.nd
    have hu := hr.units
    have hu1 := hu_of hr
    have hu0 := hr.units0
    obtain ⟨b, dx, r, rk, rfl, hb, hr', k, q⟩ := h
    refine ⟨_, pss_cons (ps_if (pt_not (pt_val (pe_call (ok_are_ranks D) (hr.mono (by decide)) (by rfl) D.h_are_ranks.gl D.h_are_ranks.fn.kp D.h_are_ranks.bd .nil pass0 (pa_cons (pv 1) pa_nil)))) (pss_one ps_never) pss_nil)
      (pss_cons (ps_fld (pv 0) (pe_callTy call_dictD (by rfl) T.dict (by decide +kernel) (pa_cons (pv 1) pa_nil)) rfl)
      (pss_cons (ps_fld (pv 0) (pe_lock (pe_dc (own := [("keeper", 2)]) (g := gName 2) (tt := tYes) rfl nd (pi_keys (pv 1)) (blkOk_by (N := ["self", "ranks", "keeper"]) (sc := defScope s_Book___init__) (by decide +kernel)) (fun _ _ _ _ _ => (pg_name (i := 2) nd rfl (Or.inl rfl))) (fun _ _ _ _ _ => pts_nil) (fun _ _ _ _ _ => (pv 2)) (fun _ _ _ _ _ => (pe_make0 D.M_History (ok_History___init__ D) (hr.mono (by decide)) (by rfl) D.Z_History.gl D.h_History___init__.bd .nil pass0)))) rfl)
      (pss_cons (ps_fld (pv 0) pe_dnewK rfl)
      (pss_one (ps_fld (pv 0) pe_non rfl))))), ?_⟩
    have kl := k.ln
    refine ⟨_, rfl, r, rk, rfl, hr', k, fun H1 s1 => ⟨_, rfl, iteF ?_⟩⟩
    refine ⟨_, rfl, r, _, rfl, .inl (s1 _ _ hr'), fun R nR => ?_⟩
    have s2 := same_upd (o := .dK (sd rk)) nR
    have eR := upd_same (H := H1) (a := R) (o := .dK (sd rk))
    generalize upd H1 R (.dK (sd rk)) = H2 at *
    have hb2 := s2 _ _ (s1 _ _ hb)
    have hr2 := s2 _ _ (s1 _ _ hr')
    have nbR : R ≠ b := fun e => by
      rw [e, s1 _ _ hb] at nR
      cases nR
    have nbr : r ≠ b := fun e => by
      rw [e, hb2] at hr2
      cases hr2
    refine ⟨_, rfl, b, _, dx, _, rfl, hb2, D.Z_Book.cl, D.n_Book_rank_of, by decide, ?_⟩
    have hb3 : upd H2 b (.ins D.C_Book dx [("rank_of", .ref R)]) b = some (.ins D.C_Book dx [("rank_of", .ref R)]) := upd_same
    have sb3 : SameB b H2 (upd H2 b (.ins D.C_Book dx [("rank_of", .ref R)])) := SameB.upd (SameB.of (Same.refl _))
    generalize hG3 : upd H2 b (.ins D.C_Book dx [("rank_of", .ref R)]) = H3 at *
    have hG3' : upd H2 b (.ins D.C_Book dx (putF "rank_of" (V.ref R) [])) = H3 := hG3
    rw [hG3']
    have hr3 := sb3 _ _ nbr hr2
    have eR3 := sb3 _ _ nbR eR
    refine ⟨r, _, hr3, trivial, fun od => ?_⟩
    have ef := upd_same (H := H3) (a := r) (o := .frz od (.dK (sd rk)))
    refine ⟨_, rfl, r, od, rfl, .inl ⟨_, ef, fun M nM => ?_⟩⟩
    have nMr : M ≠ r := fun e => by rw [e, ef] at nM; cases nM
    have nM3 : H3 M = none := by rw [upd_ne nMr] at nM; exact nM
    refine dc_it walk_rowk (fun i H' => Same (upd H3 r (.frz od (.dK (sd rk)))) H' ∧ ∃ mv : List (Str × HA), mv.map (·.1) = (rk.take i).map (·.1) ∧ H' M = some (.dK (hsK mv)) ∧
        (∀ e ∈ mv, HistAt D.C_History H' e.2 ∧ e.2.h = []) ∧ (hsfp mv).Nodup ∧ ∀ c ∈ hsfp mv, upd H3 r (.frz od (.dK (sd rk))) c = none ∧ c ≠ M)
      ⟨same_upd nM, [], rfl, upd_same, nofun, List.nodup_nil, nofun⟩ (fun i H' _ ⟨s, _⟩ => s _ _ ef) ?_ ?_
    · rintro i x H4 H5 hi ⟨s4, mv, ek, eM, hm, hnd, hfr⟩ ⟨rfl, p, hp, rfl⟩
      refine ⟨rfl, _, rfl, fun x dx nx ndx nex => ?_⟩
      have sm := same_made (C := D.C_History) (o := .ins D.C_History dx []) nx ndx
      refine ⟨x, dx, rfl, upd_same, fun a H6 ex eh eg nD Ha sb => ⟨rfl, ?_⟩⟩
      subst ex
      have s56 := sameB_new nx sm sb
      have nMx : M ≠ a.x := ne_of_none eM nx
      have nMD : M ≠ a.D := fun e => by
        rw [← e, sm _ _ eM] at nD
        cases nD
      have nD5 : H5 a.D = none := sm.free nD
      have efp : a.fp = [a.x, a.D] := by
        unfold HA.fp
        rw [eg]
        rfl
      have mvl : mv.length ≤ 30 := by
        have := congrArg List.length ek
        rw [List.length_map, List.length_map, List.length_take] at this
        omega
      have hnew : getA mv p.1 = none := by
        rw [getA_none_iff, ek]
        have nd := k.nd
        have hil := (List.getElem?_eq_some_iff.mp hp).1
        intro hm
        rw [← List.take_append_drop i rk, List.map_append, List.nodup_append] at nd
        refine nd.2.2 _ hm p.1 ?_ rfl
        rw [List.drop_eq_getElem_cons hil]
        rw [(List.getElem?_eq_some_iff.mp hp).2]
        exact List.mem_cons_self
      refine ⟨hsK mv, Sum.inr p.1, rfl, s56 _ _ eM, by rw [hsK_len]; exact small2k (by omega), same_app nM (s4.trans s56), mv ++ [(p.1, a)], ?_, ?_, ?_, ?_, ?_⟩
      · rw [List.map_append, ek, take_snoc hp, List.map_append]
        rfl
      · rw [upd_same, hsK_put, putA_new hnew]
      · intro e he
        rcases List.mem_append.mp he with he | he
        · refine ⟨((hm e he).1.mono s56).by fun c hc o eo => ?_, (hm e he).2⟩
          rw [upd_ne (hfr c (hsfp_mem.mpr ⟨e, he, hc⟩)).2]
          exact eo
        · rw [List.mem_singleton.mp he]
          refine ⟨Ha.by fun c hc o eo => ?_, eh⟩
          rw [efp] at hc
          rw [upd_ne (fun z => ?_)]
          · exact eo
          · rcases List.mem_cons.mp hc with e | hc
            · exact nMx (z.symm.trans e)
            · exact nMD (z.symm.trans (List.mem_singleton.mp hc))
      · rw [hsfp_app, show hsfp [(p.1, a)] = a.fp from List.append_nil _, List.nodup_append]
        refine ⟨hnd, Ha.nd, fun c hc c' hc' e => ?_⟩
        subst e
        obtain ⟨e, he, hc⟩ := hsfp_mem.mp hc
        obtain ⟨o, ho⟩ := (hm e he).1.ex c hc
        rw [efp] at hc'
        rcases List.mem_cons.mp hc' with e | hc'
        · rw [e, nx] at ho
          cases ho
        · rw [List.mem_singleton.mp hc', nD5] at ho
          cases ho
      · intro c hc
        rw [hsfp_app, show hsfp [(p.1, a)] = a.fp from List.append_nil _] at hc
        rcases List.mem_append.mp hc with hc | hc
        · exact hfr c hc
        · rw [efp] at hc
          rcases List.mem_cons.mp hc with e | hc
          · rw [e]
            exact ⟨s4.free nx, nMx.symm⟩
          · rw [List.mem_singleton.mp hc]
            exact ⟨s4.free nD5, nMD.symm⟩
    · rintro H4 ⟨s4, mv, ek, eM, hm, hnd, hfr⟩
      rw [List.take_length] at ek
      refine ⟨s4 _ _ ef, ?_⟩
      have fr : ∀ c ∈ hsfp mv, H3 c = none ∧ c ≠ M := fun c hc => by
        obtain ⟨f1, f2⟩ := hfr c hc
        refine ⟨?_, f2⟩
        rw [upd_ne (fun z => by rw [z, ef] at f1; cases f1)] at f1
        exact f1
      have s34 : Same H3 (upd H4 r (.dK (sd rk))) := lock_back hr3 s4
      have eM5 : upd H4 r (.dK (sd rk)) M = some (.dK (hsK mv)) := by rw [upd_ne nMr]; exact eM
      have hm5 : ∀ e ∈ mv, HistAt D.C_History (upd H4 r (.dK (sd rk))) e.2 ∧ e.2.h = [] := fun e he => ⟨(hm e he).1.by fun c hc o eo => by
        rw [upd_ne (fun z => by have := (fr c (hsfp_mem.mpr ⟨e, he, hc⟩)).1; rw [z, hr3] at this; cases this)]
        exact eo, (hm e he).2⟩
      generalize upd H4 r (.dK (sd rk)) = H5 at *
      have nbM : M ≠ b := fun e => by rw [e, hb3] at nM3; cases nM3
      refine ⟨_, rfl, b, _, dx, _, rfl, s34 _ _ hb3, D.Z_Book.cl, D.n_Book_moves, by show 1 < 1000; decide, ?_⟩
      have hb6 : upd H5 b (.ins D.C_Book dx [("rank_of", .ref R), ("moves", .ref M)]) b = some (.ins D.C_Book dx [("rank_of", .ref R), ("moves", .ref M)]) := upd_same
      have sb6 : SameB b H5 (upd H5 b (.ins D.C_Book dx [("rank_of", .ref R), ("moves", .ref M)])) := SameB.upd (SameB.of (Same.refl _))
      generalize hG6 : upd H5 b (.ins D.C_Book dx [("rank_of", .ref R), ("moves", .ref M)]) = H6 at *
      have hG6' : upd H5 b (.ins D.C_Book dx (putF "moves" (V.ref M) [("rank_of", V.ref R)])) = H6 := hG6
      rw [hG6']
      refine fun L nL => ?_
      have s7 := same_upd (o := .dK []) nL
      have eL := upd_same (H := H6) (a := L) (o := .dK [])
      generalize upd H6 L (.dK []) = H7 at *
      refine ⟨_, rfl, b, _, dx, _, rfl, s7 _ _ hb6, D.Z_Book.cl, D.n_Book_landings, by show 2 < 1000; decide, ?_⟩
      have nbL : L ≠ b := fun e => by rw [e, hb6] at nL; cases nL
      have hb8 : upd H7 b (.ins D.C_Book dx [("rank_of", .ref R), ("moves", .ref M), ("landings", .ref L)]) b = some (.ins D.C_Book dx [("rank_of", .ref R), ("moves", .ref M), ("landings", .ref L)]) := upd_same
      have sb8 : SameB b H7 (upd H7 b (.ins D.C_Book dx [("rank_of", .ref R), ("moves", .ref M), ("landings", .ref L)])) := SameB.upd (SameB.of (Same.refl _))
      generalize hG8 : upd H7 b (.ins D.C_Book dx [("rank_of", .ref R), ("moves", .ref M), ("landings", .ref L)]) = H8 at *
      have hG8' : upd H7 b (.ins D.C_Book dx (putF "landings" (V.ref L) [("rank_of", V.ref R), ("moves", V.ref M)])) = H8 := hG8
      rw [hG8']
      refine ⟨_, rfl, b, _, dx, _, rfl, hb8, D.Z_Book.cl, D.n_Book_latest_known, by show 3 < 1000; decide, ?_⟩
      have hb9 : upd H8 b (.ins D.C_Book dx [("rank_of", .ref R), ("moves", .ref M), ("landings", .ref L), ("latest_known", .non)]) b = some (.ins D.C_Book dx [("rank_of", .ref R), ("moves", .ref M), ("landings", .ref L), ("latest_known", .non)]) := upd_same
      have sb9 : SameB b H8 (upd H8 b (.ins D.C_Book dx [("rank_of", .ref R), ("moves", .ref M), ("landings", .ref L), ("latest_known", .non)])) := SameB.upd (SameB.of (Same.refl _))
      generalize hG9 : upd H8 b (.ins D.C_Book dx [("rank_of", .ref R), ("moves", .ref M), ("landings", .ref L), ("latest_known", .non)]) = H9 at *
      have hG9' : upd H8 b (.ins D.C_Book dx (putF "latest_known" V.non [("rank_of", V.ref R), ("moves", V.ref M), ("landings", V.ref L)])) = H9 := hG9
      rw [hG9']
      have t79 : SameB b H7 H9 := sb8.trans sb9
      have t59 : SameB b H5 H9 := sb6.trans ((SameB.of s7).trans t79)
      have t39 : SameB b H3 H9 := (SameB.of s34).trans t59
      have t09 : SameB b H H9 := (SameB.of (s1.trans s2)).trans (sb3.trans t39)
      have bh : BkH D.C_Book D.C_History H9 ⟨b, dx, R, M, L, mv, [], rk, []⟩ .non := by
        refine ⟨hb9, t39 _ _ nbR eR3, t59 _ _ nbM eM5, t79 _ _ nbL eL, ?_, nofun, ?_⟩
        · intro e he
          refine (hm5 e he).1.by fun c hc o eo => t59 _ _ (fun z => ?_) eo
          have := (fr c (hsfp_mem.mpr ⟨e, he, hc⟩)).1
          rw [z, hb3] at this
          cases this
        · have fL : ∀ {c : Addr}, (∃ o, H5 c = some o) → c ≠ b → c ≠ L := fun ⟨o, ho⟩ n z => by
            have := sb6 _ _ n ho
            rw [z, nL] at this
            cases this
          have fM : ∀ {c : Addr}, (∃ o, H3 c = some o) → c ≠ M := fun ⟨o, ho⟩ z => by
            rw [z, nM3] at ho
            cases ho
          have fh : ∀ {c : Addr}, (∃ o, H3 c = some o) → c ∉ hsfp mv := fun ⟨o, ho⟩ z => by
            rw [(fr _ z).1] at ho
            cases ho
          show (b :: R :: M :: L :: (hsfp mv ++ [])).Nodup
          rw [List.append_nil]
          refine List.nodup_cons.mpr ⟨fun h => ?_, List.nodup_cons.mpr ⟨fun h => ?_, List.nodup_cons.mpr ⟨fun h => ?_, List.nodup_cons.mpr ⟨fun h => ?_, hnd⟩⟩⟩⟩
          · rcases List.mem_cons.mp h with h | h
            · exact nbR h.symm
            rcases List.mem_cons.mp h with h | h
            · exact nbM h.symm
            rcases List.mem_cons.mp h with h | h
            · exact nbL h.symm
            · exact fh ⟨_, hb3⟩ h
          · rcases List.mem_cons.mp h with h | h
            · exact fM ⟨_, eR3⟩ h
            rcases List.mem_cons.mp h with h | h
            · exact fL ⟨_, s34 _ _ eR3⟩ nbR h
            · exact fh ⟨_, eR3⟩ h
          · rcases List.mem_cons.mp h with h | h
            · exact fL ⟨_, eM5⟩ nbM h
            · exact (fr _ h).2 rfl
          · obtain ⟨e, he, hc⟩ := hsfp_mem.mp h
            obtain ⟨o, ho⟩ := (hm5 e he).1.ex L hc
            exact fL ⟨o, ho⟩ nbL rfl
      have bp : BkP ⟨b, dx, R, M, L, mv, [], rk, []⟩ := ⟨k, ek, List.nodup_nil, fun e he => (hm5 e he).2, nofun, nofun, List.Pairwise.nil, nofun⟩
      refine q _ H9 ⟨_, rfl, rfl, rfl, rfl, bh, bp, Nat.le_refl _⟩ (fun c hc => ?_) t09
      have f3 : ∀ {c : Addr}, H3 c = none → c = b ∨ H c = none := fun {c} h => by
        by_cases z : c = b
        · exact .inl z
        · refine .inr (s1.free (s2.free ?_))
          cases e : H2 c with
          | none => rfl
          | some o =>
            rw [sb3 _ _ z e] at h
            cases h
      rcases List.mem_cons.mp hc with h | hc
      · exact .inl h
      rcases List.mem_cons.mp hc with h | hc
      · rw [h]
        exact .inr (s1.free nR)
      rcases List.mem_cons.mp hc with h | hc
      · rw [h]
        exact f3 nM3
      rcases List.mem_cons.mp hc with h | hc
      · rw [h]
        refine f3 (s34.free ?_)
        cases e : H5 L with
        | none => rfl
        | some o =>
          rw [sb6 _ _ nbL e] at nL
          cases nL
      · have hc : c ∈ hsfp mv := by
          rcases List.mem_append.mp hc with h | h
          · exact h
          · exact nomatch h
        exact f3 (fr c hc).1
theorem sc_Book_ranks : FnScope ["self"] ["self"] (defScope s_Book_ranks) := ⟨rfl, rfl, rfl, by decide +kernel, rfl, by decide +kernel, by decide +kernel⟩
theorem ok_Book_ranks (D : All K P mg) : FnOk P w K mg base CX0 1 D.f_Book_ranks D.d_Book_ranks ["self"] (spBRanks D.C_Book D.C_History) := by
  refine D.h_Book_ranks.fn.ok sc_Book_ranks (fun vs H Q E h => ?_) (fun cdv A outer s H vs Q E hr h => ?_)
  · first | (obtain ⟨_, rfl, _⟩ := h; rfl) | (obtain ⟨_, _, rfl, _⟩ := h; rfl) | (obtain ⟨_, _, _, rfl, _⟩ := h; rfl) | (obtain ⟨_, _, _, _, rfl, _⟩ := h; rfl) | (obtain ⟨_, _, _, _, _, rfl, _⟩ := h; rfl) | (obtain ⟨_, _, _, _, _, _, rfl, _⟩ := h; rfl) | (obtain ⟨_, _, _, _, _, _, _, rfl, _⟩ := h; rfl) | (obtain ⟨_, _, _, _, _, _, _, _, rfl, _⟩ := h; rfl) | (obtain ⟨_, _, _, _, _, _, _, _, _, rfl, _⟩ := h; rfl) | (obtain ⟨_, _, _, _, _, _, _, _, _, _, rfl, _⟩ := h; rfl) | (obtain ⟨_, _, _, _, _, _, _, _, _, _, _, rfl, _⟩ := h; rfl) | (obtain ⟨_, _, _, _, _, _, _, _, _, _, _, _, rfl, _⟩ := h; rfl) | (obtain ⟨_, _, _, _, _, _, _, _, _, _, _, _, _, rfl, _⟩ := h; rfl) | (obtain ⟨_, _, _, _, _, _, _, _, _, _, _, _, _, _, rfl, _⟩ := h; rfl) | (obtain ⟨_, _, _, _, _, _, _, _, _, _, _, _, _, _, _, rfl, _⟩ := h; rfl)
  · have T := D.T
    have nd := sc_Book_ranks.nd
    have hu := hr.units
    have hu1 := hu_of hr
    have hu0 := hr.units0
    obtain ⟨_, rk, es, fp, rfl, ⟨B, rfl, rfl, rfl, rfl, bh, bp, bl⟩, q⟩ := h
    refine ⟨_, pss_one (ps_ret (pe_callTy call_dictD (by rfl) T.dict (by decide +kernel) (pa_cons (pe_fld (pv 0) rfl) pa_nil))), ?_⟩
    refine ⟨_, rfl, B.b, _, B.dx, _, _, rfl, bh.ix, D.Z_Book.cl, D.n_Book_rank_of, rfl, B.R, _, rfl, .inl bh.rd, fun r nr => ?_⟩
    exact q r _ nr upd_same (same_upd nr)
theorem sc_check_keeper : FnScope ["book", "thing"] ["book", "thing"] (defScope s_check_keeper) := ⟨rfl, rfl, rfl, by decide +kernel, rfl, by decide +kernel, by decide +kernel⟩
theorem ok_check_keeper (D : All K P mg) : FnOk P w K mg base CX0 2 D.f_check_keeper D.d_check_keeper ["book", "thing"] (spCkKeeper D.C_Book D.C_History) := by
  refine D.h_check_keeper.fn.ok sc_check_keeper (fun vs H Q E h => ?_) (fun cdv A outer s H vs Q E hr h => ?_)
  · first | (obtain ⟨_, rfl, _⟩ := h; rfl) | (obtain ⟨_, _, rfl, _⟩ := h; rfl) | (obtain ⟨_, _, _, rfl, _⟩ := h; rfl) | (obtain ⟨_, _, _, _, rfl, _⟩ := h; rfl) | (obtain ⟨_, _, _, _, _, rfl, _⟩ := h; rfl) | (obtain ⟨_, _, _, _, _, _, rfl, _⟩ := h; rfl) | (obtain ⟨_, _, _, _, _, _, _, rfl, _⟩ := h; rfl) | (obtain ⟨_, _, _, _, _, _, _, _, rfl, _⟩ := h; rfl) | (obtain ⟨_, _, _, _, _, _, _, _, _, rfl, _⟩ := h; rfl) | (obtain ⟨_, _, _, _, _, _, _, _, _, _, rfl, _⟩ := h; rfl) | (obtain ⟨_, _, _, _, _, _, _, _, _, _, _, rfl, _⟩ := h; rfl) | (obtain ⟨_, _, _, _, _, _, _, _, _, _, _, _, rfl, _⟩ := h; rfl) | (obtain ⟨_, _, _, _, _, _, _, _, _, _, _, _, _, rfl, _⟩ := h; rfl) | (obtain ⟨_, _, _, _, _, _, _, _, _, _, _, _, _, _, rfl, _⟩ := h; rfl) | (obtain ⟨_, _, _, _, _, _, _, _, _, _, _, _, _, _, _, rfl, _⟩ := h; rfl)
  · have T := D.T
    have nd := sc_check_keeper.nd
    have hu := hr.units
    have hu1 := hu_of hr
    have hu0 := hr.units0
    obtain ⟨_, rk, es, fp, z, rfl, ⟨B, rfl, rfl, rfl, rfl, bh, bp, bl⟩, hz, q⟩ := h
    refine ⟨_, pss_one (ps_if (PW.pt (pw_or (pt_not (pt_val (pe_call (ok_is_name D) (hr.mono (by decide)) (by rfl) D.h_is_name.gl D.h_is_name.fn.kp D.h_is_name.bd .nil pass0 (pa_cons (pv 1) pa_nil)))) (pw_or1 (pt_cmp (pc_dnotin hu1 (pv 1) (pe_fld (pv 0) rfl)))))) (pss_one ps_never) pss_nil), ?_⟩
    obtain ⟨i, hi⟩ := get_key hz
    have hn : Nm z := bp.rk.nm _ (getA_mem hi)
    have l8 := hn.l8
    refine ⟨_, rfl, .str z, rfl, .str z, fun y e => by cases e; rw [sizeLine_eq]; omega, fun H1 s1 => ⟨_, rfl, ?_⟩⟩
    rw [hn.b]
    refine iteF ⟨_, rfl, _, rfl, B.b, _, B.dx, _, _, rfl, s1 _ _ bh.ix, D.Z_Book.cl, D.n_Book_rank_of, rfl, B.R, _, rfl, dget_sd (s1 _ _ bh.rd) hi, _, rfl, iteF (q H1 s1)⟩
theorem sc_check_not_early : FnScope ["book", "known"] ["book", "known"] (defScope s_check_not_early) := ⟨rfl, rfl, rfl, by decide +kernel, rfl, by decide +kernel, by decide +kernel⟩
theorem ok_check_not_early (D : All K P mg) : FnOk P w K mg base CX0 1 D.f_check_not_early D.d_check_not_early ["book", "known"] (spNotEarly D.C_Book D.C_History) := by
  refine D.h_check_not_early.fn.ok sc_check_not_early (fun vs H Q E h => ?_) (fun cdv A outer s H vs Q E hr h => ?_)
  · first | (obtain ⟨_, rfl, _⟩ := h; rfl) | (obtain ⟨_, _, rfl, _⟩ := h; rfl) | (obtain ⟨_, _, _, rfl, _⟩ := h; rfl) | (obtain ⟨_, _, _, _, rfl, _⟩ := h; rfl) | (obtain ⟨_, _, _, _, _, rfl, _⟩ := h; rfl) | (obtain ⟨_, _, _, _, _, _, rfl, _⟩ := h; rfl) | (obtain ⟨_, _, _, _, _, _, _, rfl, _⟩ := h; rfl) | (obtain ⟨_, _, _, _, _, _, _, _, rfl, _⟩ := h; rfl) | (obtain ⟨_, _, _, _, _, _, _, _, _, rfl, _⟩ := h; rfl) | (obtain ⟨_, _, _, _, _, _, _, _, _, _, rfl, _⟩ := h; rfl) | (obtain ⟨_, _, _, _, _, _, _, _, _, _, _, rfl, _⟩ := h; rfl) | (obtain ⟨_, _, _, _, _, _, _, _, _, _, _, _, rfl, _⟩ := h; rfl) | (obtain ⟨_, _, _, _, _, _, _, _, _, _, _, _, _, rfl, _⟩ := h; rfl) | (obtain ⟨_, _, _, _, _, _, _, _, _, _, _, _, _, _, rfl, _⟩ := h; rfl) | (obtain ⟨_, _, _, _, _, _, _, _, _, _, _, _, _, _, _, rfl, _⟩ := h; rfl)
  · have T := D.T
    have nd := sc_check_not_early.nd
    have hu := hr.units
    have hu1 := hu_of hr
    have hu0 := hr.units0
    obtain ⟨_, rk, es, fp, kn, rfl, ⟨B, rfl, rfl, rfl, rfl, bh, bp, bl⟩, hk, q⟩ := h
    refine ⟨_, pss_one (ps_if (PW.pt (pw_and (pt_cmpR op_notN (pe_fld (pv 0) rfl) pe_non (nomark _)) (pw_and1 (pt_cmpR op_lt (pv 1) (pe_fld (pv 0) rfl) (nomark _))))) (pss_one ps_never) pss_nil), ?_⟩
    refine ⟨_, rfl, B.b, _, B.dx, _, _, rfl, bh.ix, D.Z_Book.cl, D.n_Book_latest_known, rfl, rfl, _, rfl, ?_⟩
    rcases late_le hk with e | ⟨l, e, hl⟩
    · rw [e]
      exact iteF q
    · rw [e]
      refine iteT ⟨_, rfl, _, rfl, B.b, _, B.dx, _, _, rfl, bh.ix, D.Z_Book.cl, D.n_Book_latest_known, rfl, kn, l, rfl, e, _, rfl, ?_⟩
      rw [decide_eq_false (by omega)]
      exact iteF q
theorem sc_Book_tell : FnScope ["self", "known", "keeper", "day", "place"] ["self", "known", "keeper", "day", "place"] (defScope s_Book_tell) := ⟨rfl, rfl, rfl, by decide +kernel, rfl, by decide +kernel, by decide +kernel⟩
theorem ok_Book_tell (D : All K P mg) : FnOk P w K mg base CX0 5 D.f_Book_tell D.d_Book_tell ["self", "known", "keeper", "day", "place"] (spTell D.C_Book D.C_History) := by
  refine D.h_Book_tell.fn.ok sc_Book_tell (fun vs H Q E h => ?_) (fun cdv A outer s H vs Q E hr h => ?_)
  · first | (obtain ⟨_, rfl, _⟩ := h; rfl) | (obtain ⟨_, _, rfl, _⟩ := h; rfl) | (obtain ⟨_, _, _, rfl, _⟩ := h; rfl) | (obtain ⟨_, _, _, _, rfl, _⟩ := h; rfl) | (obtain ⟨_, _, _, _, _, rfl, _⟩ := h; rfl) | (obtain ⟨_, _, _, _, _, _, rfl, _⟩ := h; rfl) | (obtain ⟨_, _, _, _, _, _, _, rfl, _⟩ := h; rfl) | (obtain ⟨_, _, _, _, _, _, _, _, rfl, _⟩ := h; rfl) | (obtain ⟨_, _, _, _, _, _, _, _, _, rfl, _⟩ := h; rfl) | (obtain ⟨_, _, _, _, _, _, _, _, _, _, rfl, _⟩ := h; rfl) | (obtain ⟨_, _, _, _, _, _, _, _, _, _, _, rfl, _⟩ := h; rfl) | (obtain ⟨_, _, _, _, _, _, _, _, _, _, _, _, rfl, _⟩ := h; rfl) | (obtain ⟨_, _, _, _, _, _, _, _, _, _, _, _, _, rfl, _⟩ := h; rfl) | (obtain ⟨_, _, _, _, _, _, _, _, _, _, _, _, _, _, rfl, _⟩ := h; rfl) | (obtain ⟨_, _, _, _, _, _, _, _, _, _, _, _, _, _, _, rfl, _⟩ := h; rfl)
  · have T := D.T
    have nd := sc_Book_tell.nd
    have hu := hr.units
    have hu1 := hu_of hr
    have hu0 := hr.units0
    obtain ⟨b, rk, es, fp, kn, d, z, w, rfl, W, ok, hk, hl, q⟩ := h
    refine ⟨_, pss_cons (ps_expr (pe_call (ok_check_day D) (hr.mono (by decide)) (by rfl) D.h_check_day.gl D.h_check_day.fn.kp D.h_check_day.bd .nil pass0 (pa_cons (pv 1) pa_nil)))
      (pss_cons (ps_expr (pe_call (ok_check_day D) (hr.mono (by decide)) (by rfl) D.h_check_day.gl D.h_check_day.fn.kp D.h_check_day.bd .nil pass0 (pa_cons (pv 3) pa_nil)))
      (pss_cons (ps_expr (pe_call (ok_check_keeper D) (hr.mono (by decide)) (by rfl) D.h_check_keeper.gl D.h_check_keeper.fn.kp D.h_check_keeper.bd .nil pass0 (pa_cons (pv 0) (pa_cons (pv 2) pa_nil))))
      (pss_cons (ps_if (pt_cmpR op_notN (pv 4) pe_non (nomark _)) (pss_one (ps_expr (pe_call (ok_check_place D) (hr.mono (by decide)) (by rfl) D.h_check_place.gl D.h_check_place.fn.kp D.h_check_place.bd .nil pass0 (pa_cons (pv 4) pa_nil)))) pss_nil)
      (pss_cons (ps_expr (pe_call (ok_check_not_early D) (hr.mono (by decide)) (by rfl) D.h_check_not_early.gl D.h_check_not_early.fn.kp D.h_check_not_early.bd .nil pass0 (pa_cons (pv 0) (pa_cons (pv 1) pa_nil))))
      (pss_cons (ps_expr (pe_meth (pe_dget hu1 (pe_fld (pv 0) rfl) (pv 2) (fun _ _ => rfl)) D.Z_History.cl D.h_History_note.me (ok_History_note D) (hr.mono (by decide)) D.h_History_note.bd .nil pass0 (pa_cons (pv 1) (pa_cons (pv 3) (pa_cons (pv 4) pa_nil)))))
      (pss_one (ps_fld (pv 0) (pv 1) rfl))))))), ?_⟩
    obtain ⟨hzk, hw⟩ := ok.mw rfl
    refine ⟨_, rfl, kn, rfl, ok.k0, _, rfl, d, rfl, ok.d0, ?_⟩
    refine ⟨_, rfl, _, rfl, b, rk, es, fp, z, rfl, W, hzk, fun H1 s1 => ?_⟩
    apply joinA (α := Unit) (J := fun _ Hx => Same H Hx) (sl := fun _ => [some (.ref b), some (.int kn), some (.str z), some (.int d), some w])
    · intro h
      refine ⟨_, rfl, rfl, _, rfl, ?_⟩
      have hw : w = .non ∨ ∃ z, w = .str z ∧ Pl z := hw
      rcases hw with e | ⟨y, e, hy⟩
      · rw [decide_eq_true e]
        exact iteF (h () H1 s1)
      · rw [decide_eq_false (by rw [e]; nofun)]
        exact iteT ⟨_, rfl, y, congrArg (fun v => [v]) e, hy, fun H2 s2 => h () H2 (s1.trans s2)⟩
    rintro _ H2 s2
    refine ⟨_, rfl, _, rfl, b, rk, es, fp, kn, rfl, W.mono s2, hk, ?_⟩
    obtain ⟨B, rfl, rfl, rfl, rfl, bh, bp, bl⟩ := W
    have bh2 := bh.by (H' := H2) fun c _ o e => s2 c o e
    obtain ⟨a, ha⟩ := get_key (kvs := B.mv) (z := z) (by rw [bp.km]; exact hzk)
    obtain ⟨l1, l2, el, _⟩ := get_split ha
    have hmem : (z, a) ∈ B.mv := by rw [el]; exact List.mem_append_right _ List.mem_cons_self
    have Ha := bh2.hm _ hmem
    refine ⟨_, rfl, B.b, _, B.dx, _, _, rfl, bh2.ix, D.Z_Book.cl, D.n_Book_moves, rfl, _, rfl, B.M, _, rfl, dget_hs bh2.md ha, a.x, a.dx, _, rfl, Ha.ix, rfl, _, rfl, _, rfl, _, rfl, a, kn, d, w, rfl, Ha, OKH.of (bp.hm _ hmem) (by omega), fun a' H3 ex eh Ha' fr s3 => ?_⟩
    obtain ⟨bh3, fr3, s3'⟩ := bh2.setM el Ha' ex fr s3
    have bp3 := bp.tell el eh hk ok
    refine ⟨_, rfl, _, rfl, B.b, _, B.dx, _, rfl, bh3.ix, D.Z_Book.cl, D.n_Book_latest_known, by show 4 < 1000; decide, ?_⟩
    have mb : B.b ∈ B.fp := List.mem_cons_self
    refine q _ _ ⟨{ B with mv := l1 ++ (z, a') :: l2, es := B.es ++ [⟨true, kn, z, d, w⟩] }, rfl, rfl, rfl, rfl, ?_, bp3, by show B.ld.length ≤ (B.es ++ _).length; rw [List.length_append]; omega⟩ (fun c hc => (fr3 c hc).imp id fun h => s2.free h) (SameL.upd mb ((SameL.of s2).trans s3'))
    rw [lateV_snoc]
    have := bh3.late (.int kn)
    exact ⟨this.ix, this.rd, this.md, this.ldd, this.hm, this.hl, this.nd⟩
theorem sc_Book_land : FnScope ["self", "known", "light", "day", "weight"] ["self", "known", "light", "day", "weight"] (defScope s_Book_land) := ⟨rfl, rfl, rfl, by decide +kernel, rfl, by decide +kernel, by decide +kernel⟩
theorem ok_Book_land (D : All K P mg) : FnOk P w K mg base CX0 5 D.f_Book_land D.d_Book_land ["self", "known", "light", "day", "weight"] (spLand D.C_Book D.C_History) := by
  refine D.h_Book_land.fn.ok sc_Book_land (fun vs H Q E h => ?_) (fun cdv A outer s H vs Q E hr h => ?_)
  · first | (obtain ⟨_, rfl, _⟩ := h; rfl) | (obtain ⟨_, _, rfl, _⟩ := h; rfl) | (obtain ⟨_, _, _, rfl, _⟩ := h; rfl) | (obtain ⟨_, _, _, _, rfl, _⟩ := h; rfl) | (obtain ⟨_, _, _, _, _, rfl, _⟩ := h; rfl) | (obtain ⟨_, _, _, _, _, _, rfl, _⟩ := h; rfl) | (obtain ⟨_, _, _, _, _, _, _, rfl, _⟩ := h; rfl) | (obtain ⟨_, _, _, _, _, _, _, _, rfl, _⟩ := h; rfl) | (obtain ⟨_, _, _, _, _, _, _, _, _, rfl, _⟩ := h; rfl) | (obtain ⟨_, _, _, _, _, _, _, _, _, _, rfl, _⟩ := h; rfl) | (obtain ⟨_, _, _, _, _, _, _, _, _, _, _, rfl, _⟩ := h; rfl) | (obtain ⟨_, _, _, _, _, _, _, _, _, _, _, _, rfl, _⟩ := h; rfl) | (obtain ⟨_, _, _, _, _, _, _, _, _, _, _, _, _, rfl, _⟩ := h; rfl) | (obtain ⟨_, _, _, _, _, _, _, _, _, _, _, _, _, _, rfl, _⟩ := h; rfl) | (obtain ⟨_, _, _, _, _, _, _, _, _, _, _, _, _, _, _, rfl, _⟩ := h; rfl)
  · have T := D.T
    have nd := sc_Book_land.nd
    have hu := hr.units
    have hu1 := hu_of hr
    have hu0 := hr.units0
    obtain ⟨b, rk, es, fp, kn, d, z, w, rfl, W, ok, hk, hl, q⟩ := h
    refine ⟨_, pss_cons (ps_expr (pe_call (ok_check_day D) (hr.mono (by decide)) (by rfl) D.h_check_day.gl D.h_check_day.fn.kp D.h_check_day.bd .nil pass0 (pa_cons (pv 1) pa_nil)))
      (pss_cons (ps_expr (pe_call (ok_check_day D) (hr.mono (by decide)) (by rfl) D.h_check_day.gl D.h_check_day.fn.kp D.h_check_day.bd .nil pass0 (pa_cons (pv 3) pa_nil)))
      (pss_cons (ps_expr (pe_call (ok_check_light D) (hr.mono (by decide)) (by rfl) D.h_check_light.gl D.h_check_light.fn.kp D.h_check_light.bd .nil pass0 (pa_cons (pv 2) pa_nil)))
      (pss_cons (ps_expr (pe_call (ok_check_number D) (hr.mono (by decide)) (by rfl) D.h_check_number.gl D.h_check_number.fn.kp D.h_check_number.bd .nil pass0 (pa_cons (pv 4) (pa_cons pe_int pa_nil))))
      (pss_cons (ps_expr (pe_call (ok_check_not_early D) (hr.mono (by decide)) (by rfl) D.h_check_not_early.gl D.h_check_not_early.fn.kp D.h_check_not_early.bd .nil pass0 (pa_cons (pv 0) (pa_cons (pv 1) pa_nil))))
      (pss_cons (ps_if (pt_cmp (pc_dnotin hu1 (pv 2) (pe_fld (pv 0) rfl))) (pss_one (ps_dput hu1 (pe_fld (pv 0) rfl) (pv 2) (pe_make0 D.M_History (ok_History___init__ D) (hr.mono (by decide)) (by rfl) D.Z_History.gl D.h_History___init__.bd .nil pass0) rfl)) pss_nil)
      (pss_cons (ps_expr (pe_meth (pe_dget hu1 (pe_fld (pv 0) rfl) (pv 2) (fun _ _ => rfl)) D.Z_History.cl D.h_History_note.me (ok_History_note D) (hr.mono (by decide)) D.h_History_note.bd .nil pass0 (pa_cons (pv 1) (pa_cons (pv 3) (pa_cons (pv 4) pa_nil)))))
      (pss_one (ps_fld (pv 0) (pv 1) rfl)))))))), ?_⟩
    obtain ⟨hz, n, rfl, n0, _⟩ := ok.lw rfl
    refine ⟨_, rfl, kn, rfl, ok.k0, _, rfl, d, rfl, ok.d0, ?_⟩
    refine ⟨_, rfl, z, rfl, hz, fun H2 s2 => ?_⟩
    refine ⟨_, rfl, n, 0, rfl, n0, _, rfl, _, rfl, b, rk, es, fp, kn, rfl, W.mono s2, hk, ?_⟩
    obtain ⟨B, rfl, rfl, rfl, rfl, bh, bp, bl⟩ := W
    have bh2 := bh.by (H' := H2) fun c _ o e => s2 c o e
    apply joinA (α := BA) (J := fun B' Hx => B'.b = B.b ∧ B'.rk = B.rk ∧ B'.es = B.es ∧ BkH D.C_Book D.C_History Hx B' (lateV B.es) ∧ BkP B' ∧ (∃ a, getA B'.ld z = some a) ∧ (∀ c ∈ B'.fp, c ∈ B.fp ∨ H2 c = none) ∧ SameL B.fp H2 Hx ∧ B'.ld.length ≤ B.es.length + 1)
      (sl := fun _ => [some (.ref B.b), some (.int kn), some (.str z), some (.int d), some (.int n)])
    · intro h
      refine ⟨_, rfl, _, rfl, B.b, _, B.dx, _, _, rfl, bh2.ix, D.Z_Book.cl, D.n_Book_landings, rfl, ?_⟩
      cases hg : getA B.ld z with
      | some a => exact ⟨B.L, _, rfl, dget_hs bh2.ldd hg, _, rfl, iteF (h B H2 ⟨rfl, rfl, rfl, bh2, bp, ⟨a, hg⟩, fun c hc => .inl hc, .of (Same.refl _), Nat.le_succ_of_le bl⟩)⟩
      | none =>
        refine ⟨B.L, _, rfl, dget_no bh2.ldd hg, _, rfl, iteT fun x dx nx ndx nex => ?_⟩
        have sm := same_made (C := D.C_History) (o := .ins D.C_History dx []) nx ndx
        refine ⟨x, dx, rfl, upd_same, fun a H3 ex eh eg nD Ha sb => ⟨rfl, ?_⟩⟩
        subst ex
        have s3 := sameB_new nx sm sb
        have bh3 := bh2.by (H' := H3) fun c _ o e => s3 c o e
        have efp : a.fp = [a.x, a.D] := by
          unfold HA.fp
          rw [eg]
          rfl
        refine ⟨_, rfl, B.b, _, B.dx, _, _, rfl, bh3.ix, D.Z_Book.cl, D.n_Book_landings, rfl, _, rfl, _, _, rfl, DPut.k (k := Sum.inr z) bh3.ldd (by rw [hsK_len]; exact small2k (by omega)), ?_⟩
        rw [hsK_put, putA_new hg]
        have frA : ∀ c ∈ a.fp, H2 c = none := fun c hc => by
          rw [efp] at hc
          rcases List.mem_cons.mp hc with e | hc
          · rw [e]
            exact nx
          · rw [List.mem_singleton.mp hc]
            exact sm.free nD
        obtain ⟨n1, n2, n3⟩ := bh2.newL (H' := upd H3 B.L (.dK (hsK (B.ld ++ [(z, a)])))) (z := z) s3 Ha frA upd_same (SameB.upd (SameB.of (Same.refl _)))
        refine h { B with ld := B.ld ++ [(z, a)] } _ ⟨rfl, rfl, rfl, n1, bp.newL (getA_none_iff.mp hg) eh, ⟨a, ?_⟩, n2, n3, by show (B.ld ++ _).length ≤ _; rw [List.length_append]; exact Nat.succ_le_succ bl⟩
        show getA (B.ld ++ [(z, a)]) z = some a
        rw [getA_app (getA_none_iff.mp hg)]
        exact getA_pos rfl
    rintro B' Hx ⟨eb, erk, ees, bhx, bpx, ⟨a, ha⟩, frx, sx, blx⟩
    obtain ⟨l1, l2, el, _⟩ := get_split ha
    have hmem : (z, a) ∈ B'.ld := by rw [el]; exact List.mem_append_right _ List.mem_cons_self
    have Ha := bhx.hl _ hmem
    have ix : Hx B.b = some (.ins D.C_Book B'.dx [("rank_of", .ref B'.R), ("moves", .ref B'.M), ("landings", .ref B'.L), ("latest_known", lateV B.es)]) := by rw [← eb]; exact bhx.ix
    refine ⟨_, rfl, B.b, _, B'.dx, _, _, rfl, ix, D.Z_Book.cl, D.n_Book_landings, rfl, _, rfl, B'.L, _, rfl, dget_hs bhx.ldd ha, a.x, a.dx, _, rfl, Ha.ix, rfl, _, rfl, _, rfl, _, rfl, a, kn, d, .int n, rfl, Ha, OKH.of (bpx.hl _ hmem) (by rw [ees]; omega), fun a' H3 ex eh Ha' fr s3 => ?_⟩
    obtain ⟨bh3, fr3, s3'⟩ := bhx.setL el Ha' ex fr s3
    have bp3 := bpx.land el eh (by rw [ees]; exact hk) (by rw [erk]; exact ok)
    refine ⟨_, rfl, _, rfl, B.b, _, B'.dx, _, rfl, (congrArg H3 eb).symm.trans bh3.ix, D.Z_Book.cl, D.n_Book_latest_known, by show 4 < 1000; decide, ?_⟩
    have mb : B.b ∈ B.fp := List.mem_cons_self
    rw [← eb]
    refine q _ _ ⟨{ B' with ld := l1 ++ (z, a') :: l2, es := B'.es ++ [⟨false, kn, z, d, .int n⟩] }, eb, erk, by show B'.es ++ _ = _; rw [ees], rfl, ?_, bp3, ?_⟩ ?_ ?_
    · rw [lateV_snoc]
      have := bh3.late (.int kn)
      exact ⟨this.ix, this.rd, this.md, this.ldd, this.hm, this.hl, this.nd⟩
    · show (l1 ++ (z, a') :: l2).length ≤ (B'.es ++ _).length
      have e2 := congrArg List.length el
      rw [List.length_append, List.length_cons] at e2
      rw [List.length_append, List.length_append, List.length_cons, List.length_singleton, ees]
      omega
    · intro c hc
      rcases fr3 c hc with h | h
      · exact (frx c h).imp id fun h => s2.free h
      · by_cases hf : c ∈ B.fp
        · exact .inl hf
        · exact .inr (s2.free (sx.free h hf))
    · refine SameL.upd (by rw [eb]; exact mb) ((SameL.of s2).trans (sx.fresh s3' frx))
theorem sc_Book_moves_known : FnScope ["self", "keeper", "known"] ["self", "keeper", "known"] (defScope s_Book_moves_known) := ⟨rfl, rfl, rfl, by decide +kernel, rfl, by decide +kernel, by decide +kernel⟩
theorem ok_Book_moves_known (D : All K P mg) : FnOk P w K mg base CX0 3 D.f_Book_moves_known D.d_Book_moves_known ["self", "keeper", "known"] (spMKn D.C_Book D.C_History) := by
  refine D.h_Book_moves_known.fn.ok sc_Book_moves_known (fun vs H Q E h => ?_) (fun cdv A outer s H vs Q E hr h => ?_)
  · first | (obtain ⟨_, rfl, _⟩ := h; rfl) | (obtain ⟨_, _, rfl, _⟩ := h; rfl) | (obtain ⟨_, _, _, rfl, _⟩ := h; rfl) | (obtain ⟨_, _, _, _, rfl, _⟩ := h; rfl) | (obtain ⟨_, _, _, _, _, rfl, _⟩ := h; rfl) | (obtain ⟨_, _, _, _, _, _, rfl, _⟩ := h; rfl) | (obtain ⟨_, _, _, _, _, _, _, rfl, _⟩ := h; rfl) | (obtain ⟨_, _, _, _, _, _, _, _, rfl, _⟩ := h; rfl) | (obtain ⟨_, _, _, _, _, _, _, _, _, rfl, _⟩ := h; rfl) | (obtain ⟨_, _, _, _, _, _, _, _, _, _, rfl, _⟩ := h; rfl) | (obtain ⟨_, _, _, _, _, _, _, _, _, _, _, rfl, _⟩ := h; rfl) | (obtain ⟨_, _, _, _, _, _, _, _, _, _, _, _, rfl, _⟩ := h; rfl) | (obtain ⟨_, _, _, _, _, _, _, _, _, _, _, _, _, rfl, _⟩ := h; rfl) | (obtain ⟨_, _, _, _, _, _, _, _, _, _, _, _, _, _, rfl, _⟩ := h; rfl) | (obtain ⟨_, _, _, _, _, _, _, _, _, _, _, _, _, _, _, rfl, _⟩ := h; rfl)
  · have T := D.T
    have nd := sc_Book_moves_known.nd
    have hu := hr.units
    have hu1 := hu_of hr
    have hu0 := hr.units0
    obtain ⟨_, rk, es, fp, z, kn, rfl, ⟨B, rfl, rfl, rfl, rfl, bh, bp, bl⟩, hz, hl, q⟩ := h
    refine ⟨_, pss_one (ps_ret (pe_meth (pe_dget hu1 (pe_fld (pv 0) rfl) (pv 1) (fun _ _ => rfl)) D.Z_History.cl D.h_History_holding.me (ok_History_holding D) (hr.mono (by decide)) D.h_History_holding.bd .nil pass0 (pa_cons (pv 2) pa_nil))), ?_⟩
    obtain ⟨a, ha⟩ := get_key (kvs := B.mv) (z := z) (by rw [bp.km]; exact hz)
    have hmem := getA_mem ha
    have Ha := bh.hm _ hmem
    refine ⟨_, rfl, B.b, _, B.dx, _, _, rfl, bh.ix, D.Z_Book.cl, D.n_Book_moves, rfl, _, rfl, B.M, _, rfl, dget_hs bh.md ha, a.x, a.dx, _, rfl, Ha.ix, rfl, _, rfl, a, kn, rfl, Ha, OKH.of (bp.hm _ hmem) hl, fun l L H' nl rl hh s1 => ?_⟩
    rw [show a.h = _ from bp.hm _ hmem] at hh
    obtain ⟨h1, h2⟩ := hh.held bp.up
    exact q l L H' nl rl h1 h2 s1
theorem sc_Book_landings_known : FnScope ["self", "light", "known"] ["self", "light", "known"] (defScope s_Book_landings_known) := ⟨rfl, rfl, rfl, by decide +kernel, rfl, by decide +kernel, by decide +kernel⟩
theorem ok_Book_landings_known (D : All K P mg) : FnOk P w K mg base CX0 3 D.f_Book_landings_known D.d_Book_landings_known ["self", "light", "known"] (spLKn D.C_Book D.C_History) := by
  refine D.h_Book_landings_known.fn.ok sc_Book_landings_known (fun vs H Q E h => ?_) (fun cdv A outer s H vs Q E hr h => ?_)
  · first | (obtain ⟨_, rfl, _⟩ := h; rfl) | (obtain ⟨_, _, rfl, _⟩ := h; rfl) | (obtain ⟨_, _, _, rfl, _⟩ := h; rfl) | (obtain ⟨_, _, _, _, rfl, _⟩ := h; rfl) | (obtain ⟨_, _, _, _, _, rfl, _⟩ := h; rfl) | (obtain ⟨_, _, _, _, _, _, rfl, _⟩ := h; rfl) | (obtain ⟨_, _, _, _, _, _, _, rfl, _⟩ := h; rfl) | (obtain ⟨_, _, _, _, _, _, _, _, rfl, _⟩ := h; rfl) | (obtain ⟨_, _, _, _, _, _, _, _, _, rfl, _⟩ := h; rfl) | (obtain ⟨_, _, _, _, _, _, _, _, _, _, rfl, _⟩ := h; rfl) | (obtain ⟨_, _, _, _, _, _, _, _, _, _, _, rfl, _⟩ := h; rfl) | (obtain ⟨_, _, _, _, _, _, _, _, _, _, _, _, rfl, _⟩ := h; rfl) | (obtain ⟨_, _, _, _, _, _, _, _, _, _, _, _, _, rfl, _⟩ := h; rfl) | (obtain ⟨_, _, _, _, _, _, _, _, _, _, _, _, _, _, rfl, _⟩ := h; rfl) | (obtain ⟨_, _, _, _, _, _, _, _, _, _, _, _, _, _, _, rfl, _⟩ := h; rfl)
  · have T := D.T
    have nd := sc_Book_landings_known.nd
    have hu := hr.units
    have hu1 := hu_of hr
    have hu0 := hr.units0
    obtain ⟨_, rk, es, fp, z, kn, rfl, ⟨B, rfl, rfl, rfl, rfl, bh, bp, bl⟩, hl, q⟩ := h
    refine ⟨_, pss_one (ps_ret (pe_ifExp (pt_cmp (pc_din hu1 (pv 1) (pe_fld (pv 0) rfl))) (pe_meth (pe_dget hu1 (pe_fld (pv 0) rfl) (pv 1) (fun _ _ => rfl)) D.Z_History.cl D.h_History_holding.me (ok_History_holding D) (hr.mono (by decide)) D.h_History_holding.bd .nil pass0 (pa_cons (pv 2) pa_nil)) (pe_lst pa_nil))), ?_⟩
    refine ⟨_, rfl, _, rfl, B.b, _, B.dx, _, _, rfl, bh.ix, D.Z_Book.cl, D.n_Book_landings, rfl, ?_⟩
    cases hg : getA B.ld z with
    | none =>
      refine ⟨B.L, _, rfl, dget_no bh.ldd hg, _, rfl, iteF ⟨by show 0 ≤ sizeLine; decide, fun l nl => ?_⟩⟩
      refine q l [] _ nl ⟨[], upd_same, .nil⟩ ⟨List.Pairwise.nil, fun d w => ⟨nofun, fun ⟨h1, h2⟩ => ?_⟩⟩ (Nat.zero_le _) (same_upd nl)
      unfold heldE at h2
      rw [held_none fun e he hm ez => getA_none_iff.mp hg (by rw [← ez]; exact bp.ln e he hm)] at h2
      exact absurd h2.symm h1
    | some a =>
      have hmem := getA_mem hg
      have Ha := bh.hl _ hmem
      refine ⟨B.L, _, rfl, dget_hs bh.ldd hg, _, rfl, iteT ?_⟩
      refine ⟨_, rfl, B.b, _, B.dx, _, _, rfl, bh.ix, D.Z_Book.cl, D.n_Book_landings, rfl, _, rfl, B.L, _, rfl, dget_hs bh.ldd hg, a.x, a.dx, _, rfl, Ha.ix, rfl, _, rfl, a, kn, rfl, Ha, OKH.of (bp.hl _ hmem) hl, fun l L H' nl rl hh s1 => ?_⟩
      rw [show a.h = _ from bp.hl _ hmem] at hh
      obtain ⟨h1, h2⟩ := hh.held bp.up
      exact q l L H' nl rl h1 h2 s1
theorem sc_Book_where : FnScope ["self", "keeper", "day", "known", "place", "first", "moved_to"] ["self", "keeper", "day", "known"] (defScope s_Book_where) := ⟨rfl, rfl, rfl, by decide +kernel, rfl, by decide +kernel, by decide +kernel⟩
theorem ok_Book_where (D : All K P mg) : FnOk P w K mg base CX0 7 D.f_Book_where D.d_Book_where ["self", "keeper", "day", "known"] (spWhere D.C_Book D.C_History) := by
  refine D.q_Book_where.ok sc_Book_where (fun vs H Q E h => ?_) (fun cdv A outer s H vs Q E hr h => ?_)
  · first | (obtain ⟨_, rfl, _⟩ := h; rfl) | (obtain ⟨_, _, rfl, _⟩ := h; rfl) | (obtain ⟨_, _, _, rfl, _⟩ := h; rfl) | (obtain ⟨_, _, _, _, rfl, _⟩ := h; rfl) | (obtain ⟨_, _, _, _, _, rfl, _⟩ := h; rfl) | (obtain ⟨_, _, _, _, _, _, rfl, _⟩ := h; rfl) | (obtain ⟨_, _, _, _, _, _, _, rfl, _⟩ := h; rfl) | (obtain ⟨_, _, _, _, _, _, _, _, rfl, _⟩ := h; rfl) | (obtain ⟨_, _, _, _, _, _, _, _, _, rfl, _⟩ := h; rfl) | (obtain ⟨_, _, _, _, _, _, _, _, _, _, rfl, _⟩ := h; rfl) | (obtain ⟨_, _, _, _, _, _, _, _, _, _, _, rfl, _⟩ := h; rfl) | (obtain ⟨_, _, _, _, _, _, _, _, _, _, _, _, rfl, _⟩ := h; rfl) | (obtain ⟨_, _, _, _, _, _, _, _, _, _, _, _, _, rfl, _⟩ := h; rfl) | (obtain ⟨_, _, _, _, _, _, _, _, _, _, _, _, _, _, rfl, _⟩ := h; rfl) | (obtain ⟨_, _, _, _, _, _, _, _, _, _, _, _, _, _, _, rfl, _⟩ := h; rfl)
  · have T := D.T
    have nd := sc_Book_where.nd
    have hu := hr.units
    have hu1 := hu_of hr
    have hu0 := hr.units0
    obtain ⟨b, rk, es, fp, z, d, kn, rfl, W, hz, hl, h0, hk, q⟩ := h
    refine ⟨_, pss_cons (ps_expr (pe_call (ok_check_keeper D) (hr.mono (by decide)) (by rfl) D.h_check_keeper.gl D.h_check_keeper.fn.kp D.h_check_keeper.bd .nil pass0 (pa_cons (pv 0) (pa_cons (pv 1) pa_nil))))
      (pss_cons (ps_expr (pe_call (ok_check_days D) (hr.mono (by decide)) (by rfl) D.h_check_days.gl D.h_check_days.fn.kp D.h_check_days.bd .nil pass0 (pa_cons (pv 2) (pa_cons (pv 3) pa_nil))))
      (pss_cons (ps_set (i := 4) nd rfl (.inl rfl) (pe_glob (v := .str (Str.ofString "")) (by rfl) D.g_ASHORE ⟨_, rfl⟩))
      (pss_cons (PS.nox (ps_for PassesOwn.never rfl (pi_list (pe_meth (pv 0) D.Z_Book.cl D.h_Book_moves_known.me (ok_Book_moves_known D) (hr.mono (by decide)) D.h_Book_moves_known.bd .nil pass0 (pa_cons (pv 1) (pa_cons (pv 3) pa_nil)))) (pg_tup rfl (pgs_cons (pg_name (i := 5) nd rfl (Or.inl rfl)) (pgs_cons (pg_name (i := 6) nd rfl (Or.inl rfl)) pgs_nil))) (pss_one (ps_if (pt_cmpR op_le (pv 5) (pv 2) (nomark _)) (pss_one (ps_set (i := 4) nd rfl (.inl rfl) (pv 6))) pss_nil))))
      (pss_one (ps_ret (pv 4)))))), ?_⟩
    have W0 := W
    obtain ⟨B, rfl, rfl, rfl, rfl, bh, bp, bl⟩ := W0
    refine ⟨_, rfl, _, rfl, B.b, B.rk, B.es, B.fp, z, rfl, W, hz, fun H1 s1 => ?_⟩
    refine ⟨_, rfl, _, rfl, d, kn, rfl, h0, hk, ?_⟩
    refine ⟨_, rfl, B.b, B.dx, _, rfl, s1 _ _ bh.ix, rfl, _, rfl, _, rfl, B.b, B.rk, B.es, B.fp, z, kn, rfl, W.mono s1, hz, hl, fun l L H2 nl ⟨ts, el, rl⟩ hh hL s2 => ?_⟩
    refine ⟨l, rfl, ⟨_, SqL.of el⟩, for_list (xs := ts.map V.ref) (fun i σ H' => ∃ x5 x6, σ = [some (.ref B.b), some (.str z), some (.int d), some (knV kn), some (whereL (L.take i) d), x5, x6] ∧ H' = H2)
      ⟨none, none, rfl, rfl⟩ (fun i σ H' _ ⟨_, _, _, e⟩ => by rw [e]; exact SqL.of el) ?_ ?_⟩
    · rintro i y σ H3 hy ⟨x5, x6, rfl, rfl⟩
      obtain ⟨t, p, rfl, hp, ht⟩ := rl.at_ hy
      refine ⟨t, _, rfl, SqT.of ht, rfl, _, _, rfl, _, _, rfl, rfl, ?_⟩
      refine ⟨_, rfl, _, rfl, _, _, rfl, rfl, _, rfl, ite2 (fun h => ?_) (fun h => ?_)⟩
      · refine ⟨_, rfl, some (.int p.1), some p.2, ?_, rfl⟩
        rw [take_snoc hp, whereL_snoc, if_pos (of_decide_eq_true h)]
        rfl
      · refine ⟨some (.int p.1), some p.2, ?_, rfl⟩
        rw [take_snoc hp, whereL_snoc, if_neg (fun e => h (decide_eq_true e))]
        rfl
    · rintro σ H3 ⟨x5, x6, rfl, rfl⟩
      have hlen : ts.length = L.length := Paired.length rl
      refine ⟨_, rfl, q _ H3 ?_ (s1.trans s2)⟩
      rw [List.length_map, hlen, List.take_length]
      exact whereL_is hh
theorem sc_Book_landed : FnScope ["self", "light", "day", "known"] ["self", "light", "day", "known"] (defScope s_Book_landed) := ⟨rfl, rfl, rfl, by decide +kernel, rfl, by decide +kernel, by decide +kernel⟩
theorem ok_Book_landed (D : All K P mg) : FnOk P w K mg base CX0 7 D.f_Book_landed D.d_Book_landed ["self", "light", "day", "known"] (spLanded D.C_Book D.C_History) := by
  refine D.q_Book_landed.ok sc_Book_landed (fun vs H Q E h => ?_) (fun cdv A outer s H vs Q E hr h => ?_)
  · first | (obtain ⟨_, rfl, _⟩ := h; rfl) | (obtain ⟨_, _, rfl, _⟩ := h; rfl) | (obtain ⟨_, _, _, rfl, _⟩ := h; rfl) | (obtain ⟨_, _, _, _, rfl, _⟩ := h; rfl) | (obtain ⟨_, _, _, _, _, rfl, _⟩ := h; rfl) | (obtain ⟨_, _, _, _, _, _, rfl, _⟩ := h; rfl) | (obtain ⟨_, _, _, _, _, _, _, rfl, _⟩ := h; rfl) | (obtain ⟨_, _, _, _, _, _, _, _, rfl, _⟩ := h; rfl) | (obtain ⟨_, _, _, _, _, _, _, _, _, rfl, _⟩ := h; rfl) | (obtain ⟨_, _, _, _, _, _, _, _, _, _, rfl, _⟩ := h; rfl) | (obtain ⟨_, _, _, _, _, _, _, _, _, _, _, rfl, _⟩ := h; rfl) | (obtain ⟨_, _, _, _, _, _, _, _, _, _, _, _, rfl, _⟩ := h; rfl) | (obtain ⟨_, _, _, _, _, _, _, _, _, _, _, _, _, rfl, _⟩ := h; rfl) | (obtain ⟨_, _, _, _, _, _, _, _, _, _, _, _, _, _, rfl, _⟩ := h; rfl) | (obtain ⟨_, _, _, _, _, _, _, _, _, _, _, _, _, _, _, rfl, _⟩ := h; rfl)
  · have T := D.T
    have nd := sc_Book_landed.nd
    have hu := hr.units
    have hu1 := hu_of hr
    have hu0 := hr.units0
    obtain ⟨b, rk, es, fp, z, d, kn, rfl, W, hz, hl, h0, hk, q⟩ := h
    refine ⟨_, pss_cons (ps_expr (pe_call (ok_check_light D) (hr.mono (by decide)) (by rfl) D.h_check_light.gl D.h_check_light.fn.kp D.h_check_light.bd .nil pass0 (pa_cons (pv 1) pa_nil)))
      (pss_cons (ps_expr (pe_call (ok_check_days D) (hr.mono (by decide)) (by rfl) D.h_check_days.gl D.h_check_days.fn.kp D.h_check_days.bd .nil pass0 (pa_cons (pv 2) (pa_cons (pv 3) pa_nil))))
      (pss_one (ps_ret (pe_dget2 hu1 (pe_callTy (call_dictP rfl) (by rfl) T.dict (by decide +kernel) (pa_cons (pe_meth (pv 0) D.Z_Book.cl D.h_Book_landings_known.me (ok_Book_landings_known D) (hr.mono (by decide)) D.h_Book_landings_known.bd .nil pass0 (pa_cons (pv 1) (pa_cons (pv 3) pa_nil))) pa_nil)) (pv 2) pe_int ⟨rfl, rfl, rfl, rfl⟩)))), ?_⟩
    have W0 := W
    obtain ⟨B, rfl, rfl, rfl, rfl, bh, bp, bl⟩ := W0
    refine ⟨_, rfl, z, rfl, hz, fun H1 s1 => ?_⟩
    refine ⟨_, rfl, _, rfl, d, kn, rfl, h0, hk, ?_⟩
    refine ⟨_, rfl, B.b, B.dx, _, rfl, s1 _ _ bh.ix, rfl, _, rfl, _, rfl, B.b, B.rk, B.es, B.fp, z, kn, rfl, W.mono s1, hl, fun l L H2 nl ⟨ts, el, rl⟩ hh hL s2 => ?_⟩
    refine ⟨l, ts, enA Sum.inl id L, rfl, SqL.of el, rows_pairs rl, fun m nm => ?_⟩
    rw [merge_en inl_inj (holdF_nodup hh)]
    refine ⟨m, rfl, .inl ⟨_, .inl upd_same⟩, _, rfl, _, DGet.k (k := Sum.inl d) upd_same, ?_⟩
    have e : valV (enA Sum.inl id L) (Sum.inl d) = heldO B.es false z kn d := (told_val L d).trans (hold_get bp.ev hh d)
    rw [e]
    exact q _ (s1.trans (s2.trans (same_upd nm)))
end
end K80
set_option Elab.async false
set_option linter.all false
set_option maxRecDepth 100000
set_option maxHeartbeats 1600000
set_option pp.maxSteps 300
namespace K80
open PySem PySem.Spec PyProof.Rows L2 LT NdefX
section
variable {P : Program} {w : World} {K : PySem.W.Frag} {mg : Str → Option Value} {base : Heap}
theorem sc_Stretch___init__ : FnScope ["self", "first", "last"] ["self", "first", "last"] (defScope s_Stretch___init__) := ⟨rfl, rfl, rfl, by decide +kernel, rfl, by decide +kernel, by decide +kernel⟩
theorem ok_Stretch___init__ (D : All K P mg) : FnOk P w K mg base CX0 4 D.f_Stretch___init__ D.d_Stretch___init__ ["self", "first", "last"] (spSInit D.C_Stretch) := by
  refine D.q_Stretch___init__.ok sc_Stretch___init__ (fun vs H Q E h => ?_) (fun cdv A outer s H vs Q E hr h => ?_)
  · first | (obtain ⟨_, rfl, _⟩ := h; rfl) | (obtain ⟨_, _, rfl, _⟩ := h; rfl) | (obtain ⟨_, _, _, rfl, _⟩ := h; rfl) | (obtain ⟨_, _, _, _, rfl, _⟩ := h; rfl) | (obtain ⟨_, _, _, _, _, rfl, _⟩ := h; rfl) | (obtain ⟨_, _, _, _, _, _, rfl, _⟩ := h; rfl) | (obtain ⟨_, _, _, _, _, _, _, rfl, _⟩ := h; rfl) | (obtain ⟨_, _, _, _, _, _, _, _, rfl, _⟩ := h; rfl) | (obtain ⟨_, _, _, _, _, _, _, _, _, rfl, _⟩ := h; rfl) | (obtain ⟨_, _, _, _, _, _, _, _, _, _, rfl, _⟩ := h; rfl) | (obtain ⟨_, _, _, _, _, _, _, _, _, _, _, rfl, _⟩ := h; rfl) | (obtain ⟨_, _, _, _, _, _, _, _, _, _, _, _, rfl, _⟩ := h; rfl) | (obtain ⟨_, _, _, _, _, _, _, _, _, _, _, _, _, rfl, _⟩ := h; rfl) | (obtain ⟨_, _, _, _, _, _, _, _, _, _, _, _, _, _, rfl, _⟩ := h; rfl) | (obtain ⟨_, _, _, _, _, _, _, _, _, _, _, _, _, _, _, rfl, _⟩ := h; rfl)
  · have T := D.T
    have nd := sc_Stretch___init__.nd
    have hu := hr.units
    have hu1 := hu_of hr
    have hu0 := hr.units0
    obtain ⟨x, dx, f, la, rfl, hx, h0, hl, q⟩ := h
    refine ⟨_, pss_cons (ps_if (pt_not (pt_val (pe_call (ok_is_day D) (hr.mono (by decide)) (by rfl) D.h_is_day.gl D.h_is_day.fn.kp D.h_is_day.bd .nil pass0 (pa_cons (pv 1) pa_nil)))) (pss_one ps_never) pss_nil)
      (pss_cons (ps_if (PW.pt (pw_and (pt_cmpR op_notN (pv 2) pe_non (nomark _)) (pw_and1 (pt_not (pt_val (pe_call (ok_is_day D) (hr.mono (by decide)) (by rfl) D.h_is_day.gl D.h_is_day.fn.kp D.h_is_day.bd .nil pass0 (pa_cons (pv 2) pa_nil))))))) (pss_one ps_never) pss_nil)
      (pss_cons (ps_if (PW.pt (pw_and (pt_cmpR op_notN (pv 2) pe_non (nomark _)) (pw_and1 (pt_cmpR op_lt (pv 2) (pv 1) (nomark _))))) (pss_one ps_never) pss_nil)
      (pss_cons (ps_fld (pv 0) (pv 1) rfl)
      (pss_one (ps_fld (pv 0) (pv 2) rfl))))), ?_⟩
    refine ⟨_, rfl, .int f, rfl, .int f, _, rfl, ?_⟩
    rw [show fromB (.int f) 0 = true from decide_eq_true h0]
    refine iteF ?_
    cases la with
    | none =>
      refine ⟨_, rfl, rfl, _, rfl, iteF (iteF ?_)⟩
      refine ⟨_, rfl, rfl, _, rfl, iteF (iteF ?_)⟩
      refine ⟨_, rfl, _, rfl, x, _, dx, _, rfl, hx, D.Z_Stretch.cl, D.n_Stretch_first_day, by decide, ?_⟩
      refine ⟨_, rfl, _, rfl, x, _, dx, _, rfl, upd_same, D.Z_Stretch.cl, D.n_Stretch_last_day, by show 1 < 1000; decide, ?_⟩
      exact q _ ⟨dx, upd_same⟩ (SameB.upd (SameB.upd (SameB.of (Same.refl _))))
    | some e =>
      have he := hl e rfl
      refine ⟨_, rfl, rfl, _, rfl, iteT ⟨_, rfl, .int e, rfl, .int e, _, rfl, ?_⟩⟩
      rw [show fromB (.int e) 0 = true from decide_eq_true (by omega)]
      refine iteF ?_
      refine ⟨_, rfl, rfl, _, rfl, iteT ⟨_, rfl, _, rfl, e, f, rfl, rfl, _, rfl, ?_⟩⟩
      rw [decide_eq_false (by omega : ¬ e < f)]
      refine iteF ?_
      refine ⟨_, rfl, _, rfl, x, _, dx, _, rfl, hx, D.Z_Stretch.cl, D.n_Stretch_first_day, by decide, ?_⟩
      refine ⟨_, rfl, _, rfl, x, _, dx, _, rfl, upd_same, D.Z_Stretch.cl, D.n_Stretch_last_day, by show 1 < 1000; decide, ?_⟩
      exact q _ ⟨dx, upd_same⟩ (SameB.upd (SameB.upd (SameB.of (Same.refl _))))
theorem sc_Stretch_first : FnScope ["self"] ["self"] (defScope s_Stretch_first) := ⟨rfl, rfl, rfl, by decide +kernel, rfl, by decide +kernel, by decide +kernel⟩
theorem ok_Stretch_first (D : All K P mg) : FnOk P w K mg base CX0 1 D.f_Stretch_first D.d_Stretch_first ["self"] (spSFirst D.C_Stretch) := by
  refine D.h_Stretch_first.fn.ok sc_Stretch_first (fun vs H Q E h => ?_) (fun cdv A outer s H vs Q E hr h => ?_)
  · first | (obtain ⟨_, rfl, _⟩ := h; rfl) | (obtain ⟨_, _, rfl, _⟩ := h; rfl) | (obtain ⟨_, _, _, rfl, _⟩ := h; rfl) | (obtain ⟨_, _, _, _, rfl, _⟩ := h; rfl) | (obtain ⟨_, _, _, _, _, rfl, _⟩ := h; rfl) | (obtain ⟨_, _, _, _, _, _, rfl, _⟩ := h; rfl) | (obtain ⟨_, _, _, _, _, _, _, rfl, _⟩ := h; rfl) | (obtain ⟨_, _, _, _, _, _, _, _, rfl, _⟩ := h; rfl) | (obtain ⟨_, _, _, _, _, _, _, _, _, rfl, _⟩ := h; rfl) | (obtain ⟨_, _, _, _, _, _, _, _, _, _, rfl, _⟩ := h; rfl) | (obtain ⟨_, _, _, _, _, _, _, _, _, _, _, rfl, _⟩ := h; rfl) | (obtain ⟨_, _, _, _, _, _, _, _, _, _, _, _, rfl, _⟩ := h; rfl) | (obtain ⟨_, _, _, _, _, _, _, _, _, _, _, _, _, rfl, _⟩ := h; rfl) | (obtain ⟨_, _, _, _, _, _, _, _, _, _, _, _, _, _, rfl, _⟩ := h; rfl) | (obtain ⟨_, _, _, _, _, _, _, _, _, _, _, _, _, _, _, rfl, _⟩ := h; rfl)
  · have T := D.T
    have nd := sc_Stretch_first.nd
    have hu := hr.units
    have hu1 := hu_of hr
    have hu0 := hr.units0
    obtain ⟨x, f, la, rfl, ⟨dx, hx⟩, q⟩ := h
    refine ⟨_, pss_one (ps_ret (pe_fld (pv 0) rfl)), ?_⟩
    exact ⟨_, rfl, x, _, dx, _, _, rfl, hx, D.Z_Stretch.cl, D.n_Stretch_first_day, rfl, q⟩
theorem sc_Stretch_last : FnScope ["self"] ["self"] (defScope s_Stretch_last) := ⟨rfl, rfl, rfl, by decide +kernel, rfl, by decide +kernel, by decide +kernel⟩
theorem ok_Stretch_last (D : All K P mg) : FnOk P w K mg base CX0 1 D.f_Stretch_last D.d_Stretch_last ["self"] (spSLast D.C_Stretch) := by
  refine D.h_Stretch_last.fn.ok sc_Stretch_last (fun vs H Q E h => ?_) (fun cdv A outer s H vs Q E hr h => ?_)
  · first | (obtain ⟨_, rfl, _⟩ := h; rfl) | (obtain ⟨_, _, rfl, _⟩ := h; rfl) | (obtain ⟨_, _, _, rfl, _⟩ := h; rfl) | (obtain ⟨_, _, _, _, rfl, _⟩ := h; rfl) | (obtain ⟨_, _, _, _, _, rfl, _⟩ := h; rfl) | (obtain ⟨_, _, _, _, _, _, rfl, _⟩ := h; rfl) | (obtain ⟨_, _, _, _, _, _, _, rfl, _⟩ := h; rfl) | (obtain ⟨_, _, _, _, _, _, _, _, rfl, _⟩ := h; rfl) | (obtain ⟨_, _, _, _, _, _, _, _, _, rfl, _⟩ := h; rfl) | (obtain ⟨_, _, _, _, _, _, _, _, _, _, rfl, _⟩ := h; rfl) | (obtain ⟨_, _, _, _, _, _, _, _, _, _, _, rfl, _⟩ := h; rfl) | (obtain ⟨_, _, _, _, _, _, _, _, _, _, _, _, rfl, _⟩ := h; rfl) | (obtain ⟨_, _, _, _, _, _, _, _, _, _, _, _, _, rfl, _⟩ := h; rfl) | (obtain ⟨_, _, _, _, _, _, _, _, _, _, _, _, _, _, rfl, _⟩ := h; rfl) | (obtain ⟨_, _, _, _, _, _, _, _, _, _, _, _, _, _, _, rfl, _⟩ := h; rfl)
  · have T := D.T
    have nd := sc_Stretch_last.nd
    have hu := hr.units
    have hu1 := hu_of hr
    have hu0 := hr.units0
    obtain ⟨x, f, la, rfl, ⟨dx, hx⟩, q⟩ := h
    refine ⟨_, pss_one (ps_ret (pe_fld (pv 0) rfl)), ?_⟩
    exact ⟨_, rfl, x, _, dx, _, _, rfl, hx, D.Z_Stretch.cl, D.n_Stretch_last_day, rfl, q⟩
theorem sc_Stretch_has : FnScope ["self", "day"] ["self", "day"] (defScope s_Stretch_has) := ⟨rfl, rfl, rfl, by decide +kernel, rfl, by decide +kernel, by decide +kernel⟩
theorem ok_Stretch_has (D : All K P mg) : FnOk P w K mg base CX0 4 D.f_Stretch_has D.d_Stretch_has ["self", "day"] (spSHas D.C_Stretch) := by
  refine D.h_Stretch_has.fn.ok sc_Stretch_has (fun vs H Q E h => ?_) (fun cdv A outer s H vs Q E hr h => ?_)
  · first | (obtain ⟨_, rfl, _⟩ := h; rfl) | (obtain ⟨_, _, rfl, _⟩ := h; rfl) | (obtain ⟨_, _, _, rfl, _⟩ := h; rfl) | (obtain ⟨_, _, _, _, rfl, _⟩ := h; rfl) | (obtain ⟨_, _, _, _, _, rfl, _⟩ := h; rfl) | (obtain ⟨_, _, _, _, _, _, rfl, _⟩ := h; rfl) | (obtain ⟨_, _, _, _, _, _, _, rfl, _⟩ := h; rfl) | (obtain ⟨_, _, _, _, _, _, _, _, rfl, _⟩ := h; rfl) | (obtain ⟨_, _, _, _, _, _, _, _, _, rfl, _⟩ := h; rfl) | (obtain ⟨_, _, _, _, _, _, _, _, _, _, rfl, _⟩ := h; rfl) | (obtain ⟨_, _, _, _, _, _, _, _, _, _, _, rfl, _⟩ := h; rfl) | (obtain ⟨_, _, _, _, _, _, _, _, _, _, _, _, rfl, _⟩ := h; rfl) | (obtain ⟨_, _, _, _, _, _, _, _, _, _, _, _, _, rfl, _⟩ := h; rfl) | (obtain ⟨_, _, _, _, _, _, _, _, _, _, _, _, _, _, rfl, _⟩ := h; rfl) | (obtain ⟨_, _, _, _, _, _, _, _, _, _, _, _, _, _, _, rfl, _⟩ := h; rfl)
  · have T := D.T
    have nd := sc_Stretch_has.nd
    have hu := hr.units
    have hu1 := hu_of hr
    have hu0 := hr.units0
    obtain ⟨x, f, la, d, rfl, ⟨dx, hx⟩, d0, q⟩ := h
    refine ⟨_, pss_cons (ps_if (pt_not (pt_val (pe_call (ok_is_day D) (hr.mono (by decide)) (by rfl) D.h_is_day.gl D.h_is_day.fn.kp D.h_is_day.bd .nil pass0 (pa_cons (pv 1) pa_nil)))) (pss_one ps_never) pss_nil)
      (pss_one (ps_ret (pe_and (pe_cmpR op_le (pe_fld (pv 0) rfl) (pv 1) (nomark _)) (pe_one (pe_or (pe_cmpR op_isN (pe_fld (pv 0) rfl) pe_non (nomark _)) (pe_one (pe_cmpR op_le (pv 1) (pe_fld (pv 0) rfl) (nomark _)))))))), ?_⟩
    refine ⟨_, rfl, .int d, rfl, .int d, _, rfl, ?_⟩
    rw [show fromB (.int d) 0 = true from decide_eq_true d0]
    refine iteF ?_
    refine ⟨_, rfl, x, _, dx, _, _, rfl, hx, D.Z_Stretch.cl, D.n_Stretch_first_day, rfl, _, rfl, f, d, rfl, rfl, _, rfl, ?_⟩
    unfold hasB at q
    cases hf : decide (f ≤ d) with
    | false =>
      rw [hf] at q
      exact iteF q
    | true =>
      rw [hf] at q
      refine iteT ⟨_, rfl, x, _, dx, _, _, rfl, hx, D.Z_Stretch.cl, D.n_Stretch_last_day, rfl, rfl, _, rfl, ?_⟩
      cases la with
      | none => exact iteT q
      | some e => exact iteF ⟨_, rfl, _, rfl, x, _, dx, _, _, rfl, hx, D.Z_Stretch.cl, D.n_Stretch_last_day, rfl, d, e, rfl, rfl, q⟩
theorem sc_runs_of : FnScope ["start", "changes", "begins", "day", "what", "lasts", "last"] ["start", "changes"] (defScope s_runs_of) := ⟨rfl, rfl, rfl, by decide +kernel, rfl, by decide +kernel, by decide +kernel⟩
theorem ok_runs_of (D : All K P mg) : FnOk P w K mg base CX0 6 D.f_runs_of D.d_runs_of ["start", "changes"] (spRunsA D.C_Stretch) := by
  refine D.h_runs_of.fn.ok sc_runs_of (fun vs H Q E h => ?_) (fun cdv A outer s H vs Q E hr h => ?_)
  · first | (obtain ⟨_, rfl, _⟩ := h; rfl) | (obtain ⟨_, _, rfl, _⟩ := h; rfl) | (obtain ⟨_, _, _, rfl, _⟩ := h; rfl) | (obtain ⟨_, _, _, _, rfl, _⟩ := h; rfl) | (obtain ⟨_, _, _, _, _, rfl, _⟩ := h; rfl) | (obtain ⟨_, _, _, _, _, _, rfl, _⟩ := h; rfl) | (obtain ⟨_, _, _, _, _, _, _, rfl, _⟩ := h; rfl) | (obtain ⟨_, _, _, _, _, _, _, _, rfl, _⟩ := h; rfl) | (obtain ⟨_, _, _, _, _, _, _, _, _, rfl, _⟩ := h; rfl) | (obtain ⟨_, _, _, _, _, _, _, _, _, _, rfl, _⟩ := h; rfl) | (obtain ⟨_, _, _, _, _, _, _, _, _, _, _, rfl, _⟩ := h; rfl) | (obtain ⟨_, _, _, _, _, _, _, _, _, _, _, _, rfl, _⟩ := h; rfl) | (obtain ⟨_, _, _, _, _, _, _, _, _, _, _, _, _, rfl, _⟩ := h; rfl) | (obtain ⟨_, _, _, _, _, _, _, _, _, _, _, _, _, _, rfl, _⟩ := h; rfl) | (obtain ⟨_, _, _, _, _, _, _, _, _, _, _, _, _, _, _, rfl, _⟩ := h; rfl)
  · have T := D.T
    have nd := sc_runs_of.nd
    have hu := hr.units
    have hu1 := hu_of hr
    have hu0 := hr.units0
    obtain ⟨s, l, ch, rfl, ⟨ts, el, hts⟩, up, h0, hs, hl, q⟩ := h
    obtain ⟨_, v3_Stretch___init__, b3_Stretch___init__⟩ := D.q_Stretch___init__.binds1 (ps := ["self", "first", "last"]) 3 1 (by simp) (by rfl) (fun _ _ _ _ _ _ _ us its h1 h2 => match us, its, h1, h2 with | [_, _, _], [_], _, _ => ⟨_, rfl, rfl⟩)
    refine ⟨_, pss_cons (ps_set (i := 2) nd rfl (.inl rfl) (pe_lst (pa_cons (pe_tup (pa_cons pe_int (pa_cons (pv 0) pa_nil))) pa_nil)))
      (pss_cons (ps_for PassesOwn.never rfl (pi_list (pv 1)) (pg_tup rfl (pgs_cons (pg_name (i := 3) nd rfl (Or.inl rfl)) (pgs_cons (pg_name (i := 4) nd rfl (Or.inl rfl)) pgs_nil))) (pss_one (ps_if (pt_cmpR op_eq (pv 3) pe_int (nomark _)) (pss_one (ps_set (i := 2) nd rfl (.inl rfl) (pe_lst (pa_cons (pe_tup (pa_cons pe_int (pa_cons (pv 4) pa_nil))) pa_nil)))) (pss_one (ps_if (pt_cmpR op_ne (pv 4) (pe_ix ix_tup (pe_ix ix_list (pv 2) (pe_un un_neg pe_int) (fun _ _ => rfl)) pe_int (fun _ _ => rfl)) (nomark _)) (pss_one (ps_expr (pe_bm PySem.F.plainAttrs_list PySem.F.slot_list_append PySem.F.type_list_append mt_append (pv 2) (pa_cons (pe_tup (pa_cons (pv 3) (pa_cons (pv 4) pa_nil))) pa_nil)))) pss_nil)))))
      (pss_cons (ps_set (i := 5) nd rfl (.inl rfl) (pe_op op_cat (pe_lc (own := [("day", 3), ("what", 4)]) (g := gTup K 2 (gCons (gName 3) (gCons (gName 4) gNil))) (tt := tYes) rfl nd (pi_list (pe_slice sl_list (pv 2) (po_some pe_int) po_none)) (blkOk_by (N := ["start", "changes", "begins", "day", "what", "lasts", "last"]) (sc := defScope s_runs_of) (by decide +kernel)) (fun _ _ _ _ _ => (pg_tup rfl (pgs_cons (pg_name (i := 3) nd rfl (Or.inl rfl)) (pgs_cons (pg_name (i := 4) nd rfl (Or.inl rfl)) pgs_nil)))) (fun _ _ _ _ _ => pts_nil) (fun _ _ _ _ _ => (pe_op op_sub (pv 3) pe_int))) (pe_lst (pa_cons pe_non pa_nil))))
      (pss_one (ps_ret (pe_lc (own := [("day", 3), ("what", 4), ("last", 6)]) (g := gTup K 2 (gCons (gTup K 2 (gCons (gName 3) (gCons (gName 4) gNil))) (gCons (gName 6) gNil))) (tt := tYes) rfl nd (RZ.pi_zipA (by rfl) T.zip (pa_cons (pv 2) (pa_cons (pv 5) pa_nil))) (blkOk_by (N := ["start", "changes", "begins", "day", "what", "lasts", "last"]) (sc := defScope s_runs_of) (by decide +kernel)) (fun _ _ _ _ _ => (pg_tup rfl (pgs_cons (pg_tup rfl (pgs_cons (pg_name (i := 3) nd rfl (Or.inl rfl)) (pgs_cons (pg_name (i := 4) nd rfl (Or.inl rfl)) pgs_nil))) (pgs_cons (pg_name (i := 6) nd rfl (Or.inl rfl)) pgs_nil)))) (fun _ _ _ _ _ => pts_nil) (fun _ _ _ _ _ => (pe_tup (pa_cons (pv 4) (pa_cons (pe_make D.M_Stretch (ok_Stretch___init__ D) (hr.mono (by decide)) (by rfl) D.Z_Stretch.gl b3_Stretch___init__ v3_Stretch___init__ pass0 (pa_cons (pv 3) (pa_cons (pv 6) pa_nil))) pa_nil))))))))), ?_⟩
    refine ⟨_, rfl, by show 2 ≤ sizeLine; decide, fun t0 n0 => ?_⟩
    have s1 := same_upd (o := .tup [V.int 0, s]) n0
    have et0 := upd_same (H := H) (a := t0) (o := .tup [V.int 0, s])
    generalize upd H t0 (.tup [V.int 0, s]) = H1 at *
    refine ⟨by show 1 ≤ sizeLine; decide, fun b0 nb0 => ?_⟩
    have s2 := same_upd (o := .lst [V.ref t0]) nb0
    have eb0 := upd_same (H := H1) (a := b0) (o := .lst [V.ref t0])
    generalize upd H1 b0 (.lst [V.ref t0]) = H2 at *
    refine ⟨_, rfl, l, rfl, ⟨_, SqL.of (s2 _ _ (s1 _ _ el))⟩, for_list (xs := ts.map V.ref) (fun i σ H' => ∃ (b : Addr) (bs : List Addr) (x3 x4 x5 x6 : Option V), σ = [some s, some (.ref l), some (.ref b), x3, x4, x5, x6] ∧ Same H H' ∧ H b = none ∧ H' b = some (.lst (bs.map V.ref)) ∧ RowsP H' bs (begF s (ch.take i)))
      ⟨b0, [t0], none, none, none, none, rfl, s1.trans s2, s1.free nb0, eb0, .cons (s2 _ _ et0) .nil⟩ (fun i σ H' _ ⟨_, _, _, _, _, _, _, sm, _⟩ => SqL.of (sm _ _ el)) ?_ ?_⟩
    · rintro i y σ H3 hy ⟨b, bs, x3, x4, x5, x6, rfl, s3, nb, eb, hbs⟩
      obtain ⟨t, p, rfl, hp, ht⟩ := pick_at hts hy
      refine ⟨t, _, rfl, SqT.of (s3 _ _ ht), rfl, _, _, rfl, _, _, rfl, rfl, ?_⟩
      have gb := begF_snoc s (ch.take i) p
      rw [← take_snoc hp] at gb
      have hb0 : ∀ {z : Addr} {xs : List Addr}, H3 b = some (.lst (xs.map V.ref)) → z = b → H z = none := fun _ e => by rw [e]; exact nb
      refine ⟨_, rfl, rfl, _, rfl, ite2 (fun h => ?_) (fun h => ?_)⟩
      · have hz : p.1 = 0 := V.int.inj (of_decide_eq_true h)
        refine ⟨_, rfl, by show 2 ≤ sizeLine; decide, fun t1 n1 => ?_⟩
        have s4 := same_upd (o := .tup [V.int 0, p.2]) n1
        have et1 := upd_same (H := H3) (a := t1) (o := .tup [V.int 0, p.2])
        generalize upd H3 t1 (.tup [V.int 0, p.2]) = H4 at *
        refine ⟨by show 1 ≤ sizeLine; decide, fun b1 nb1 => ?_⟩
        have s5 := same_upd (o := .lst [V.ref t1]) nb1
        have eb1 := upd_same (H := H4) (a := b1) (o := .lst [V.ref t1])
        generalize upd H4 b1 (.lst [V.ref t1]) = H5 at *
        refine ⟨b1, [t1], some (.int p.1), some p.2, x5, x6, rfl, s3.trans (s4.trans s5), (s3.trans s4).free nb1, eb1, ?_⟩
        rw [gb]
        unfold begS
        rw [if_pos hz]
        exact .cons (s5 _ _ et1) .nil
      · have hz : ¬ p.1 = 0 := fun e => h (decide_eq_true (by rw [e]))
        obtain ⟨tl, pl, e1, e2, e3, e4⟩ := rows_last hbs (begF_ne s _)
        have sc : scal p.2 pl.2 = true := by
          refine hs _ (List.mem_cons_of_mem _ (List.mem_map.mpr ⟨p, List.mem_of_getElem? hp, rfl⟩)) _ ?_
          rcases begF_vals _ _ e3 with e | ⟨x, hx, e⟩
          · rw [e]
            exact List.mem_cons_self
          · rw [← e]
            exact List.mem_cons_of_mem _ (List.mem_map.mpr ⟨x, List.mem_of_mem_take hx, rfl⟩)
        refine ⟨_, rfl, _, rfl, 1, rfl, b, _, -1, _, rfl, rfl, SqL.of eb, e1, tl, _, 1, _, rfl, rfl, SqT.of e2, atI_nat (j := 1) rfl, sc, _, rfl, ?_⟩
        by_cases hw : p.2 = pl.2
        · rw [decide_eq_true hw]
          refine iteF ⟨b, bs, some (.int p.1), some p.2, x5, x6, rfl, s3, nb, eb, ?_⟩
          rw [gb]
          unfold begS
          rw [if_neg hz, if_pos (hw.trans e4.symm)]
          exact hbs
        · rw [decide_eq_false hw]
          refine iteT ⟨_, rfl, .inl ⟨rfl, _, SqL.of eb⟩, _, rfl, _, rfl, by show 2 ≤ sizeLine; decide, fun t1 n1 => ?_⟩
          have s4 := same_upd (o := .tup [V.int p.1, p.2]) n1
          have et1 := upd_same (H := H3) (a := t1) (o := .tup [V.int p.1, p.2])
          generalize upd H3 t1 (.tup [V.int p.1, p.2]) = H4 at *
          have eb4 := s4 _ _ eb
          have bl : bs.length ≤ 1001 := by
            have h1 := Paired.length hbs
            have h2 := turns_len (L := ch.take i) (s := s)
            rw [runF_len, List.length_take] at h2
            omega
          refine ⟨b, _, _, rfl, rfl, eb4, by rw [List.length_map]; exact small2k (by omega), ?_⟩
          refine ⟨b, bs ++ [t1], some (.int p.1), some p.2, x5, x6, rfl, same_put nb (s3.trans s4), nb, ?_, ?_⟩
          · rw [upd_same, List.map_append]
            rfl
          · rw [gb]
            unfold begS
            rw [if_neg hz, if_neg (fun e => hw (e.trans e4))]
            exact ((hbs.mono s4).snoc et1).upd eb4
    · rintro σ H3 ⟨b, bs, x3, x4, x5, x6, rfl, s3, nb, eb, hbs⟩
      have tl : ts.length = ch.length := Paired.length hts
      rw [List.length_map, tl, List.take_length] at hbs
      have blen : bs.length ≤ 1001 ∧ bs.length = (begF s ch).length := by
        have h1 := Paired.length hbs
        have h2 := turns_len (L := ch) (s := s)
        rw [runF_len] at h2
        omega
      have Bg : Begs s (dd ch) (begF s ch) := by
        rw [begF_dd]
        exact begs_of s (dd ch) (dd_up up) fun x hx => h0 x (dd_mem.mp hx)
      have Bne := begF_ne s ch
      have B0 : ∀ p ∈ begF s ch, 0 ≤ p.1 := fun p hp => by
        rcases Bg.le p hp with h | ⟨y, hy, h⟩
        · omega
        · have := h0 y (dd_mem.mp hy)
          omega
      generalize hB : begF s ch = B at *
      refine ⟨_, rfl, 1, rfl, b, _, rfl, SqL.of eb, fun c nc => ?_⟩
      have ec0 : cutV (bs.map V.ref) (some 1) none = (bs.drop 1).map V.ref := cut_drop _ _ (by decide)
      rw [ec0]
      have s4 := same_upd (o := .lst ((bs.drop 1).map V.ref)) nc
      have ec := upd_same (H := H3) (a := c) (o := .lst ((bs.drop 1).map V.ref))
      generalize upd H3 c (.lst ((bs.drop 1).map V.ref)) = H4 at *
      have hd1 : RowsP H4 (bs.drop 1) (B.drop 1) := by
        have := hbs.mono s4
        cases this with
        | nil => exact .nil
        | cons _ r => exact r
      refine ⟨c, rfl, ⟨_, SqL.of ec⟩, fun F nF => ?_⟩
      refine lc_list (K := K) (a := c) (xs := (bs.drop 1).map V.ref) (fun i H' => Same H4 H' ∧ H' F = some (.lst (((B.drop 1).take i).map fun p => V.int (p.1 - 1)))) ⟨same_upd nF, upd_same⟩ (fun i H' _ ⟨s, _⟩ => SqL.of (s _ _ ec)) ?_ ?_
      · rintro i x H5 hx ⟨s5, eF⟩
        obtain ⟨t, p, rfl, hp, ht⟩ := pick_at hd1 hx
        have il := (List.getElem?_eq_some_iff.mp hp).1
        rw [List.length_drop] at il
        refine ⟨t, _, rfl, SqT.of (s5 _ _ ht), rfl, _, _, rfl, _, _, rfl, rfl, rfl, ?_⟩
        refine ⟨_, rfl, _, _, rfl, rfl, _, eF, by rw [List.length_map, List.length_take]; exact small2k (by omega), same_put nF s5, ?_⟩
        rw [upd_same, take_snoc hp, List.map_append]
        rfl
      · rintro H5 ⟨s5, eF⟩
        have dl : (bs.drop 1).length = (B.drop 1).length := Paired.length hd1
        rw [List.length_map, dl, List.take_length] at eF
        refine ⟨by show 1 ≤ sizeLine; decide, fun M nM => ?_⟩
        have s6 := same_upd (o := .lst [V.non]) nM
        have eM := upd_same (H := H5) (a := M) (o := .lst [V.non])
        generalize upd H5 M (.lst [V.non]) = H6 at *
        refine ⟨F, M, _, _, rfl, rfl, s6 _ _ eF, eM, ?_, fun N nN => ?_⟩
        · rw [List.length_map, ← dl, List.length_drop]
          exact Nat.le_of_lt (small2k (by show bs.length - 1 + 1 ≤ 2000; omega))
        have s7 := same_upd (o := .lst ((B.drop 1).map (fun p => V.int (p.1 - 1)) ++ [V.non])) nN
        have eN := upd_same (H := H6) (a := N) (o := .lst ((B.drop 1).map (fun p => V.int (p.1 - 1)) ++ [V.non]))
        generalize upd H6 N (.lst ((B.drop 1).map (fun p => V.int (p.1 - 1)) ++ [V.non])) = H7 at *
        have eN : H7 N = some (.lst (lastsV B .non)) := eN
        have s37 := s4.trans (s5.trans (s6.trans s7))
        have eb7 := s37 _ _ eb
        have hb7 := hbs.mono s37
        have lB : (lastsV B V.non).length = B.length := lasts_len Bne
        refine ⟨_, rfl, _, rfl, b, N, bs.map V.ref, lastsV B .non, rfl, .inl ⟨SqL.of eb7, SqL.of eN, fun G nG => ?_⟩⟩
        refine lc_zip (K := K) (a := b) (b := N) (xs := bs.map V.ref) (ys := lastsV B .non) (by rw [List.length_map, lB]; exact blen.2) (fun i H' => Same H7 H' ∧ ∃ us : List Addr, H' G = some (.lst (us.map V.ref)) ∧ Paired (RunT D.C_Stretch H') us ((runF B).take i))
          ⟨same_upd nG, [], upd_same, .nil⟩ (fun i H' _ h => ⟨h.1.seq (SqL.of eb7), h.1.seq (SqL.of eN)⟩) ?_ ?_
        · rintro i x y H8 T hx hy ⟨s8, us, eG, hus⟩ nT
          obtain ⟨t, p, rfl, hp, ht⟩ := pick_at hb7 hx
          have il := (List.getElem?_eq_some_iff.mp hp).1
          rw [lasts_get il] at hy
          cases hy
          have sT := same_upd (o := .tup [V.ref t, knV ((B[i + 1]?).map fun q => q.1 - 1)]) nT
          have eT := upd_same (H := H8) (a := T) (o := .tup [V.ref t, knV ((B[i + 1]?).map fun q => q.1 - 1)])
          generalize upd H8 T (.tup [V.ref t, knV ((B[i + 1]?).map fun q => q.1 - 1)]) = H9 at *
          have ht9 := sT _ _ (s8 _ _ ht)
          refine ⟨T, _, rfl, SqT.of eT, rfl, _, _, rfl, ⟨t, _, rfl, SqT.of ht9, rfl, _, _, rfl, _, _, rfl, rfl, _, _, rfl, rfl, rfl, ?_⟩⟩
          have hla : ∀ e, ((B[i + 1]?).map fun q => q.1 - 1) = some e → p.1 ≤ e := fun e he => by
            cases hq : B[i + 1]? with
            | none => rw [hq] at he; cases he
            | some q =>
              rw [hq] at he
              have he : q.1 - 1 = e := Option.some.inj he
              have := List.pairwise_iff_getElem.mp Bg.up i (i + 1) il (List.getElem?_eq_some_iff.mp hq).1 (by omega)
              rw [(List.getElem?_eq_some_iff.mp hp).2, (List.getElem?_eq_some_iff.mp hq).2] at this
              omega
          refine ⟨_, rfl, _, rfl, _, rfl, fun x dx nx ndx nex => ?_⟩
          have sm := same_made (C := D.C_Stretch) (o := .ins D.C_Stretch dx []) nx ndx
          refine ⟨x, dx, p.1, _, rfl, upd_same, B0 p (List.mem_of_getElem? hp), hla, fun H10 st sb => ⟨rfl, ?_⟩⟩
          have s910 := sameB_new nx sm sb
          refine ⟨by show 2 ≤ sizeLine; decide, fun t2 n2 => ?_⟩
          have s11 := same_upd (o := .tup [p.2, V.ref x]) n2
          have et2 := upd_same (H := H10) (a := t2) (o := .tup [p.2, V.ref x])
          generalize upd H10 t2 (.tup [p.2, V.ref x]) = H11 at *
          have s811 := sT.trans (s910.trans s11)
          have eG11 := s811 _ _ eG
          have ul : us.length ≤ 1001 := by
            have h1 := Paired.length hus
            rw [List.length_take] at h1
            have h2 := (List.getElem?_eq_some_iff.mp hx).1
            rw [List.length_map] at h2
            omega
          have gr : (runF B)[i]? = some (p.2, p.1, (B[i + 1]?).map fun q => q.1 - 1) := runF_get _ _ _ hp
          refine ⟨_, eG11, by rw [List.length_map]; exact small2k (by omega), same_put nG (s8.trans s811), us ++ [t2], ?_, ?_⟩
          · rw [upd_same, List.map_append]
            rfl
          · rw [take_snoc gr]
            exact paired_snoc' (paired_imp (fun _ _ h => (h.mono s811).upd eG11) hus) (RunT.upd ⟨x, et2, st.mono s11⟩ eG11)
        · rintro H8 ⟨s8, us, eG, hus⟩
          rw [List.length_map, List.take_of_length_le (by rw [runF_len]; omega)] at hus
          exact q G H8 (by
            cases e : H G with
            | none => rfl
            | some o =>
              have := s37 _ _ (s3 _ _ e)
              rw [nG] at this
              cases this) ⟨us, eG, hus⟩ (s3.trans (s37.trans s8))
theorem sc_turns : FnScope ["book", "keeper", "known"] ["book", "keeper", "known"] (defScope s_turns) := ⟨rfl, rfl, rfl, by decide +kernel, rfl, by decide +kernel, by decide +kernel⟩
theorem ok_turns (D : All K P mg) : FnOk P w K mg base CX0 7 D.f_turns D.d_turns ["book", "keeper", "known"] (spTurns D.C_Book D.C_History D.C_Stretch) := by
  refine D.q_turns.ok sc_turns (fun vs H Q E h => ?_) (fun cdv A outer s H vs Q E hr h => ?_)
  · first | (obtain ⟨_, rfl, _⟩ := h; rfl) | (obtain ⟨_, _, rfl, _⟩ := h; rfl) | (obtain ⟨_, _, _, rfl, _⟩ := h; rfl) | (obtain ⟨_, _, _, _, rfl, _⟩ := h; rfl) | (obtain ⟨_, _, _, _, _, rfl, _⟩ := h; rfl) | (obtain ⟨_, _, _, _, _, _, rfl, _⟩ := h; rfl) | (obtain ⟨_, _, _, _, _, _, _, rfl, _⟩ := h; rfl) | (obtain ⟨_, _, _, _, _, _, _, _, rfl, _⟩ := h; rfl) | (obtain ⟨_, _, _, _, _, _, _, _, _, rfl, _⟩ := h; rfl) | (obtain ⟨_, _, _, _, _, _, _, _, _, _, rfl, _⟩ := h; rfl) | (obtain ⟨_, _, _, _, _, _, _, _, _, _, _, rfl, _⟩ := h; rfl) | (obtain ⟨_, _, _, _, _, _, _, _, _, _, _, _, rfl, _⟩ := h; rfl) | (obtain ⟨_, _, _, _, _, _, _, _, _, _, _, _, _, rfl, _⟩ := h; rfl) | (obtain ⟨_, _, _, _, _, _, _, _, _, _, _, _, _, _, rfl, _⟩ := h; rfl) | (obtain ⟨_, _, _, _, _, _, _, _, _, _, _, _, _, _, _, rfl, _⟩ := h; rfl)
  · have T := D.T
    have nd := sc_turns.nd
    have hu := hr.units
    have hu1 := hu_of hr
    have hu0 := hr.units0
    obtain ⟨b, rk, es, fp, z, kn, rfl, W, hz, hl, hk, q⟩ := h
    refine ⟨_, pss_cons (ps_expr (pe_call (ok_check_keeper D) (hr.mono (by decide)) (by rfl) D.h_check_keeper.gl D.h_check_keeper.fn.kp D.h_check_keeper.bd .nil pass0 (pa_cons (pv 0) (pa_cons (pv 1) pa_nil))))
      (pss_cons (ps_expr (pe_call (ok_check_known D) (hr.mono (by decide)) (by rfl) D.h_check_known.gl D.h_check_known.fn.kp D.h_check_known.bd .nil pass0 (pa_cons (pv 2) pa_nil)))
      (pss_one (ps_ret (pe_call (ok_runs_of D) (hr.mono (by decide)) (by rfl) D.h_runs_of.gl D.h_runs_of.fn.kp D.h_runs_of.bd .nil pass0 (pa_cons (pe_glob (v := .str (Str.ofString "")) (by rfl) D.g_ASHORE ⟨_, rfl⟩) (pa_cons (pe_meth (pv 0) D.Z_Book.cl D.h_Book_moves_known.me (ok_Book_moves_known D) (hr.mono (by decide)) D.h_Book_moves_known.bd .nil pass0 (pa_cons (pv 1) (pa_cons (pv 2) pa_nil))) pa_nil)))))), ?_⟩
    have ok := W.ev.2.2
    refine ⟨_, rfl, _, rfl, b, rk, es, fp, z, rfl, W, hz, fun H1 s1 => ?_⟩
    have W1 := W.mono s1
    obtain ⟨dx, R, M, L, v, ix⟩ := W1.ix
    refine ⟨_, rfl, kn, rfl, hk, ?_⟩
    refine ⟨_, rfl, b, dx, _, rfl, ix, rfl, _, rfl, _, rfl, b, rk, es, fp, z, kn, rfl, W1, hz, hl, fun l L H2 nl hr hh hL s2 => ?_⟩
    refine ⟨_, l, L, rfl, hr, hh.up.imp Or.inl, fun p hp => (hold_d0 ok hh p hp).1, scal_str ⟨_, rfl⟩ fun p hp => (hold_str ok hh p hp).imp fun _ h => h.1, by omega, fun l' H3 nl' ra s3 => ?_⟩
    exact q l' L H3 ((s1.trans s2).free nl') hh hL ra (s1.trans (s2.trans s3))
theorem sc_put_steps : FnScope ["steps", "stretch", "behind"] ["steps", "stretch"] (defScope s_put_steps) := ⟨rfl, rfl, rfl, by decide +kernel, rfl, by decide +kernel, by decide +kernel⟩
theorem ok_put_steps (D : All K P mg) : FnOk P w K mg base CX0 2 D.f_put_steps D.d_put_steps ["steps", "stretch"] (spPutSteps D.C_Stretch) := by
  refine D.h_put_steps.fn.ok sc_put_steps (fun vs H Q E h => ?_) (fun cdv A outer s H vs Q E hr h => ?_)
  · first | (obtain ⟨_, rfl, _⟩ := h; rfl) | (obtain ⟨_, _, rfl, _⟩ := h; rfl) | (obtain ⟨_, _, _, rfl, _⟩ := h; rfl) | (obtain ⟨_, _, _, _, rfl, _⟩ := h; rfl) | (obtain ⟨_, _, _, _, _, rfl, _⟩ := h; rfl) | (obtain ⟨_, _, _, _, _, _, rfl, _⟩ := h; rfl) | (obtain ⟨_, _, _, _, _, _, _, rfl, _⟩ := h; rfl) | (obtain ⟨_, _, _, _, _, _, _, _, rfl, _⟩ := h; rfl) | (obtain ⟨_, _, _, _, _, _, _, _, _, rfl, _⟩ := h; rfl) | (obtain ⟨_, _, _, _, _, _, _, _, _, _, rfl, _⟩ := h; rfl) | (obtain ⟨_, _, _, _, _, _, _, _, _, _, _, rfl, _⟩ := h; rfl) | (obtain ⟨_, _, _, _, _, _, _, _, _, _, _, _, rfl, _⟩ := h; rfl) | (obtain ⟨_, _, _, _, _, _, _, _, _, _, _, _, _, rfl, _⟩ := h; rfl) | (obtain ⟨_, _, _, _, _, _, _, _, _, _, _, _, _, _, rfl, _⟩ := h; rfl) | (obtain ⟨_, _, _, _, _, _, _, _, _, _, _, _, _, _, _, rfl, _⟩ := h; rfl)
  · have T := D.T
    have nd := sc_put_steps.nd
    have hu := hr.units
    have hu1 := hu_of hr
    have hu0 := hr.units0
    obtain ⟨d, x, t, f, la, rfl, hd, ⟨dx, hx⟩, tl, q⟩ := h
    refine ⟨_, pss_cons (ps_dput hu1 (pv 0) (pe_meth0 (pv 1) D.Z_Stretch.cl D.h_Stretch_first.me (ok_Stretch_first D) (hr.mono (by decide)) D.h_Stretch_first.bd .nil pass0) (pe_op op_add (pe_dget2 hu1 (pv 0) (pe_meth0 (pv 1) D.Z_Stretch.cl D.h_Stretch_first.me (ok_Stretch_first D) (hr.mono (by decide)) D.h_Stretch_first.bd .nil pass0) pe_int ⟨rfl, rfl, rfl, rfl⟩) pe_int) rfl)
      (pss_one (ps_if (pt_cmpR op_notN (pe_meth0 (pv 1) D.Z_Stretch.cl D.h_Stretch_last.me (ok_Stretch_last D) (hr.mono (by decide)) D.h_Stretch_last.bd .nil pass0) pe_non (nomark _)) (pss_cons (ps_set (i := 2) nd rfl (.inl rfl) (pe_op op_add (pe_meth0 (pv 1) D.Z_Stretch.cl D.h_Stretch_last.me (ok_Stretch_last D) (hr.mono (by decide)) D.h_Stretch_last.bd .nil pass0) pe_int))
      (pss_one (ps_dput hu1 (pv 0) (pv 2) (pe_op op_sub (pe_dget2 hu1 (pv 0) (pv 2) pe_int ⟨rfl, rfl, rfl, rfl⟩) pe_int) rfl))) pss_nil)), ?_⟩
    have hS : StrAt D.C_Stretch H x f la := ⟨dx, hx⟩
    have ndx : x ≠ d := ne_of hx hd (by intro z; cases z)
    refine ⟨_, rfl, d, rfl, .inl ⟨_, .inl hd⟩, _, rfl, x, dx, _, rfl, hx, rfl, x, f, la, rfl, hS, _, DGet.k (k := Sum.inl f) hd, getI t f, 1, step_val t f, rfl, _, rfl, _, rfl, x, dx, _, rfl, hx, rfl, x, f, la, rfl, hS, d, _, rfl, DPut.k (k := Sum.inl f) hd (by rw [step_len]; exact small2k (by omega)), ?_⟩
    rw [step_put]
    have hd1 := upd_same (H := H) (a := d) (o := .dK (stepK (putA t f (getI t f + 1))))
    have s1 : SameB d H (L2.upd H d (.dK (stepK (putA t f (getI t f + 1))))) := SameB.upd (SameB.of (Same.refl _))
    have hx1 := s1 _ _ ndx hx
    generalize L2.upd H d (.dK (stepK (putA t f (getI t f + 1)))) = H1 at *
    have hS1 : StrAt D.C_Stretch H1 x f la := ⟨dx, hx1⟩
    refine ⟨_, rfl, x, dx, _, rfl, hx1, rfl, x, f, la, rfl, hS1, rfl, _, rfl, ?_⟩
    cases la with
    | none => exact iteF (q H1 hd1 s1)
    | some e =>
      refine iteT ⟨_, rfl, x, dx, _, rfl, hx1, rfl, x, f, some e, rfl, hS1, e, 1, rfl, rfl, ?_⟩
      have l1 := putA_len (kvs := t) (k := f) (v := getI t f + 1)
      refine ⟨_, rfl, d, rfl, .inl ⟨_, .inl hd1⟩, _, rfl, _, DGet.k (k := Sum.inl (e + 1)) hd1, getI (putA t f (getI t f + 1)) (e + 1), 1, step_val _ (e + 1), rfl, _, rfl, _, rfl, d, _, rfl, DPut.k (k := Sum.inl (e + 1)) hd1 (by rw [step_len]; exact small2k (by omega)), ?_⟩
      rw [step_put]
      exact q _ upd_same (SameB.upd s1)
theorem sc_heads : FnScope ["book", "light", "known", "steps", "keeper", "place", "stretch", "many", "changes", "day"] ["book", "light", "known"] (defScope s_heads) := ⟨rfl, rfl, rfl, by decide +kernel, rfl, by decide +kernel, by decide +kernel⟩
theorem ok_heads (D : All K P mg) : FnOk P w K mg base CX0 8 D.f_heads D.d_heads ["book", "light", "known"] (spHeads D.C_Book D.C_History D.C_Stretch) := by
  refine D.q_heads.ok sc_heads (fun vs H Q E h => ?_) (fun cdv A outer s H vs Q E hr h => ?_)
  · first | (obtain ⟨_, rfl, _⟩ := h; rfl) | (obtain ⟨_, _, rfl, _⟩ := h; rfl) | (obtain ⟨_, _, _, rfl, _⟩ := h; rfl) | (obtain ⟨_, _, _, _, rfl, _⟩ := h; rfl) | (obtain ⟨_, _, _, _, _, rfl, _⟩ := h; rfl) | (obtain ⟨_, _, _, _, _, _, rfl, _⟩ := h; rfl) | (obtain ⟨_, _, _, _, _, _, _, rfl, _⟩ := h; rfl) | (obtain ⟨_, _, _, _, _, _, _, _, rfl, _⟩ := h; rfl) | (obtain ⟨_, _, _, _, _, _, _, _, _, rfl, _⟩ := h; rfl) | (obtain ⟨_, _, _, _, _, _, _, _, _, _, rfl, _⟩ := h; rfl) | (obtain ⟨_, _, _, _, _, _, _, _, _, _, _, rfl, _⟩ := h; rfl) | (obtain ⟨_, _, _, _, _, _, _, _, _, _, _, _, rfl, _⟩ := h; rfl) | (obtain ⟨_, _, _, _, _, _, _, _, _, _, _, _, _, rfl, _⟩ := h; rfl) | (obtain ⟨_, _, _, _, _, _, _, _, _, _, _, _, _, _, rfl, _⟩ := h; rfl) | (obtain ⟨_, _, _, _, _, _, _, _, _, _, _, _, _, _, _, rfl, _⟩ := h; rfl)
  · have T := D.T
    have nd := sc_heads.nd
    have hu := hr.units
    have hu1 := hu_of hr
    have hu0 := hr.units0
    obtain ⟨b, rk, es, fp, z, kn, rfl, W, hz, hl, hk, q⟩ := h
    obtain ⟨_, v3_turns, b3_turns⟩ := D.q_turns.binds1 (ps := ["book", "keeper", "known"]) 3 1 (by simp) (by rfl) (fun _ _ _ _ _ _ _ us its h1 h2 => match us, its, h1, h2 with | [_, _, _], [_], _, _ => ⟨_, rfl, rfl⟩)
    refine ⟨_, pss_cons (ps_expr (pe_call (ok_check_light D) (hr.mono (by decide)) (by rfl) D.h_check_light.gl D.h_check_light.fn.kp D.h_check_light.bd .nil pass0 (pa_cons (pv 1) pa_nil)))
      (pss_cons (ps_expr (pe_call (ok_check_known D) (hr.mono (by decide)) (by rfl) D.h_check_known.gl D.h_check_known.fn.kp D.h_check_known.bd .nil pass0 (pa_cons (pv 2) pa_nil)))
      (pss_cons (ps_set (i := 3) nd rfl (.inl rfl) pe_dnewK)
      (pss_cons (PS.nox (ps_for PassesOwn.never rfl (pi_keysL (pe_meth0 (pv 0) D.Z_Book.cl D.h_Book_ranks.me (ok_Book_ranks D) (hr.mono (by decide)) D.h_Book_ranks.bd .nil pass0)) (pg_name (i := 4) nd rfl (Or.inl rfl)) (pss_one (PS.nox (ps_for PassesOwn.never rfl (pi_list (pe_call (ok_turns D) (hr.mono (by decide)) (by rfl) D.gl_turns D.kp_turns b3_turns v3_turns pass0 (pa_cons (pv 0) (pa_cons (pv 4) (pa_cons (pv 2) pa_nil))))) (pg_tup rfl (pgs_cons (pg_name (i := 5) nd rfl (Or.inl rfl)) (pgs_cons (pg_name (i := 6) nd rfl (Or.inl rfl)) pgs_nil))) (pss_one (ps_if (pt_cmpR op_eq (pv 5) (pv 1) (nomark _)) (pss_one (ps_expr (pe_call (ok_put_steps D) (hr.mono (by decide)) (by rfl) D.h_put_steps.gl D.h_put_steps.fn.kp D.h_put_steps.bd .nil pass0 (pa_cons (pv 3) (pa_cons (pv 6) pa_nil))))) pss_nil)))))))
      (pss_cons (ps_set (i := 7) nd rfl (.inl rfl) pe_int)
      (pss_cons (ps_set (i := 8) nd rfl (.inl rfl) (pe_lst pa_nil))
      (pss_cons (PS.nox (ps_for PassesOwn.never rfl (pi_list (pe_callB (call_sortedDI rfl) (by rfl) T.sorted (by decide +kernel) (pa_cons (pv 3) pa_nil))) (pg_name (i := 9) nd rfl (Or.inl rfl)) (pss_cons (ps_aug (i := 7) nd rfl (.inl rfl) (pe_dget hu1 (pv 3) (pv 9) (fun _ _ => rfl)) ip_add)
      (pss_one (ps_expr (pe_bm PySem.F.plainAttrs_list PySem.F.slot_list_append PySem.F.type_list_append mt_append (pv 8) (pa_cons (pe_tup (pa_cons (pv 9) (pa_cons (pv 7) pa_nil))) pa_nil)))))))
      (pss_one (ps_ret (pe_call (ok_runs_of D) (hr.mono (by decide)) (by rfl) D.h_runs_of.gl D.h_runs_of.fn.kp D.h_runs_of.bd .nil pass0 (pa_cons pe_int (pa_cons (pv 8) pa_nil))))))))))), ?_⟩
    have ok := W.ev.2.2
    have hrk := W.ev.1
    have d0 : ∀ e ∈ es, 0 ≤ e.day := fun e he => (ok e he).d0
    refine ⟨_, rfl, z, rfl, hz, fun H1 s1 => ?_⟩
    refine ⟨_, rfl, kn, rfl, hk, ?_⟩
    refine fun T nT => ?_
    have nT0 : H T = none := s1.free nT
    have s2 := same_upd (o := .dK []) nT
    have eT := upd_same (H := H1) (a := T) (o := .dK [])
    generalize upd H1 T (.dK []) = H2 at *
    have W2 := W.mono (s1.trans s2)
    obtain ⟨dxb, Rb, Mb, Lb, vb, ix⟩ := W2.ix
    refine ⟨_, rfl, b, dxb, _, rfl, ix, rfl, b, rk, es, fp, rfl, W2, fun r H3 nr er s3 => ⟨r, _, rfl, er, fun od => ?_⟩⟩
    have nrT : T ≠ r := ne_of_none eT nr
    have s23 : Same H2 (upd H3 r (.frz od (.dK (sd rk)))) := fun c o e => by
      rw [upd_ne (ne_of_none e nr)]
      exact s3 _ _ e
    have eR := upd_same (H := H3) (a := r) (o := .frz od (.dK (sd rk)))
    generalize upd H3 r (.frz od (.dK (sd rk))) = H4 at *
    have eT4 := s23 _ _ eT
    have s04 : Same H H4 := s1.trans (s2.trans s23)
    refine for_it (walk_enk (gk := Sum.inr) (f := V.int) (r := rk)) (fun i σ H' => ∃ (x4 x5 x6 : Option V) (t : List (Int × Int)), σ = [some (.ref b), some (.str z), some (knV kn), some (.ref T), x4, x5, x6, none, none, none] ∧ Same H H' ∧ H' r = some (.frz od (.dK (sd rk))) ∧ H' T = some (.dK (stepK t)) ∧ Steps (fun d => ∃ k, EvD es true k d) t (manyN es ((rk.take i).map (·.1)) z kn))
      ⟨none, none, none, [], rfl, s04, eR, eT4, (Steps.nil _).congr fun d => (manyN_nil es z kn d).symm⟩ (fun i σ H' _ ⟨_, _, _, _, _, _, e, _⟩ => e) ?_ ?_
    · rintro i x σ H5 H6 hi ⟨x4, x5, x6, t, rfl, s5, eR5, eT5, hst⟩ ⟨rfl, p, hp, rfl⟩
      have hpk : p.1 ∈ rk.map (·.1) := List.mem_map.mpr ⟨p, List.mem_of_getElem? hp, rfl⟩
      have W5 := W.mono s5
      refine ⟨_, rfl, _, rfl, _, rfl, b, rk, es, fp, p.1, kn, rfl, W5, hpk, hl, hk, fun l L H7 nl hh hL ⟨ts, el, hts⟩ s7 => ?_⟩
      have R7 := turns_ok hh d0
      have rl := turns_len (L := L) (s := .str (Str.ofString ""))
      have rvals := turns_vals (L := L) (s := .str (Str.ofString ""))
      have hstr := hold_str ok hh
      generalize runF (begF (.str (Str.ofString "")) L) = rs at *
      have tl : ts.length = rs.length := Paired.length hts
      refine ⟨l, rfl, ⟨_, SqL.of el⟩, for_list (xs := ts.map V.ref) (fun j σ H' => ∃ (x5 x6 : Option V) (t' : List (Int × Int)), σ = [some (.ref b), some (.str z), some (knV kn), some (.ref T), some (.str p.1), x5, x6, none, none, none] ∧ SameB T H7 H' ∧ H' T = some (.dK (stepK t')) ∧ Steps (fun d => ∃ k, EvD es true k d) t' (fun d => manyN es ((rk.take i).map (·.1)) z kn d + hasRuns z (rs.take j) d))
        ⟨x5, x6, t, rfl, SameB.of (Same.refl _), s7 _ _ eT5, hst.congr fun d => (Int.add_zero _).symm⟩ (fun j σ H' _ ⟨_, _, _, _, s, _⟩ => SqL.of (s _ _ (ne_of el (s7 _ _ eT5) (by intro z; cases z)) el)) ?_ ?_⟩
      · rintro j y σ H8 hy ⟨x5, x6, t', rfl, s8, eT8, hst8⟩
        obtain ⟨tt, q0, rfl, hq, ⟨sx, ht, hsx⟩⟩ := pick_at hts hy
        have eT7 := s7 _ _ eT5
        have ht8 := s8 _ _ (ne_of ht eT7 (by intro z; cases z)) ht
        have hsx8 := hsx.monoB eT7 s8
        refine ⟨tt, _, rfl, SqT.of ht8, rfl, _, _, rfl, _, _, rfl, rfl, ?_⟩
        have hv : ∃ y : Str, q0.1 = .str y := by
          rcases rvals q0 (List.mem_of_getElem? hq) with h | ⟨x, hx, h⟩
          · exact ⟨_, h⟩
          · obtain ⟨y, e, _⟩ := hstr x hx
            exact ⟨y, h.symm.trans e⟩
        obtain ⟨yq, eyq⟩ := hv
        have hrun := R7.days q0 (List.mem_of_getElem? hq)
        have hlow := R7.cov.le q0 (List.mem_of_getElem? hq)
        refine ⟨_, rfl, _, rfl, by rw [eyq]; rfl, _, rfl, ite2 (fun h => ?_) (fun h => ?_)⟩
        · have hz : q0.1 = V.str z := of_decide_eq_true h
          have tl8 := hst8.len
          refine ⟨_, rfl, _, rfl, T, sx, t', q0.2.1, q0.2.2, rfl, eT8, hsx8, by omega, fun H9 eT9 s9 => ?_⟩
          refine ⟨some q0.1, some (.ref sx), _, rfl, s8.trans s9, eT9, (hst8.put (f := q0.2.1) (x := q0.2.2) (hrun.1.imp id fun h => ⟨_, h⟩) fun e he => ⟨hlow.2 e he, _, hrun.2 e he⟩).congr fun d => ?_⟩
          rw [take_snoc hq, hasRuns_snoc, if_pos hz, ← Int.add_assoc]
          rfl
        · have hz : ¬ q0.1 = V.str z := fun e => h (decide_eq_true e)
          refine ⟨some q0.1, some (.ref sx), _, rfl, s8, eT8, hst8.congr fun d => ?_⟩
          rw [take_snoc hq, hasRuns_snoc, if_neg hz, Int.add_zero]
      · rintro σ H8 ⟨x5, x6, t', rfl, s8, eT8, hst8⟩
        rw [List.length_map, tl, List.take_length] at hst8
        have eR7 := s7 _ _ eR5
        refine ⟨_, x5, x6, t', rfl, ?_, s8 _ _ nrT.symm eR7, eT8, hst8.congr fun d => ?_⟩
        · exact fun c o e => s8 _ _ (fun h => by rw [h, nT0] at e; cases e) (s7 _ _ (s5 _ _ e))
        · rw [hasRuns_is R7, take_snoc hp, List.map_append]
          exact (manyN_snoc es _ p.1 z kn d).symm
    · rintro σ H5 ⟨x4, x5, x6, t, rfl, s5, eR5, eT5, hst⟩
      rw [List.take_length] at hst
      have tl := hst.len
      refine ⟨by show 0 ≤ sizeLine; decide, fun C nC => ?_⟩
      have nC0 : H C = none := s5.free nC
      have s6 := same_upd (o := .lst []) nC
      have eC := upd_same (H := H5) (a := C) (o := .lst [])
      generalize upd H5 C (.lst []) = H6 at *
      have eT6 := s6 _ _ eT5
      refine ⟨_, rfl, T, stepK t, t.map (·.1), rfl, .inl eT6, step_keys t, by rw [List.length_map]; omega, fun ys Y perm up nY => ?_⟩
      have s7 := same_upd (o := .lst (ys.map V.int)) nY
      have eY := upd_same (H := H6) (a := Y) (o := .lst (ys.map V.int))
      generalize upd H6 Y (.lst (ys.map V.int)) = H7 at *
      have ups := strict_up up (perm.nodup_iff.mpr hst.nd)
      have yl : ys.length ≤ 61 := by rw [perm.length_eq, List.length_map]; omega
      have eC7 := s7 _ _ eC
      have eT7 := s7 _ _ eT6
      have nTC : T ≠ C := ne_of eT7 eC7 (by intro z; cases z)
      have nYC : Y ≠ C := (ne_of_none eC nY).symm
      refine ⟨Y, rfl, ⟨_, SqL.of eY⟩, for_list (xs := ys.map V.int) (fun j σ H' => ∃ (x9 : Option V) (us : List Addr) (rs : List (Int × V)), σ = [some (.ref b), some (.str z), some (knV kn), some (.ref T), x4, x5, x6, some (.int (sumV t (ys.take j))), some (.ref C), x9] ∧ SameB C H7 H' ∧ H' C = some (.lst (us.map V.ref)) ∧ RowsP H' us rs ∧ Acc t (ys.take j) rs)
        ⟨none, [], [], rfl, SameB.of (Same.refl _), eC7, .nil, Acc.nil t⟩ (fun j σ H' _ ⟨_, _, _, _, s, _⟩ => SqL.of (s _ _ nYC eY)) ?_ ?_⟩
      · rintro j y σ H8 hy ⟨x9, us, rs, rfl, s8, eC8, hus, hacc⟩
        rw [List.getElem?_map, Option.map_eq_some_iff] at hy
        obtain ⟨k, hk', rfl⟩ := hy
        have il := (List.getElem?_eq_some_iff.mp hk').1
        have eT8 := s8 _ _ nTC eT7
        have dg : DGet H8 T (.int k) (some (.int (getI t k))) := by
          have h1 := DGet.k (k := Sum.inl k) eT8
          have hm : k ∈ t.map (·.1) := perm.mem_iff.mp (List.mem_of_getElem? hk')
          have h2 : valV (stepK t) (Sum.inl k) = some (.int (getI t k)) := by
            have h3 := val_en (f := V.int) inl_inj k t
            rw [show valV (stepK t) (Sum.inl k) = (getA t k).map V.int from h3]
            unfold getI
            cases e : getA t k with
            | none => exact absurd hm (getA_none_iff.mp e)
            | some v => rfl
          rw [h2] at h1
          exact h1
        refine ⟨_, rfl, _, rfl, _, rfl, T, _, rfl, dg, _, _, rfl, rfl, ?_⟩
        have ul : us.length = j := by
          have h1 := Paired.length hus
          have h2 := congrArg List.length hacc.ek
          rw [List.length_map, List.length_take] at h2
          omega
        refine ⟨_, rfl, .inl ⟨rfl, _, SqL.of eC8⟩, _, rfl, _, rfl, by show 2 ≤ sizeLine; decide, fun n1 nn1 => ?_⟩
        have em : sumV t (ys.take (j + 1)) = sumV t (ys.take j) + getI t k := by rw [take_snoc hk', sumV_snoc]
        have s9 := same_upd (o := .tup [V.int k, .int (sumV t (ys.take j) + getI t k)]) nn1
        have en1 := upd_same (H := H8) (a := n1) (o := .tup [V.int k, .int (sumV t (ys.take j) + getI t k)])
        have eC9 := s9 _ _ eC8
        refine ⟨C, _, _, rfl, rfl, eC9, by rw [List.length_map]; exact small2k (by omega), ?_⟩
        refine ⟨_, us ++ [n1], rs ++ [(k, .int (sumV t (ys.take j) + getI t k))], by rw [em]; rfl, (s8.trans (SameB.of s9)).trans (SameB.upd (SameB.of (Same.refl _))), ?_, ((hus.mono s9).snoc en1).upd eC9, ?_⟩
        · rw [upd_same, List.map_append]
          rfl
        · have := hacc.snoc (k := k) (by rw [← take_snoc hk']; exact ups.sublist (List.take_sublist _ _))
          rw [← take_snoc hk', em] at this
          exact this
      · rintro σ H8 ⟨x9, us, rs, rfl, s8, eC8, hus, hacc⟩
        rw [List.length_map, List.take_length] at hacc
        have s68 : Same H H8 := fun c o e => s8 _ _ (fun h => by rw [h, nC0] at e; cases e) (s7 _ _ (s6 _ _ (s5 _ _ e)))
        have hrl : rs.length ≤ 61 := by
          have h2 := congrArg List.length hacc.ek
          rw [List.length_map] at h2
          omega
        have rup : rs.Pairwise fun a b => a.1 < b.1 := by
          have : (rs.map (·.1)).Pairwise (· < ·) := by rw [hacc.ek]; exact ups
          rwa [List.pairwise_map] at this
        have r0 : ∀ x ∈ rs, 0 ≤ x.1 := fun x hx => by
          have hm : x.1 ∈ ys := by rw [← hacc.ek]; exact List.mem_map.mpr ⟨x, hx, rfl⟩
          rcases hst.ks _ (perm.mem_iff.mp hm) with h | ⟨k, e, he, _, _, ed⟩
          · omega
          · have := d0 e he
            omega
        refine ⟨_, rfl, _, C, rs, rfl, ⟨us, eC8, hus⟩, rup.imp Or.inl, r0, scal_int ⟨_, rfl⟩ hacc.vs, by omega, fun l' H9 nl' ra s9 => ?_⟩
        refine q l' _ H9 (s68.free nl') ra (heads_ok hst hacc perm ups d0) ?_ (fun r hr => ?_) (s68.trans s9)
        · have := turns_len (L := rs) (s := .int 0)
          omega
        · rcases turns_vals r hr with h | ⟨x, hx, h⟩
          · exact ⟨_, h⟩
          · obtain ⟨m, e⟩ := hacc.vs x hx
            exact ⟨m, h.symm.trans e⟩
theorem sc_left_on : FnScope ["supply", "day", "stretch", "stock", "eaten"] ["supply", "day"] (defScope s_left_on) := ⟨rfl, rfl, rfl, by decide +kernel, rfl, by decide +kernel, by decide +kernel⟩
theorem ok_left_on (D : All K P mg) : FnOk P w K mg base CX0 2 D.f_left_on D.d_left_on ["supply", "day"] (spLeftOn D.C_Stretch) := by
  refine D.h_left_on.fn.ok sc_left_on (fun vs H Q E h => ?_) (fun cdv A outer s H vs Q E hr h => ?_)
  · first | (obtain ⟨_, rfl, _⟩ := h; rfl) | (obtain ⟨_, _, rfl, _⟩ := h; rfl) | (obtain ⟨_, _, _, rfl, _⟩ := h; rfl) | (obtain ⟨_, _, _, _, rfl, _⟩ := h; rfl) | (obtain ⟨_, _, _, _, _, rfl, _⟩ := h; rfl) | (obtain ⟨_, _, _, _, _, _, rfl, _⟩ := h; rfl) | (obtain ⟨_, _, _, _, _, _, _, rfl, _⟩ := h; rfl) | (obtain ⟨_, _, _, _, _, _, _, _, rfl, _⟩ := h; rfl) | (obtain ⟨_, _, _, _, _, _, _, _, _, rfl, _⟩ := h; rfl) | (obtain ⟨_, _, _, _, _, _, _, _, _, _, rfl, _⟩ := h; rfl) | (obtain ⟨_, _, _, _, _, _, _, _, _, _, _, rfl, _⟩ := h; rfl) | (obtain ⟨_, _, _, _, _, _, _, _, _, _, _, _, rfl, _⟩ := h; rfl) | (obtain ⟨_, _, _, _, _, _, _, _, _, _, _, _, _, rfl, _⟩ := h; rfl) | (obtain ⟨_, _, _, _, _, _, _, _, _, _, _, _, _, _, rfl, _⟩ := h; rfl) | (obtain ⟨_, _, _, _, _, _, _, _, _, _, _, _, _, _, _, rfl, _⟩ := h; rfl)
  · have T := D.T
    have nd := sc_left_on.nd
    have hu := hr.units
    have hu1 := hu_of hr
    have hu0 := hr.units0
    obtain ⟨t, b, d, rfl, ⟨x, ht, ⟨dx, hx⟩⟩, e0, f0, d0, q⟩ := h
    refine ⟨_, pss_cons (ps_asg (pv 0) (pg_tup rfl (pgs_cons (pg_name (i := 2) nd rfl (Or.inl rfl)) (pgs_cons (pg_name (i := 3) nd rfl (Or.inl rfl)) (pgs_cons (pg_name (i := 4) nd rfl (Or.inl rfl)) pgs_nil)))))
      (pss_one (ps_ret (pe_op op_sub (pv 3) (pe_op op_mulW (pv 4) (pe_op op_add (pe_op op_sub (pv 1) (pe_meth0 (pv 2) D.Z_Stretch.cl D.h_Stretch_first.me (ok_Stretch_first D) (hr.mono (by decide)) D.h_Stretch_first.bd .nil pass0)) pe_int))))), ?_⟩
    have hS : StrAt D.C_Stretch H x b.fi b.la := ⟨dx, hx⟩
    refine ⟨_, rfl, t, _, rfl, SqT.of ht, rfl, _, _, rfl, _, _, rfl, _, _, rfl, rfl, ?_⟩
    refine ⟨_, rfl, _, rfl, _, rfl, _, rfl, x, dx, _, rfl, hx, rfl, x, b.fi, b.la, rfl, hS, d, b.fi, rfl, rfl, _, 1, rfl, rfl, _, _, rfl, rfl, wide_mul ⟨by omega, by omega⟩ ⟨by omega, by omega⟩, _, _, rfl, rfl, q⟩
theorem sc_cut_at : FnScope ["stretch", "days", "firsts", "lasts", "day", "first", "last"] ["stretch", "days"] (defScope s_cut_at) := ⟨rfl, rfl, rfl, by decide +kernel, rfl, by decide +kernel, by decide +kernel⟩
theorem ok_cut_at (D : All K P mg) : FnOk P w K mg base CX0 6 D.f_cut_at D.d_cut_at ["stretch", "days"] (spCutAt D.C_Stretch) := by
  refine D.h_cut_at.fn.ok sc_cut_at (fun vs H Q E h => ?_) (fun cdv A outer s H vs Q E hr h => ?_)
  · first | (obtain ⟨_, rfl, _⟩ := h; rfl) | (obtain ⟨_, _, rfl, _⟩ := h; rfl) | (obtain ⟨_, _, _, rfl, _⟩ := h; rfl) | (obtain ⟨_, _, _, _, rfl, _⟩ := h; rfl) | (obtain ⟨_, _, _, _, _, rfl, _⟩ := h; rfl) | (obtain ⟨_, _, _, _, _, _, rfl, _⟩ := h; rfl) | (obtain ⟨_, _, _, _, _, _, _, rfl, _⟩ := h; rfl) | (obtain ⟨_, _, _, _, _, _, _, _, rfl, _⟩ := h; rfl) | (obtain ⟨_, _, _, _, _, _, _, _, _, rfl, _⟩ := h; rfl) | (obtain ⟨_, _, _, _, _, _, _, _, _, _, rfl, _⟩ := h; rfl) | (obtain ⟨_, _, _, _, _, _, _, _, _, _, _, rfl, _⟩ := h; rfl) | (obtain ⟨_, _, _, _, _, _, _, _, _, _, _, _, rfl, _⟩ := h; rfl) | (obtain ⟨_, _, _, _, _, _, _, _, _, _, _, _, _, rfl, _⟩ := h; rfl) | (obtain ⟨_, _, _, _, _, _, _, _, _, _, _, _, _, _, rfl, _⟩ := h; rfl) | (obtain ⟨_, _, _, _, _, _, _, _, _, _, _, _, _, _, _, rfl, _⟩ := h; rfl)
  · have T := D.T
    have nd := sc_cut_at.nd
    have hu := hr.units
    have hu1 := hu_of hr
    have hu0 := hr.units0
    obtain ⟨x, l, f, la, ds, rfl, ⟨dx, hx⟩, el, f0, hla, up, d0, hdl, q⟩ := h
    obtain ⟨_, v3_Stretch___init__, b3_Stretch___init__⟩ := D.q_Stretch___init__.binds1 (ps := ["self", "first", "last"]) 3 1 (by simp) (by rfl) (fun _ _ _ _ _ _ _ us its h1 h2 => match us, its, h1, h2 with | [_, _, _], [_], _, _ => ⟨_, rfl, rfl⟩)
    refine ⟨_, pss_cons (ps_set (i := 2) nd rfl (.inl rfl) (pe_op op_cat (pe_lst (pa_cons (pe_meth0 (pv 0) D.Z_Stretch.cl D.h_Stretch_first.me (ok_Stretch_first D) (hr.mono (by decide)) D.h_Stretch_first.bd .nil pass0) pa_nil)) (pe_lc (own := [("day", 4)]) (g := gName 4) rfl nd (pi_list (pv 1)) (blkOk_by (N := ["stretch", "days", "firsts", "lasts", "day", "first", "last"]) (sc := defScope s_cut_at) (by decide +kernel)) (fun _ _ _ _ _ => (pg_name (i := 4) nd rfl (Or.inl rfl))) (fun _ _ _ _ _ => pts_one (PW.pt (pw_and (pt_val (pe_meth (pv 0) D.Z_Stretch.cl D.h_Stretch_has.me (ok_Stretch_has D) (hr.mono (by decide)) D.h_Stretch_has.bd .nil pass0 (pa_cons (pv 4) pa_nil))) (pw_and1 (pt_cmpR op_gt (pv 4) (pe_meth0 (pv 0) D.Z_Stretch.cl D.h_Stretch_first.me (ok_Stretch_first D) (hr.mono (by decide)) D.h_Stretch_first.bd .nil pass0) (nomark _)))))) (fun _ _ _ _ _ => (pv 4)))))
      (pss_cons (ps_set (i := 3) nd rfl (.inl rfl) (pe_op op_cat (pe_lc (own := [("day", 4)]) (g := gName 4) (tt := tYes) rfl nd (pi_list (pe_slice sl_list (pv 2) (po_some pe_int) po_none)) (blkOk_by (N := ["stretch", "days", "firsts", "lasts", "day", "first", "last"]) (sc := defScope s_cut_at) (by decide +kernel)) (fun _ _ _ _ _ => (pg_name (i := 4) nd rfl (Or.inl rfl))) (fun _ _ _ _ _ => pts_nil) (fun _ _ _ _ _ => (pe_op op_sub (pv 4) pe_int))) (pe_lst (pa_cons (pe_meth0 (pv 0) D.Z_Stretch.cl D.h_Stretch_last.me (ok_Stretch_last D) (hr.mono (by decide)) D.h_Stretch_last.bd .nil pass0) pa_nil))))
      (pss_one (ps_ret (pe_lc (own := [("first", 5), ("last", 6)]) (g := gTup K 2 (gCons (gName 5) (gCons (gName 6) gNil))) (tt := tYes) rfl nd (RZ.pi_zipA (by rfl) T.zip (pa_cons (pv 2) (pa_cons (pv 3) pa_nil))) (blkOk_by (N := ["stretch", "days", "firsts", "lasts", "day", "first", "last"]) (sc := defScope s_cut_at) (by decide +kernel)) (fun _ _ _ _ _ => (pg_tup rfl (pgs_cons (pg_name (i := 5) nd rfl (Or.inl rfl)) (pgs_cons (pg_name (i := 6) nd rfl (Or.inl rfl)) pgs_nil)))) (fun _ _ _ _ _ => pts_nil) (fun _ _ _ _ _ => (pe_make D.M_Stretch (ok_Stretch___init__ D) (hr.mono (by decide)) (by rfl) D.Z_Stretch.gl b3_Stretch___init__ v3_Stretch___init__ pass0 (pa_cons (pv 5) (pa_cons (pv 6) pa_nil)))))))), ?_⟩
    have hS : StrAt D.C_Stretch H x f la := ⟨dx, hx⟩
    refine ⟨_, rfl, x, dx, _, rfl, hx, rfl, x, f, la, rfl, hS, by show 1 ≤ sizeLine; decide, fun A nA => ?_⟩
    have s1 := same_upd (o := .lst [V.int f]) nA
    have eA := upd_same (H := H) (a := A) (o := .lst [V.int f])
    generalize upd H A (.lst [V.int f]) = H1 at *
    refine ⟨_, rfl, l, rfl, ⟨_, SqL.of (s1 _ _ el)⟩, fun F nF => ?_⟩
    refine lc_list (K := K) (a := l) (xs := ds.map V.int) (fun i H' => Same H1 H' ∧ H' F = some (.lst (((ds.take i).filter fun d => hasB f la d && decide (f < d)).map V.int))) ⟨same_upd nF, upd_same⟩ (fun i H' _ ⟨s, _⟩ => SqL.of (s _ _ (s1 _ _ el))) ?_ ?_
    · rintro i y H2 hy ⟨s2, eF⟩
      rw [List.getElem?_map, Option.map_eq_some_iff] at hy
      obtain ⟨d, hd, rfl⟩ := hy
      have il := (List.getElem?_eq_some_iff.mp hd).1
      have s12 := s1.trans s2
      have hS2 := hS.mono s12
      have hx2 := s12 _ _ hx
      have ll : (((ds.take i).filter fun d => hasB f la d && decide (f < d)).map V.int).length < sizeLine := by
        rw [List.length_map]
        refine small2k (Nat.le_trans (List.length_filter_le _ _) ?_)
        rw [List.length_take]
        omega
      have grow : ((ds.take (i + 1)).filter fun d => hasB f la d && decide (f < d)) = ((ds.take i).filter fun d => hasB f la d && decide (f < d)) ++ if (hasB f la d && decide (f < d)) = true then [d] else [] := by
        rw [take_snoc hd, List.filter_append, List.filter_cons, List.filter_nil]
      refine ⟨rfl, _, rfl, x, dx, _, rfl, hx2, rfl, _, rfl, x, f, la, d, rfl, hS2, d0 d (List.mem_of_getElem? hd), _, rfl, ?_⟩
      cases hb : hasB f la d with
      | false =>
        refine iteF (iteF ⟨s2, ?_⟩)
        rw [eF, grow, hb, Bool.false_and, if_neg (by nofun), List.append_nil]
      | true =>
        refine iteT ⟨_, rfl, _, rfl, x, dx, _, rfl, hx2, rfl, x, f, la, rfl, hS2, _, _, rfl, rfl, _, rfl, ?_⟩
        by_cases hf : f < d
        · rw [decide_eq_true hf]
          refine iteT ⟨_, rfl, _, eF, ll, same_put nF s2, ?_⟩
          rw [upd_same, grow, hb, decide_eq_true hf, if_pos (show (true && true) = true from rfl), List.map_append]
          rfl
        · rw [decide_eq_false hf]
          refine iteF ⟨s2, ?_⟩
          rw [eF, grow, hb, decide_eq_false hf, Bool.and_false, if_neg (by nofun), List.append_nil]
    · rintro H2 ⟨s2, eF⟩
      rw [List.length_map, List.take_length] at eF
      have s12 := s1.trans s2
      have fl : (ds.filter fun d => hasB f la d && decide (f < d)).length ≤ 60 := Nat.le_trans (List.length_filter_le _ _) hdl
      refine ⟨A, F, _, _, rfl, rfl, s2 _ _ eA, eF, ?_, fun G nG => ?_⟩
      · rw [List.length_map]
        exact Nat.le_of_lt (small2k (by show 1 + _ ≤ 2000; omega))
      have ecut : [V.int f] ++ (ds.filter fun d => hasB f la d && decide (f < d)).map V.int = (cutF f la ds).map V.int := rfl
      rw [ecut]
      have cl : (cutF f la ds).length ≤ 61 ∧ 1 ≤ (cutF f la ds).length := by
        rw [cutF_eq, List.length_cons]
        omega
      have cv := cut_cov up hla
      have c0 : ∀ d ∈ cutF f la ds, 0 ≤ d := fun d hd => by
        rw [cutF_eq] at hd
        rcases List.mem_cons.mp hd with rfl | hd
        · exact f0
        · exact d0 d (List.mem_filter.mp hd).1
      generalize cutF f la ds = C at *
      have s3 := same_upd (o := .lst (C.map V.int)) nG
      have eG := upd_same (H := H2) (a := G) (o := .lst (C.map V.int))
      generalize upd H2 G (.lst (C.map V.int)) = H3 at *
      refine ⟨_, rfl, 1, rfl, G, _, rfl, SqL.of eG, fun c nc => ?_⟩
      have ec0 : cutV (C.map V.int) (some 1) none = (C.drop 1).map V.int := cut_drop _ _ (by decide)
      rw [ec0]
      have s4 := same_upd (o := .lst ((C.drop 1).map V.int)) nc
      have ec := upd_same (H := H3) (a := c) (o := .lst ((C.drop 1).map V.int))
      generalize upd H3 c (.lst ((C.drop 1).map V.int)) = H4 at *
      refine ⟨c, rfl, ⟨_, SqL.of ec⟩, fun E1 nE1 => ?_⟩
      refine lc_list (K := K) (a := c) (xs := (C.drop 1).map V.int) (fun i H' => Same H4 H' ∧ H' E1 = some (.lst (((C.drop 1).take i).map fun d => V.int (d - 1)))) ⟨same_upd nE1, upd_same⟩ (fun i H' _ ⟨s, _⟩ => SqL.of (s _ _ ec)) ?_ ?_
      · rintro i y H5 hy ⟨s5, eE⟩
        rw [List.getElem?_map, Option.map_eq_some_iff] at hy
        obtain ⟨d, hd, rfl⟩ := hy
        have il := (List.getElem?_eq_some_iff.mp hd).1
        rw [List.length_drop] at il
        refine ⟨rfl, _, rfl, _, _, rfl, rfl, _, eE, by rw [List.length_map, List.length_take]; exact small2k (by omega), same_put nE1 s5, ?_⟩
        rw [upd_same, take_snoc hd, List.map_append]
        rfl
      · rintro H5 ⟨s5, eE⟩
        rw [List.length_map, List.take_length] at eE
        have s05 : Same H H5 := s12.trans (s3.trans (s4.trans s5))
        have hS5 := hS.mono s05
        refine ⟨_, rfl, x, dx, _, rfl, s05 _ _ hx, rfl, x, f, la, rfl, hS5, by show 1 ≤ sizeLine; decide, fun M nM => ?_⟩
        have s6 := same_upd (o := .lst [knV la]) nM
        have eM := upd_same (H := H5) (a := M) (o := .lst [knV la])
        generalize upd H5 M (.lst [knV la]) = H6 at *
        refine ⟨E1, M, _, _, rfl, rfl, s6 _ _ eE, eM, ?_, fun N nN => ?_⟩
        · rw [List.length_map, List.length_drop]
          exact Nat.le_of_lt (small2k (by show C.length - 1 + 1 ≤ 2000; omega))
        have s7 := same_upd (o := .lst ((C.drop 1).map (fun d => V.int (d - 1)) ++ [knV la])) nN
        have eN := upd_same (H := H6) (a := N) (o := .lst ((C.drop 1).map (fun d => V.int (d - 1)) ++ [knV la]))
        generalize upd H6 N (.lst ((C.drop 1).map (fun d => V.int (d - 1)) ++ [knV la])) = H7 at *
        have eN : H7 N = some (.lst (lastsP C (knV la))) := eN
        have s37 := s4.trans (s5.trans (s6.trans s7))
        have eG7 := s37 _ _ eG
        have lC : (lastsP C (knV la)).length = C.length := lastsP_len (List.length_pos_iff.mp cl.2)
        have s07 : Same H H7 := s05.trans (s6.trans s7)
        refine ⟨_, rfl, _, rfl, G, N, C.map V.int, lastsP C (knV la), rfl, .inl ⟨SqL.of eG7, SqL.of eN, fun U nU => ?_⟩⟩
        refine lc_zip (K := K) (a := G) (b := N) (xs := C.map V.int) (ys := lastsP C (knV la)) (by rw [List.length_map, lC]) (fun i H' => Same H7 H' ∧ ∃ us : List Addr, H' U = some (.lst (us.map V.ref)) ∧ Paired (fun x (p : Part) => StrAt D.C_Stretch H' x p.1 p.2) us ((partF la C).take i))
          ⟨same_upd nU, [], upd_same, .nil⟩ (fun i H' _ h => ⟨h.1.seq (SqL.of eG7), h.1.seq (SqL.of eN)⟩) ?_ ?_
        · rintro i y z H8 T hy hz ⟨s8, us, eU, hus⟩ nT
          rw [List.getElem?_map, Option.map_eq_some_iff] at hy
          obtain ⟨d, hd, rfl⟩ := hy
          have il := (List.getElem?_eq_some_iff.mp hd).1
          rw [lastsP_get il] at hz
          cases hz
          have gp := partF_get la C i d hd
          generalize (if i + 1 = C.length then la else (C[i + 1]?).map fun q => q - 1) = lx at *
          have sT := same_upd (o := .tup [V.int d, knV lx]) nT
          have eT := upd_same (H := H8) (a := T) (o := .tup [V.int d, knV lx])
          generalize upd H8 T (.tup [V.int d, knV lx]) = H9 at *
          have hlx : ∀ e, lx = some e → d ≤ e := fun e he => by
            obtain ⟨_, _, _, nx⟩ := cv.get i _ gp
            rcases nx with ⟨_, n2, n3⟩ | ⟨e', _, n2, n3, _⟩
            · exact n3 e ((show lx = la from n2).symm.trans he)
            · have n2 : lx = some e' := n2
              rw [n2] at he
              cases he
              exact n3
          refine ⟨T, _, rfl, SqT.of eT, rfl, _, _, rfl, _, _, rfl, rfl, rfl, ?_⟩
          refine ⟨_, rfl, _, rfl, fun x dx nx ndx nex => ?_⟩
          have sm := same_made (C := D.C_Stretch) (o := .ins D.C_Stretch dx []) nx ndx
          refine ⟨x, dx, d, lx, rfl, upd_same, c0 d (List.mem_of_getElem? hd), hlx, fun H10 st sb => ⟨rfl, ?_⟩⟩
          have s910 := sameB_new nx sm sb
          have s810 := sT.trans s910
          have eU10 := s810 _ _ eU
          have ul : us.length ≤ 61 := by
            have h1 := Paired.length hus
            rw [List.length_take] at h1
            omega
          refine ⟨_, eU10, by rw [List.length_map]; exact small2k (by omega), same_put nU (s8.trans s810), us ++ [x], ?_, ?_⟩
          · rw [upd_same, List.map_append]
            rfl
          · rw [take_snoc gp]
            exact paired_snoc' (paired_imp (fun _ _ h => (h.mono s810).upd eU10) hus) (st.upd eU10)
        · rintro H8 ⟨s8, us, eU, hus⟩
          rw [List.length_map, List.take_of_length_le (by rw [partF_len]; exact Nat.le_refl _)] at hus
          exact q U H8 (s07.free nU) ⟨us, eU, hus⟩ (s07.trans s8)
theorem sc_supplies : FnScope ["book", "light", "ration", "known", "landed", "told", "left", "many", "stretch", "part", "supply"] ["book", "light", "ration", "known"] (defScope s_supplies) := ⟨rfl, rfl, rfl, by decide +kernel, rfl, by decide +kernel, by decide +kernel⟩
theorem ok_supplies (D : All K P mg) : FnOk P w K mg base CX0 9 D.f_supplies D.d_supplies ["book", "light", "ration", "known"] (spSups D.C_Book D.C_History D.C_Stretch) := by
  refine D.h_supplies.fn.ok sc_supplies (fun vs H Q E h => ?_) (fun cdv A outer s H vs Q E hr h => ?_)
  · first | (obtain ⟨_, rfl, _⟩ := h; rfl) | (obtain ⟨_, _, rfl, _⟩ := h; rfl) | (obtain ⟨_, _, _, rfl, _⟩ := h; rfl) | (obtain ⟨_, _, _, _, rfl, _⟩ := h; rfl) | (obtain ⟨_, _, _, _, _, rfl, _⟩ := h; rfl) | (obtain ⟨_, _, _, _, _, _, rfl, _⟩ := h; rfl) | (obtain ⟨_, _, _, _, _, _, _, rfl, _⟩ := h; rfl) | (obtain ⟨_, _, _, _, _, _, _, _, rfl, _⟩ := h; rfl) | (obtain ⟨_, _, _, _, _, _, _, _, _, rfl, _⟩ := h; rfl) | (obtain ⟨_, _, _, _, _, _, _, _, _, _, rfl, _⟩ := h; rfl) | (obtain ⟨_, _, _, _, _, _, _, _, _, _, _, rfl, _⟩ := h; rfl) | (obtain ⟨_, _, _, _, _, _, _, _, _, _, _, _, rfl, _⟩ := h; rfl) | (obtain ⟨_, _, _, _, _, _, _, _, _, _, _, _, _, rfl, _⟩ := h; rfl) | (obtain ⟨_, _, _, _, _, _, _, _, _, _, _, _, _, _, rfl, _⟩ := h; rfl) | (obtain ⟨_, _, _, _, _, _, _, _, _, _, _, _, _, _, _, rfl, _⟩ := h; rfl)
  · have T := D.T
    have nd := sc_supplies.nd
    have hu := hr.units
    have hu1 := hu_of hr
    have hu0 := hr.units0
    obtain ⟨b, rk, es, fp, z, R, kn, rfl, W, hz, hl, hk, r0, r1, q⟩ := h
    obtain ⟨_, v3_heads, b3_heads⟩ := D.q_heads.binds1 (ps := ["book", "light", "known"]) 3 1 (by simp) (by rfl) (fun _ _ _ _ _ _ _ us its h1 h2 => match us, its, h1, h2 with | [_, _, _], [_], _, _ => ⟨_, rfl, rfl⟩)
    refine ⟨_, pss_cons (ps_set (i := 4) nd rfl (.inl rfl) (pe_callTy (call_dictP rfl) (by rfl) T.dict (by decide +kernel) (pa_cons (pe_meth (pv 0) D.Z_Book.cl D.h_Book_landings_known.me (ok_Book_landings_known D) (hr.mono (by decide)) D.h_Book_landings_known.bd .nil pass0 (pa_cons (pv 1) (pa_cons (pv 3) pa_nil))) pa_nil)))
      (pss_cons (ps_set (i := 5) nd rfl (.inl rfl) (pe_lst pa_nil))
      (pss_cons (ps_set (i := 6) nd rfl (.inl rfl) pe_int)
      (pss_cons (ps_for PassesOwn.never rfl (pi_list (pe_call (ok_heads D) (hr.mono (by decide)) (by rfl) D.gl_heads D.kp_heads b3_heads v3_heads pass0 (pa_cons (pv 0) (pa_cons (pv 1) (pa_cons (pv 3) pa_nil))))) (pg_tup rfl (pgs_cons (pg_name (i := 7) nd rfl (Or.inl rfl)) (pgs_cons (pg_name (i := 8) nd rfl (Or.inl rfl)) pgs_nil))) (pss_one (ps_for PassesOwn.never rfl (pi_list (pe_call (ok_cut_at D) (hr.mono (by decide)) (by rfl) D.h_cut_at.gl D.h_cut_at.fn.kp D.h_cut_at.bd .nil pass0 (pa_cons (pv 8) (pa_cons (pe_callTy (call_listD rfl) (by rfl) T.list (by decide +kernel) (pa_cons (pv 4) pa_nil)) pa_nil)))) (pg_name (i := 9) nd rfl (Or.inl rfl)) (pss_cons (ps_set (i := 10) nd rfl (.inl rfl) (pe_tup (pa_cons (pv 9) (pa_cons (pe_op op_add (pv 6) (pe_dget2 hu1 (pv 4) (pe_meth0 (pv 9) D.Z_Stretch.cl D.h_Stretch_first.me (ok_Stretch_first D) (hr.mono (by decide)) D.h_Stretch_first.bd .nil pass0) pe_int ⟨rfl, rfl, rfl, rfl⟩)) (pa_cons (pe_op op_mul (pv 7) (pv 2)) pa_nil)))))
      (pss_cons (ps_expr (pe_bm PySem.F.plainAttrs_list PySem.F.slot_list_append PySem.F.type_list_append mt_append (pv 5) (pa_cons (pv 10) pa_nil)))
      (pss_one (ps_if (pt_cmpR op_notN (pe_meth0 (pv 9) D.Z_Stretch.cl D.h_Stretch_last.me (ok_Stretch_last D) (hr.mono (by decide)) D.h_Stretch_last.bd .nil pass0) pe_non (nomark _)) (pss_one (ps_set (i := 6) nd rfl (.inl rfl) (pe_call (ok_left_on D) (hr.mono (by decide)) (by rfl) D.h_left_on.gl D.h_left_on.fn.kp D.h_left_on.bd .nil pass0 (pa_cons (pv 10) (pa_cons (pe_meth0 (pv 9) D.Z_Stretch.cl D.h_Stretch_last.me (ok_Stretch_last D) (hr.mono (by decide)) D.h_Stretch_last.bd .nil pass0) pa_nil))))) pss_nil)))))))
      (pss_one (ps_ret (pv 5)))))), ?_⟩
    have ok := W.ev.2.2
    have hrk := W.ev.1
    have sok : (shopOf es rk z kn R).OK rk := ⟨ok, by show (rk.map (·.1)).length ≤ 30; rw [List.length_map]; exact hrk.ln, r0, r1⟩
    generalize hs : shopOf es rk z kn R = s at *
    have hsm : ∀ d, s.many d = manyI es (rk.map (·.1)) z kn d := fun d => by rw [← hs]; rfl
    have hsR : s.R = R := by rw [← hs]; rfl
    have hsL : ∀ d, s.landW d = (heldO es false z kn d).getD (.int 0) := fun d => by rw [← hs]; rfl
    obtain ⟨dxb, Rb, Mb, Lb, vb, ix⟩ := W.ix
    refine ⟨_, rfl, b, dxb, _, rfl, ix, rfl, _, rfl, _, rfl, b, rk, es, fp, z, kn, rfl, W, hl, fun l0 L H1 nl0 ⟨ts0, el0, rl0⟩ hh hL s1 => ?_⟩
    refine ⟨l0, ts0, enA Sum.inl id L, rfl, SqL.of el0, rows_pairs rl0, fun D0 nD0 => ?_⟩
    rw [merge_en inl_inj (holdF_nodup hh)]
    have s2 := same_upd (o := .dK (enA Sum.inl id L)) nD0
    have eD0 := upd_same (H := H1) (a := D0) (o := .dK (enA Sum.inl id L))
    generalize upd H1 D0 (.dK (enA Sum.inl id L)) = H2 at *
    refine ⟨by show 0 ≤ sizeLine; decide, fun C nC => ?_⟩
    have s3 := same_upd (o := .lst []) nC
    have eC := upd_same (H := H2) (a := C) (o := .lst [])
    generalize upd H2 C (.lst []) = H3 at *
    have s03 : Same H H3 := s1.trans (s2.trans s3)
    have nC0 : H C = none := (s1.trans s2).free nC
    have W3 := W.mono s03
    refine ⟨_, rfl, _, rfl, _, rfl, b, rk, es, fp, z, kn, rfl, W3, hz, hl, hk, fun l rs H4 nl ⟨ts, el, hts⟩ hR rl rint s4 => ?_⟩
    have eC4 := s4 _ _ eC
    have eD4 := s4 _ _ (s3 _ _ eD0)
    have nDC : D0 ≠ C := ne_of_none eD0 nC
    have nlC : l ≠ C := (ne_of_none eC nl).symm
    have tl : ts.length = rs.length := Paired.length hts
    have hLd := hold_d0 ok hh
    have landG : ∀ d, (valV (enA Sum.inl id L) (Sum.inl d)).getD (.int 0) = .int (s.land d) := fun d => by
      rw [show valV (enA Sum.inl id L) (Sum.inl d) = heldO es false z kn d from (told_val L d).trans (hold_get ok hh d), ← hsL]
      exact (sok.landV d).1
    have land0 : ∀ d, d ∉ L.map (·.1) → s.land d = 0 := fun d hd => by
      have h1 : heldO es false z kn d = none := by rw [← hold_get ok hh d]; exact getA_none_iff.mpr hd
      unfold Shop.land
      rw [hsL, h1]
      rfl
    have fr0 : Fr rFi Sup.fi Sup.la (supK s) rs 0 ([] : List Sup) (fun f => (0 : Int) = s.left (f - 1)) := by
      obtain ⟨b0, h1, h2⟩ := hR.cov.hd
      exact .inl ⟨b0, h1, h2.symm, by rw [h2]; rfl⟩
    refine ⟨l, rfl, ⟨_, SqL.of el⟩, for_list (xs := ts.map V.ref) (fun i σ H' => ∃ (x7 x8 x9 x10 : Option V) (left : Int) (ss : List Sup) (us : List Addr), σ = [some (.ref b), some (.str z), some (.int R), some (knV kn), some (.ref D0), some (.ref C), some (.int left), x7, x8, x9, x10] ∧ SameB C H4 H' ∧ H' C = some (.lst (us.map V.ref)) ∧ Paired (SupT D.C_Stretch H') us ss ∧
        Fr rFi Sup.fi Sup.la (supK s) rs i ss (fun f => left = s.left (f - 1)) ∧ (∀ b ∈ ss, SupB s b) ∧ ss.length ≤ i * 61)
      ⟨none, none, none, none, 0, [], [], rfl, SameB.of (Same.refl _), eC4, .nil, fr0, nofun, Nat.zero_le _⟩ (fun i σ H' _ ⟨_, _, _, _, _, _, _, _, s, _⟩ => SqL.of (s _ _ nlC el)) ?_ ?_⟩
    · rintro i y σ H5 hy ⟨x7, x8, x9, x10, left, ss, us, rfl, s5, eC5, hus, fr, hB, hsl⟩
      obtain ⟨t, r, rfl, hr, ⟨sx, ht, hsx⟩⟩ := pick_at hts hy
      have il := (List.getElem?_eq_some_iff.mp hr).1
      have ht5 := s5 _ _ (ne_of ht eC4 (by intro z; cases z)) ht
      obtain ⟨dxs, hxs⟩ := hsx
      have hxs5 := s5 _ _ (ne_of hxs eC4 (by intro z; cases z)) hxs
      have hS5 : StrAt D.C_Stretch H5 sx r.2.1 r.2.2 := ⟨dxs, hxs5⟩
      have eD5 := s5 _ _ nDC eD4
      obtain ⟨m, em⟩ := rint r (List.mem_of_getElem? hr)
      refine ⟨t, _, rfl, SqT.of ht5, rfl, _, _, rfl, _, _, rfl, rfl, ?_⟩
      obtain ⟨g1, _, g3, _⟩ := hR.cov.get i r hr
      have glow := hR.cov.le r (List.mem_of_getElem? hr)
      have gday := hR.days r (List.mem_of_getElem? hr)
      have r55 : r.2.1 < 10 ^ 55 ∧ ∀ e, r.2.2 = some e → e < 10 ^ 55 := by
        refine ⟨?_, fun e he => ?_⟩
        · rcases gday.1 with h | ⟨k, e, he, _, _, ed⟩
          · have h : r.2.1 = 0 := h
            omega
          · have h : e.day = r.2.1 := ed
            have := (ok e he).d1
            omega
        · obtain ⟨k, ev, he', _, _, ed⟩ := gday.2 e he
          have := (ok ev he').d1
          omega
      refine ⟨_, rfl, _, rfl, D0, _, rfl, .inl eD5, fun lp nlp => ?_⟩
      have ekl : ((enA Sum.inl id L).map fun kv : Key × V => kV kv.1) = (L.map (·.1)).map V.int := by
        unfold enA
        rw [List.map_map, List.map_map]
        rfl
      rw [ekl]
      have s6 := same_upd (o := .lst ((L.map (·.1)).map V.int)) nlp
      have elp := upd_same (H := H5) (a := lp) (o := .lst ((L.map (·.1)).map V.int))
      generalize upd H5 lp (.lst ((L.map (·.1)).map V.int)) = H6 at *
      refine ⟨sx, lp, r.2.1, r.2.2, L.map (·.1), rfl, hS5.mono s6, elp, g1, glow.2, by rw [List.pairwise_map]; exact hh.up, fun d hd => ?_, by rw [List.length_map]; omega, fun lq H7 nlq ⟨ps, elq, hps⟩ s7 => ?_⟩
      · obtain ⟨p, hp, rfl⟩ := List.mem_map.mp hd
        exact (hLd p hp).1
      have cv := cut_cov (f := r.2.1) (x := r.2.2) (days := L.map (·.1)) (by rw [List.pairwise_map]; exact hh.up) glow.2
      have c55 : ∀ q ∈ partF r.2.2 (cutF r.2.1 r.2.2 (L.map (·.1))), 0 ≤ q.1 ∧ q.1 < 10 ^ 55 := fun q hq => by
        have hq := partF_mem hq
        rw [cutF_eq] at hq
        rcases List.mem_cons.mp hq with h | h
        · have := g1
          have h0 : (0 : Int) ≤ r.2.1 := g1
          omega
        · obtain ⟨p, hp, e⟩ := List.mem_map.mp (List.mem_filter.mp h).1
          have := hLd p hp
          omega
      have pl61 : (partF r.2.2 (cutF r.2.1 r.2.2 (L.map (·.1)))).length ≤ 61 := by
        rw [partF_len, cutF_eq, List.length_cons]
        have := List.length_filter_le (fun d => hasB r.2.1 r.2.2 d && decide (r.2.1 < d)) (L.map (·.1))
        rw [List.length_map] at this
        omega
      generalize partF r.2.2 (cutF r.2.1 r.2.2 (L.map (·.1))) = pq at *
      have pl : ps.length = pq.length := Paired.length hps
      have s57 := s6.trans s7
      have eC7 := s57 _ _ eC5
      have nlqC : lq ≠ C := (ne_of_none (s6 _ _ eC5) nlq).symm
      have fri := fr.to_inner hr cv glow.2
      refine ⟨lq, rfl, ⟨_, SqL.of elq⟩, for_list (xs := ps.map V.ref) (fun j σ H' => ∃ (x9 x10 : Option V) (left : Int) (ss : List Sup) (us : List Addr), σ = [some (.ref b), some (.str z), some (.int R), some (knV kn), some (.ref D0), some (.ref C), some (.int left), some r.1, some (.ref sx), x9, x10] ∧ SameB C H7 H' ∧ H' C = some (.lst (us.map V.ref)) ∧ Paired (SupT D.C_Stretch H') us ss ∧
          FrX pFi Sup.fi Sup.la (supK s) pq (rLa r) j ss (fun f => left = s.left (f - 1)) ∧ (∀ b ∈ ss, SupB s b) ∧ ss.length ≤ i * 61 + j)
        ⟨x9, x10, left, ss, us, rfl, SameB.of (Same.refl _), eC7, paired_imp (fun _ _ h => h.mono s57) hus, fri, hB, hsl⟩ (fun j σ H' _ ⟨_, _, _, _, _, _, s, _⟩ => SqL.of (s _ _ nlqC elq)) ?_ ?_⟩
      · rintro j y σ H8 hy ⟨x9, x10, left, ss, us, rfl, s8, eC8, hus8, fr8, hB8, hsl8⟩
        obtain ⟨px, q0, rfl, hq, hpx⟩ := pick_at hps hy
        obtain ⟨dxp, hxp⟩ := hpx
        have hxp8 := s8 _ _ (ne_of hxp eC7 (by intro z; cases z)) hxp
        have hP8 : StrAt D.C_Stretch H8 px q0.1 q0.2 := ⟨dxp, hxp8⟩
        have eD8 := s8 _ _ nDC (s57 _ _ eD5)
        have q55 := c55 q0 (List.mem_of_getElem? hq)
        obtain ⟨c1, _, c3, c4⟩ := cv.get j q0 hq
        have cin := cv.inside q0 (List.mem_of_getElem? hq)
        have hleft : left = s.left (q0.1 - 1) := by
          rcases fr8 with ⟨p', h1, h2, h3⟩ | ⟨h1, _⟩
          · rw [hq] at h1
            cases h1
            exact h3
          · rw [h1, List.getElem?_eq_none (Nat.le_refl _)] at hq
            cases hq
        have e55 : ∀ e, q0.2 = some e → q0.1 ≤ e ∧ e < 10 ^ 55 := fun e he => by
          rcases c4 with ⟨_, n2, n3⟩ | ⟨e', c, n1, n2, n3, n4⟩
          · have n2 : q0.2 = rLa r := n2
            rw [he] at n2
            exact ⟨n3 e n2.symm, r55.2 e n2.symm⟩
          · have n1 : q0.2 = some e' := n1
            rw [he] at n1
            cases n1
            have := (c55 c (List.mem_of_getElem? n3)).2
            have n4 : c.1 = e + 1 := n4
            have n2 : q0.1 ≤ e := n2
            omega
        have hrm : ∀ d, HasD2 rFi rLa r d → V.int (s.many d) = r.1 := fun d hd => by
          rw [hsm]
          exact g3 d hd
        have hmq : s.many q0.1 = m := by
          have hd0 : HasD2 pFi pLa q0 q0.1 := ⟨Int.le_refl _, fun e he => (e55 e he).1⟩
          have := hrm q0.1 ⟨(cin _ hd0).1, fun e he => (cin _ hd0).2 e he⟩
          rw [em] at this
          exact V.int.inj this
        have hm30 := sok.manyB q0.1
        have heat := sok.eatB q0.1
        rw [hmq] at hm30 heat
        rw [hsR] at heat
        have hK := supply_of (s := s) (rk := rk) (P := fun _ => True) (rs := rs) (r := r) (days := L.map (·.1)) (q := q0) (m := m) hrm em c3 land0 q55.1 (fun d hd => ⟨(cin d hd).1, fun e he => (cin d hd).2 e he⟩)
        rw [← hleft, hsR] at hK
        have SB : SupB s ⟨q0.1, q0.2, left + s.land q0.1, m * R⟩ := ⟨q55.1, q55.2, e55, by rw [hleft], heat.1, heat.2⟩
        have SBk := SB.stB sok
        refine ⟨_, rfl, _, rfl, _, rfl, D0, rfl, .inl ⟨_, .inl eD8⟩, _, rfl, px, dxp, _, rfl, hxp8, rfl, px, q0.1, q0.2, rfl, hP8, _, DGet.k (k := Sum.inl q0.1) eD8, left, s.land q0.1, rfl, landG q0.1, _, rfl, _, rfl, m, R, em, rfl, .inl ⟨by omega, by omega⟩, by show 3 ≤ sizeLine; decide, fun T nT => ?_⟩
        have s9 := same_upd (o := .tup [V.ref px, .int (left + s.land q0.1), .int (m * R)]) nT
        have eT := upd_same (H := H8) (a := T) (o := .tup [V.ref px, .int (left + s.land q0.1), .int (m * R)])
        have eC9 := s9 _ _ eC8
        have ul : us.length = ss.length := Paired.length hus8
        have jl : j < pq.length := (List.getElem?_eq_some_iff.mp hq).1
        have ul2 : us.length < 4000 := by omega
        refine ⟨_, rfl, .inl ⟨rfl, _, SqL.of eC9⟩, _, rfl, C, _, _, rfl, rfl, eC9, by rw [List.length_map, sizeLine_eq]; omega, ?_⟩
        have nTC : T ≠ C := (ne_of_none eC8 nT).symm
        have sC : SameB C H7 (L2.upd (L2.upd H8 T (.tup [V.ref px, .int (left + s.land q0.1), .int (m * R)])) C (.lst (us.map V.ref ++ [V.ref T]))) := (s8.trans (SameB.of s9)).trans (SameB.upd (SameB.of (Same.refl _)))
        have eC10 := upd_same (H := L2.upd H8 T (.tup [V.ref px, .int (left + s.land q0.1), .int (m * R)])) (a := C) (o := .lst (us.map V.ref ++ [V.ref T]))
        have nT1 : SupT D.C_Stretch (L2.upd H8 T (.tup [V.ref px, .int (left + s.land q0.1), .int (m * R)])) T ⟨q0.1, q0.2, left + s.land q0.1, m * R⟩ := ⟨px, eT, hP8.mono s9⟩
        have nT2 := nT1.upd (o := .lst (us.map V.ref ++ [V.ref T])) eC9
        have hus10 := paired_snoc' (paired_imp (fun _ _ h => (h.mono s9).upd (o := .lst (us.map V.ref ++ [V.ref T])) eC9) hus8) nT2
        have hP10 : StrAt D.C_Stretch (L2.upd (L2.upd H8 T (.tup [V.ref px, .int (left + s.land q0.1), .int (m * R)])) C (.lst (us.map V.ref ++ [V.ref T]))) px q0.1 q0.2 := (hP8.mono s9).upd eC9
        generalize L2.upd (L2.upd H8 T (.tup [V.ref px, .int (left + s.land q0.1), .int (m * R)])) C (.lst (us.map V.ref ++ [V.ref T])) = H10 at *
        have eC10 : H10 C = some (.lst ((us ++ [T]).map V.ref)) := by rw [eC10, List.map_append]; rfl
        obtain ⟨dxq, hxq⟩ := hP10
        have hP10 : StrAt D.C_Stretch H10 px q0.1 q0.2 := ⟨dxq, hxq⟩
        have frN : ∀ left' : Int, (∀ e, q0.2 = some e → left' = s.left e) → FrX pFi Sup.fi Sup.la (supK s) pq (rLa r) (j + 1) (ss ++ [⟨q0.1, q0.2, left + s.land q0.1, m * R⟩]) (fun f => left' = s.left (f - 1)) := fun left' hl' =>
          FrX.step cv hq fr8 (c := (⟨q0.1, q0.2, left + s.land q0.1, m * R⟩ : Sup)) rfl rfl hK fun e he => by
            rw [show e + 1 - 1 = e by omega]
            exact hl' e he
        have okN : ∀ x ∈ ss ++ [(⟨q0.1, q0.2, left + s.land q0.1, m * R⟩ : Sup)], SupB s x := fun x hx => by
          rcases List.mem_append.mp hx with hx | hx
          · exact hB8 x hx
          · rw [List.mem_singleton.mp hx]
            exact SB
        have lnN : (ss ++ [(⟨q0.1, q0.2, left + s.land q0.1, m * R⟩ : Sup)]).length ≤ i * 61 + (j + 1) := by rw [List.length_append, List.length_singleton]; omega
        refine ⟨_, rfl, px, dxq, _, rfl, hxq, rfl, px, q0.1, q0.2, rfl, hP10, rfl, _, rfl, ?_⟩
        cases hla : q0.2 with
        | none =>
          rw [hla] at frN okN lnN hus10
          exact iteF ⟨_, _, left, _, us ++ [T], rfl, sC, eC10, hus10, frN left (fun e he => by cases he), okN, lnN⟩
        | some e =>
          have he := e55 e hla
          have hKe : s.left e = left + s.land q0.1 - m * R * (e - q0.1 + 1) := hK e ⟨he.1, fun e' h => by have h : q0.2 = some e' := h; rw [hla] at h; cases h; exact Int.le_refl _⟩
          rw [hla] at frN okN lnN hus10
          have hTT : SupT D.C_Stretch H10 T ⟨q0.1, some e, left + s.land q0.1, m * R⟩ := by
            rw [hla] at nT2
            exact nT2
          rw [hla] at hxq hP10
          refine iteT ⟨_, rfl, _, rfl, px, dxq, _, rfl, hxq, rfl, px, q0.1, some e, rfl, hP10, T, ⟨q0.1, some e, left + s.land q0.1, m * R⟩, e, rfl, hTT, heat, q55, ⟨by omega, by omega⟩, ?_⟩
          exact ⟨_, _, left + s.land q0.1 - m * R * (e - q0.1 + 1), _, us ++ [T], rfl, sC, eC10, hus10, frN _ (fun e' h => by cases h; exact hKe.symm), okN, lnN⟩
      · rintro σ H8 ⟨x9, x10, left, ss, us, rfl, s8, eC8, hus8, fr8, hB8, hsl8⟩
        rw [List.length_map, pl] at fr8 hsl8
        refine ⟨_, _, x9, x10, left, ss, us, rfl, ?_, eC8, hus8, Fr.of_inner hR.cov hr fr8, hB8, by omega⟩
        exact fun c o hc e => s8 _ _ hc (s57 _ _ (s5 _ _ hc e))
    · rintro σ H5 ⟨x7, x8, x9, x10, left, ss, us, rfl, s5, eC5, hus, fr, hB, hsl⟩
      rw [List.length_map, tl] at fr hsl
      have fin : Cov Sup.fi Sup.la (supK s) 0 ss := by
        rcases fr with ⟨b', h1, _⟩ | ⟨_, h⟩
        · rw [List.getElem?_eq_none (Nat.le_refl _)] at h1
          cases h1
        · exact h
      have sm : Same H H5 := fun c o e => s5 _ _ (fun h => by rw [h, nC0] at e; cases e) (s4 _ _ (s03 _ _ e))
      exact ⟨_, rfl, q C ss H5 nC0 ⟨us, eC5, hus⟩ ⟨fin, hB⟩ (by omega) sm⟩
theorem sc_left_over : FnScope ["book", "light", "ration", "day", "known", "now", "supply"] ["book", "light", "ration", "day", "known"] (defScope s_left_over) := ⟨rfl, rfl, rfl, by decide +kernel, rfl, by decide +kernel, by decide +kernel⟩
theorem ok_left_over (D : All K P mg) : FnOk P w K mg base CX0 10 D.f_left_over D.d_left_over ["book", "light", "ration", "day", "known"] (spLeftOver D.C_Book D.C_History D.C_Stretch) := by
  refine D.q_left_over.ok sc_left_over (fun vs H Q E h => ?_) (fun cdv A outer s H vs Q E hr h => ?_)
  · first | (obtain ⟨_, rfl, _⟩ := h; rfl) | (obtain ⟨_, _, rfl, _⟩ := h; rfl) | (obtain ⟨_, _, _, rfl, _⟩ := h; rfl) | (obtain ⟨_, _, _, _, rfl, _⟩ := h; rfl) | (obtain ⟨_, _, _, _, _, rfl, _⟩ := h; rfl) | (obtain ⟨_, _, _, _, _, _, rfl, _⟩ := h; rfl) | (obtain ⟨_, _, _, _, _, _, _, rfl, _⟩ := h; rfl) | (obtain ⟨_, _, _, _, _, _, _, _, rfl, _⟩ := h; rfl) | (obtain ⟨_, _, _, _, _, _, _, _, _, rfl, _⟩ := h; rfl) | (obtain ⟨_, _, _, _, _, _, _, _, _, _, rfl, _⟩ := h; rfl) | (obtain ⟨_, _, _, _, _, _, _, _, _, _, _, rfl, _⟩ := h; rfl) | (obtain ⟨_, _, _, _, _, _, _, _, _, _, _, _, rfl, _⟩ := h; rfl) | (obtain ⟨_, _, _, _, _, _, _, _, _, _, _, _, _, rfl, _⟩ := h; rfl) | (obtain ⟨_, _, _, _, _, _, _, _, _, _, _, _, _, _, rfl, _⟩ := h; rfl) | (obtain ⟨_, _, _, _, _, _, _, _, _, _, _, _, _, _, _, rfl, _⟩ := h; rfl)
  · have T := D.T
    have nd := sc_left_over.nd
    have hu := hr.units
    have hu1 := hu_of hr
    have hu0 := hr.units0
    obtain ⟨b, rk, es, fp, z, R, d, kn, rfl, W, hz, hl, hk, r0, r1, d0, d1, q⟩ := h
    refine ⟨_, pss_cons (ps_expr (pe_call (ok_check_light D) (hr.mono (by decide)) (by rfl) D.h_check_light.gl D.h_check_light.fn.kp D.h_check_light.bd .nil pass0 (pa_cons (pv 1) pa_nil)))
      (pss_cons (ps_expr (pe_call (ok_check_number D) (hr.mono (by decide)) (by rfl) D.h_check_number.gl D.h_check_number.fn.kp D.h_check_number.bd .nil pass0 (pa_cons (pv 2) (pa_cons pe_int pa_nil))))
      (pss_cons (ps_expr (pe_call (ok_check_days D) (hr.mono (by decide)) (by rfl) D.h_check_days.gl D.h_check_days.fn.kp D.h_check_days.bd .nil pass0 (pa_cons (pv 3) (pa_cons (pv 4) pa_nil))))
      (pss_cons (ps_setLc (i := 5) (own := [("supply", 6)]) (g := gName 6) rfl nd rfl rfl (sw_true rfl rfl rfl (by decide +kernel)) (pi_list (pe_call (ok_supplies D) (hr.mono (by decide)) (by rfl) D.h_supplies.gl D.h_supplies.fn.kp D.h_supplies.bd .nil pass0 (pa_cons (pv 0) (pa_cons (pv 1) (pa_cons (pv 2) (pa_cons (pv 4) pa_nil)))))) (blkOk_by (N := ["book", "light", "ration", "day", "known", "now", "supply"]) (sc := defScope s_left_over) (by decide +kernel)) (fun _ _ _ _ _ => (pg_name (i := 6) nd rfl (Or.inl rfl))) (fun _ _ _ _ _ => pts_one (pt_val (pe_meth (pe_ix (show IxR _ (rIxT K) from ix_tup) (pv 6) pe_int (fun _ _ => rfl)) D.Z_Stretch.cl D.h_Stretch_has.me (ok_Stretch_has D) (hr.mono (by decide)) D.h_Stretch_has.bd .nil pass0 (pa_cons (pv 3) pa_nil)))) (fun _ _ _ _ _ => (pv 6)))
      (pss_one (ps_ret (pe_call (ok_left_on D) (hr.mono (by decide)) (by rfl) D.h_left_on.gl D.h_left_on.fn.kp D.h_left_on.bd .nil pass0 (pa_cons (pe_ix ix_list (pv 5) pe_int (fun _ _ => rfl)) (pa_cons (pv 3) pa_nil)))))))), ?_⟩
    have ok := W.ev.2.2
    have hrk := W.ev.1
    have sok : (shopOf es rk z kn R).OK rk := ⟨ok, by show (rk.map (·.1)).length ≤ 30; rw [List.length_map]; exact hrk.ln, by show 0 ≤ R; omega, r1⟩
    refine ⟨_, rfl, z, rfl, hz, fun H1 s1 => ?_⟩
    refine ⟨_, rfl, R, 1, rfl, r0, ?_⟩
    refine ⟨_, rfl, _, rfl, d, kn, rfl, d0, hk, ?_⟩
    have W1 := W.mono s1
    refine ⟨_, rfl, _, rfl, _, rfl, _, rfl, b, rk, es, fp, z, R, kn, rfl, W1, hz, hl, hk, by omega, r1, fun l ss H2 nl ⟨ts, el, hts⟩ hS sl s2 => ?_⟩
    refine ⟨l, rfl, ⟨_, SqL.of el⟩, fun F nF => ?_⟩
    generalize shopOf es rk z kn R = s at *
    obtain ⟨i0, b0, hb0, hd0, hk0, un⟩ := hS.at_ d0
    have B0 := hS.ok b0 (List.mem_of_getElem? hb0)
    have tl : ts.length = ss.length := Paired.length hts
    obtain ⟨t0, ht0, hT0⟩ : ∃ t0, ts[i0]? = some t0 ∧ SupT D.C_Stretch H2 t0 b0 := by
      have il := (List.getElem?_eq_some_iff.mp hb0).1
      have e := List.getElem?_eq_getElem (l := ts) (i := i0) (by omega)
      obtain ⟨p, h1, h2⟩ := paired_get hts e
      rw [hb0] at h1
      cases h1
      exact ⟨_, e, h2⟩
    have i0l := (List.getElem?_eq_some_iff.mp hb0).1
    refine lc_list (K := K) (a := l) (xs := ts.map V.ref) (fun i H' => Same H2 H' ∧ H' F = some (.lst (if i0 < i then [V.ref t0] else []))) ⟨same_upd nF, upd_same⟩ (fun i H' _ ⟨s, _⟩ => SqL.of (s _ _ el)) ?_ ?_
    · rintro i y H3 hy ⟨s3, eF⟩
      obtain ⟨t, c, rfl, hc, ⟨px, ht, ⟨dxp, hxp⟩⟩⟩ := pick_at hts hy
      have hxp3 := s3 _ _ hxp
      refine ⟨rfl, _, rfl, t, _, 0, _, rfl, rfl, SqT.of (s3 _ _ ht), atI_nat (j := 0) rfl, px, dxp, _, rfl, hxp3, rfl, _, rfl, px, c.fi, c.la, d, rfl, ⟨dxp, hxp3⟩, d0, _, rfl, ?_⟩
      by_cases hi : i = i0
      · subst hi
        rw [hb0] at hc
        cases hc
        rw [hasB_iff.mpr hd0]
        have et : t = t0 := by
          rw [List.getElem?_map, ht0] at hy
          cases hy
          rfl
        rw [if_neg (Nat.lt_irrefl _)] at eF
        refine iteT ⟨_, rfl, _, eF, by show 0 < sizeLine; decide, same_put nF s3, ?_⟩
        rw [upd_same, if_pos (Nat.lt_succ_self _), et]
        rfl
      · have hn : hasB c.fi c.la d = false := by
          cases e : hasB c.fi c.la d with
          | false => rfl
          | true => exact absurd (un i c hc (hasB_iff.mp e)) hi
        rw [hn]
        refine iteF ⟨s3, ?_⟩
        rw [eF]
        by_cases h : i0 < i
        · rw [if_pos h, if_pos (by omega)]
        · rw [if_neg h, if_neg (by omega)]
    · rintro H3 ⟨s3, eF⟩
      rw [if_pos (by rw [List.length_map]; omega)] at eF
      refine ⟨_, rfl, F, _, 0, _, rfl, rfl, SqL.of eF, atI_nat (j := 0) rfl, _, rfl, t0, b0, d, rfl, hT0.mono s3, ⟨B0.e0, B0.e1⟩, ⟨B0.f0, B0.f1⟩, ⟨d0, d1⟩, ?_⟩
      rw [← show s.left d = b0.stock - b0.eaten * (d - b0.fi + 1) from hk0]
      exact q H3 (s1.trans (s2.trans s3))
theorem sc_earlier_end : FnScope ["one", "other"] ["one", "other"] (defScope s_earlier_end) := ⟨rfl, rfl, rfl, by decide +kernel, rfl, by decide +kernel, by decide +kernel⟩
theorem ok_earlier_end (D : All K P mg) : FnOk P w K mg base CX0 1 D.f_earlier_end D.d_earlier_end ["one", "other"] spEarlier := by
  refine D.h_earlier_end.fn.ok sc_earlier_end (fun vs H Q E h => ?_) (fun cdv A outer s H vs Q E hr h => ?_)
  · first | (obtain ⟨_, rfl, _⟩ := h; rfl) | (obtain ⟨_, _, rfl, _⟩ := h; rfl) | (obtain ⟨_, _, _, rfl, _⟩ := h; rfl) | (obtain ⟨_, _, _, _, rfl, _⟩ := h; rfl) | (obtain ⟨_, _, _, _, _, rfl, _⟩ := h; rfl) | (obtain ⟨_, _, _, _, _, _, rfl, _⟩ := h; rfl) | (obtain ⟨_, _, _, _, _, _, _, rfl, _⟩ := h; rfl) | (obtain ⟨_, _, _, _, _, _, _, _, rfl, _⟩ := h; rfl) | (obtain ⟨_, _, _, _, _, _, _, _, _, rfl, _⟩ := h; rfl) | (obtain ⟨_, _, _, _, _, _, _, _, _, _, rfl, _⟩ := h; rfl) | (obtain ⟨_, _, _, _, _, _, _, _, _, _, _, rfl, _⟩ := h; rfl) | (obtain ⟨_, _, _, _, _, _, _, _, _, _, _, _, rfl, _⟩ := h; rfl) | (obtain ⟨_, _, _, _, _, _, _, _, _, _, _, _, _, rfl, _⟩ := h; rfl) | (obtain ⟨_, _, _, _, _, _, _, _, _, _, _, _, _, _, rfl, _⟩ := h; rfl) | (obtain ⟨_, _, _, _, _, _, _, _, _, _, _, _, _, _, _, rfl, _⟩ := h; rfl)
  · have T := D.T
    have nd := sc_earlier_end.nd
    have hu := hr.units
    have hu1 := hu_of hr
    have hu0 := hr.units0
    obtain ⟨x, y, rfl, q⟩ := h
    refine ⟨_, pss_cons (ps_if (pt_cmpR op_isN (pv 0) pe_non (nomark _)) (pss_one (ps_ret (pv 1))) pss_nil)
      (pss_cons (ps_if (pt_cmpR op_isN (pv 1) pe_non (nomark _)) (pss_one (ps_ret (pv 0))) pss_nil)
      (pss_one (ps_ret (pe_callB (call_min2 rfl) (by rfl) T.min (by decide +kernel) (pa_cons (pv 0) (pa_cons (pv 1) pa_nil)))))), ?_⟩
    refine ⟨_, rfl, rfl, _, rfl, ?_⟩
    cases x with
    | none => exact iteT ⟨_, rfl, q⟩
    | some a =>
      refine iteF ⟨_, rfl, rfl, _, rfl, ?_⟩
      cases y with
      | none => exact iteT ⟨_, rfl, q⟩
      | some b => exact iteF ⟨_, rfl, _, rfl, a, b, rfl, q⟩
theorem sc_weight_wanted : FnScope ["book", "light", "ration", "till", "known", "least", "least_day", "supply", "day"] ["book", "light", "ration", "till", "known"] (defScope s_weight_wanted) := ⟨rfl, rfl, rfl, by decide +kernel, rfl, by decide +kernel, by decide +kernel⟩
theorem ok_weight_wanted (D : All K P mg) : FnOk P w K mg base CX0 10 D.f_weight_wanted D.d_weight_wanted ["book", "light", "ration", "till", "known"] (spWanted D.C_Book D.C_History D.C_Stretch) := by
  refine D.q_weight_wanted.ok sc_weight_wanted (fun vs H Q E h => ?_) (fun cdv A outer s H vs Q E hr h => ?_)
  · first | (obtain ⟨_, rfl, _⟩ := h; rfl) | (obtain ⟨_, _, rfl, _⟩ := h; rfl) | (obtain ⟨_, _, _, rfl, _⟩ := h; rfl) | (obtain ⟨_, _, _, _, rfl, _⟩ := h; rfl) | (obtain ⟨_, _, _, _, _, rfl, _⟩ := h; rfl) | (obtain ⟨_, _, _, _, _, _, rfl, _⟩ := h; rfl) | (obtain ⟨_, _, _, _, _, _, _, rfl, _⟩ := h; rfl) | (obtain ⟨_, _, _, _, _, _, _, _, rfl, _⟩ := h; rfl) | (obtain ⟨_, _, _, _, _, _, _, _, _, rfl, _⟩ := h; rfl) | (obtain ⟨_, _, _, _, _, _, _, _, _, _, rfl, _⟩ := h; rfl) | (obtain ⟨_, _, _, _, _, _, _, _, _, _, _, rfl, _⟩ := h; rfl) | (obtain ⟨_, _, _, _, _, _, _, _, _, _, _, _, rfl, _⟩ := h; rfl) | (obtain ⟨_, _, _, _, _, _, _, _, _, _, _, _, _, rfl, _⟩ := h; rfl) | (obtain ⟨_, _, _, _, _, _, _, _, _, _, _, _, _, _, rfl, _⟩ := h; rfl) | (obtain ⟨_, _, _, _, _, _, _, _, _, _, _, _, _, _, _, rfl, _⟩ := h; rfl)
  · have T := D.T
    have nd := sc_weight_wanted.nd
    have hu := hr.units
    have hu1 := hu_of hr
    have hu0 := hr.units0
    obtain ⟨b, rk, es, fp, z, R, till, kn, rfl, W, hz, hl, hk, r0, r1, t0, t1, q⟩ := h
    refine ⟨_, pss_cons (ps_expr (pe_call (ok_check_light D) (hr.mono (by decide)) (by rfl) D.h_check_light.gl D.h_check_light.fn.kp D.h_check_light.bd .nil pass0 (pa_cons (pv 1) pa_nil)))
      (pss_cons (ps_expr (pe_call (ok_check_number D) (hr.mono (by decide)) (by rfl) D.h_check_number.gl D.h_check_number.fn.kp D.h_check_number.bd .nil pass0 (pa_cons (pv 2) (pa_cons pe_int pa_nil))))
      (pss_cons (ps_expr (pe_call (ok_check_days D) (hr.mono (by decide)) (by rfl) D.h_check_days.gl D.h_check_days.fn.kp D.h_check_days.bd .nil pass0 (pa_cons (pv 3) (pa_cons (pv 4) pa_nil))))
      (pss_cons (ps_set (i := 5) nd rfl (.inl rfl) pe_int)
      (pss_cons (ps_set (i := 6) nd rfl (.inl rfl) pe_non)
      (pss_cons (PS.nox (ps_for PassesOwn.never rfl (pi_list (pe_call (ok_supplies D) (hr.mono (by decide)) (by rfl) D.h_supplies.gl D.h_supplies.fn.kp D.h_supplies.bd .nil pass0 (pa_cons (pv 0) (pa_cons (pv 1) (pa_cons (pv 2) (pa_cons (pv 4) pa_nil)))))) (pg_name (i := 7) nd rfl (Or.inl rfl)) (pss_one (ps_if (pt_cmpR op_le (pe_meth0 (pe_ix ix_tup (pv 7) pe_int (fun _ _ => rfl)) D.Z_Stretch.cl D.h_Stretch_first.me (ok_Stretch_first D) (hr.mono (by decide)) D.h_Stretch_first.bd .nil pass0) (pv 3) (nomark _)) (pss_cons (ps_set (i := 8) nd rfl (.inl rfl) (pe_call (ok_earlier_end D) (hr.mono (by decide)) (by rfl) D.h_earlier_end.gl D.h_earlier_end.fn.kp D.h_earlier_end.bd .nil pass0 (pa_cons (pe_meth0 (pe_ix ix_tup (pv 7) pe_int (fun _ _ => rfl)) D.Z_Stretch.cl D.h_Stretch_last.me (ok_Stretch_last D) (hr.mono (by decide)) D.h_Stretch_last.bd .nil pass0) (pa_cons (pv 3) pa_nil))))
      (pss_one (ps_if (pt_cmpR op_lt (pe_call (ok_left_on D) (hr.mono (by decide)) (by rfl) D.h_left_on.gl D.h_left_on.fn.kp D.h_left_on.bd .nil pass0 (pa_cons (pv 7) (pa_cons (pv 8) pa_nil))) (pv 5) (nomark _)) (pss_cons (ps_set (i := 5) nd rfl (.inl rfl) (pe_call (ok_left_on D) (hr.mono (by decide)) (by rfl) D.h_left_on.gl D.h_left_on.fn.kp D.h_left_on.bd .nil pass0 (pa_cons (pv 7) (pa_cons (pv 8) pa_nil))))
      (pss_one (ps_set (i := 6) nd rfl (.inl rfl) (pv 8)))) pss_nil))) pss_nil))))
      (pss_one (ps_ret (pe_tup (pa_cons (pe_un un_neg (pv 5)) (pa_cons (pv 6) pa_nil)))))))))), ?_⟩
    have ok := W.ev.2.2
    have hrk := W.ev.1
    have sok : (shopOf es rk z kn R).OK rk := ⟨ok, by show (rk.map (·.1)).length ≤ 30; rw [List.length_map]; exact hrk.ln, by show 0 ≤ R; omega, r1⟩
    refine ⟨_, rfl, z, rfl, hz, fun H1 s1 => ?_⟩
    refine ⟨_, rfl, R, 1, rfl, r0, ?_⟩
    refine ⟨_, rfl, _, rfl, till, kn, rfl, t0, hk, ?_⟩
    have W1 := W.mono s1
    refine ⟨_, rfl, _, rfl, _, rfl, _, rfl, b, rk, es, fp, z, R, kn, rfl, W1, hz, hl, hk, by omega, r1, fun l ss H2 nl ⟨ts, el, hts⟩ hS sl s2 => ?_⟩
    generalize shopOf es rk z kn R = s at *
    have tl : ts.length = ss.length := Paired.length hts
    refine ⟨l, rfl, ⟨_, SqL.of el⟩, for_list (xs := ts.map V.ref) (fun i σ H' => ∃ (least : Int) (day : Option Int) (x7 x8 : Option V), σ = [some (.ref b), some (.str z), some (.int R), some (.int till), some (knV kn), some (.int least), some (knV day), x7, x8] ∧ Same H2 H' ∧ Want s till (Ahead ss i) least day)
      ⟨0, none, none, none, rfl, Same.refl _, Want.nil fun d d0 => ahead_zero hS d0⟩ (fun i σ H' _ ⟨_, _, _, _, _, s, _⟩ => SqL.of (s _ _ el)) ?_ ?_⟩
    · rintro i y σ H3 hy ⟨least, day, x7, x8, rfl, s3, hw⟩
      obtain ⟨t, c, rfl, hc, ⟨px, ht, ⟨dxp, hxp⟩⟩⟩ := pick_at hts hy
      have hxp3 := s3 _ _ hxp
      have B0 := hS.ok c (List.mem_of_getElem? hc)
      have hT3 : SupT D.C_Stretch H3 t c := ⟨px, s3 _ _ ht, dxp, hxp3⟩
      have hw2 : Want s till (· < c.fi) least day := hw.weak fun d _ hd => ahead_self hc hd
      obtain ⟨n1, n2⟩ := want_next (lim' := Ahead ss (i + 1)) hS sok hc hw2 fun d hd => ahead_next hS hc hd
      have hS3 : StrAt D.C_Stretch H3 px c.fi c.la := ⟨dxp, hxp3⟩
      have hTt : H3 t = some (.tup [V.ref px, .int c.stock, .int c.eaten]) := s3 _ _ ht
      refine ⟨_, rfl, t, _, 0, _, rfl, rfl, SqT.of hTt, atI_nat (j := 0) rfl, px, dxp, _, rfl, hxp3, rfl, px, c.fi, c.la, rfl, hS3, _, rfl, _, _, rfl, rfl, _, rfl, ?_⟩
      by_cases ft : c.fi ≤ till
      · rw [decide_eq_true ft]
        have n1 := n1 ft
        obtain ⟨x, ex, x1, x2, x3⟩ : ∃ x, minE c.la (some till) = some x ∧ x ≤ till ∧ HasD2 Sup.fi Sup.la c x ∧ ∀ d, d ≤ till → HasD2 Sup.fi Sup.la c d → d ≤ x := by
          cases hla : c.la with
          | none => exact ⟨till, rfl, Int.le_refl _, ⟨ft, fun e he => by rw [hla] at he; cases he⟩, fun d h _ => h⟩
          | some e =>
            have hle := (B0.l1 e hla).1
            refine ⟨if till < e then till else e, rfl, by split <;> omega, ⟨by split <;> omega, fun e' he => by rw [hla] at he; cases he; split <;> omega⟩, fun d h hd => ?_⟩
            have := hd.2 e hla
            split <;> omega
        refine iteT ⟨_, rfl, t, _, 0, _, rfl, rfl, SqT.of hTt, atI_nat (j := 0) rfl, px, dxp, _, rfl, hxp3, rfl, px, c.fi, c.la, rfl, hS3, _, rfl, c.la, some till, rfl, ?_⟩
        rw [ex]
        obtain ⟨n3, n4⟩ := n1 x ⟨x1, x2, x3⟩
        have kx : s.left x = c.stock - c.eaten * (x - c.fi + 1) := (hS.cov.get i c hc).2.2.1 x x2
        have x0 : 0 ≤ x := Int.le_trans B0.f0 x2.1
        refine ⟨_, rfl, _, rfl, t, c, x, rfl, hT3, ⟨B0.e0, B0.e1⟩, ⟨B0.f0, B0.f1⟩, ⟨x0, by omega⟩, _, rfl, _, _, rfl, rfl, _, rfl, ?_⟩
        rw [← kx]
        by_cases lt : s.left x < least
        · rw [decide_eq_true lt]
          refine iteT ⟨_, rfl, _, rfl, t, c, x, rfl, hT3, ⟨B0.e0, B0.e1⟩, ⟨B0.f0, B0.f1⟩, ⟨x0, by omega⟩, _, rfl, ?_⟩
          rw [← kx]
          exact ⟨s.left x, some x, _, _, rfl, s3, n3 lt⟩
        · rw [decide_eq_false lt]
          exact iteF ⟨least, day, _, _, rfl, s3, n4 lt⟩
      · rw [decide_eq_false ft]
        exact iteF ⟨least, day, _, _, rfl, s3, n2 (by omega)⟩
    · rintro σ H3 ⟨least, day, x7, x8, rfl, s3, hw⟩
      rw [List.length_map, tl] at hw
      have hw := hw.weak (lim' := fun _ => True) fun d _ _ => ahead_end d
      have s03 : Same H H3 := s1.trans (s2.trans s3)
      refine ⟨_, rfl, least, rfl, _, rfl, by show 2 ≤ sizeLine; decide, fun T nT => ?_⟩
      exact q T least day _ (s03.free nT) upd_same hw (s03.trans (same_upd nT))
theorem sc_unfed : FnScope ["book", "light", "ration", "known", "stretch", "stock", "eaten", "day"] ["book", "light", "ration", "known"] (defScope s_unfed) := ⟨rfl, rfl, rfl, by decide +kernel, rfl, by decide +kernel, by decide +kernel⟩
theorem ok_unfed (D : All K P mg) : FnOk P w K mg base CX0 10 D.f_unfed D.d_unfed ["book", "light", "ration", "known"] (spUnfed D.C_Book D.C_History D.C_Stretch) := by
  refine D.q_unfed.ok sc_unfed (fun vs H Q E h => ?_) (fun cdv A outer s H vs Q E hr h => ?_)
  · first | (obtain ⟨_, rfl, _⟩ := h; rfl) | (obtain ⟨_, _, rfl, _⟩ := h; rfl) | (obtain ⟨_, _, _, rfl, _⟩ := h; rfl) | (obtain ⟨_, _, _, _, rfl, _⟩ := h; rfl) | (obtain ⟨_, _, _, _, _, rfl, _⟩ := h; rfl) | (obtain ⟨_, _, _, _, _, _, rfl, _⟩ := h; rfl) | (obtain ⟨_, _, _, _, _, _, _, rfl, _⟩ := h; rfl) | (obtain ⟨_, _, _, _, _, _, _, _, rfl, _⟩ := h; rfl) | (obtain ⟨_, _, _, _, _, _, _, _, _, rfl, _⟩ := h; rfl) | (obtain ⟨_, _, _, _, _, _, _, _, _, _, rfl, _⟩ := h; rfl) | (obtain ⟨_, _, _, _, _, _, _, _, _, _, _, rfl, _⟩ := h; rfl) | (obtain ⟨_, _, _, _, _, _, _, _, _, _, _, _, rfl, _⟩ := h; rfl) | (obtain ⟨_, _, _, _, _, _, _, _, _, _, _, _, _, rfl, _⟩ := h; rfl) | (obtain ⟨_, _, _, _, _, _, _, _, _, _, _, _, _, _, rfl, _⟩ := h; rfl) | (obtain ⟨_, _, _, _, _, _, _, _, _, _, _, _, _, _, _, rfl, _⟩ := h; rfl)
  · have T := D.T
    have nd := sc_unfed.nd
    have hu := hr.units
    have hu1 := hu_of hr
    have hu0 := hr.units0
    obtain ⟨b, rk, es, fp, z, R, kn, rfl, W, hz, hl, hk, r0, r1, q⟩ := h
    refine ⟨_, pss_cons (ps_expr (pe_call (ok_check_light D) (hr.mono (by decide)) (by rfl) D.h_check_light.gl D.h_check_light.fn.kp D.h_check_light.bd .nil pass0 (pa_cons (pv 1) pa_nil)))
      (pss_cons (ps_expr (pe_call (ok_check_number D) (hr.mono (by decide)) (by rfl) D.h_check_number.gl D.h_check_number.fn.kp D.h_check_number.bd .nil pass0 (pa_cons (pv 2) (pa_cons pe_int pa_nil))))
      (pss_cons (ps_expr (pe_call (ok_check_known D) (hr.mono (by decide)) (by rfl) D.h_check_known.gl D.h_check_known.fn.kp D.h_check_known.bd .nil pass0 (pa_cons (pv 3) pa_nil)))
      (pss_cons (PS.nox (ps_for PassesOwn.never rfl (pi_list (pe_call (ok_supplies D) (hr.mono (by decide)) (by rfl) D.h_supplies.gl D.h_supplies.fn.kp D.h_supplies.bd .nil pass0 (pa_cons (pv 0) (pa_cons (pv 1) (pa_cons (pv 2) (pa_cons (pv 3) pa_nil)))))) (pg_tup rfl (pgs_cons (pg_name (i := 4) nd rfl (Or.inl rfl)) (pgs_cons (pg_name (i := 5) nd rfl (Or.inl rfl)) (pgs_cons (pg_name (i := 6) nd rfl (Or.inl rfl)) pgs_nil)))) (pss_one (ps_if (pt_cmpR op_gt (pv 6) pe_int (nomark _)) (pss_cons (ps_set (i := 7) nd rfl (.inl rfl) (pe_op op_add (pe_meth0 (pv 4) D.Z_Stretch.cl D.h_Stretch_first.me (ok_Stretch_first D) (hr.mono (by decide)) D.h_Stretch_first.bd .nil pass0) (pe_op op_fdivW (pv 5) (pv 6))))
      (pss_one (ps_if (pt_val (pe_meth (pv 4) D.Z_Stretch.cl D.h_Stretch_has.me (ok_Stretch_has D) (hr.mono (by decide)) D.h_Stretch_has.bd .nil pass0 (pa_cons (pv 7) pa_nil))) (pss_one (ps_ret (pe_tup (pa_cons (pv 7) (pa_cons (pe_un un_neg (pe_call (ok_left_on D) (hr.mono (by decide)) (by rfl) D.h_left_on.gl D.h_left_on.fn.kp D.h_left_on.bd .nil pass0 (pa_cons (pe_tup (pa_cons (pv 4) (pa_cons (pv 5) (pa_cons (pv 6) pa_nil)))) (pa_cons (pv 7) pa_nil)))) pa_nil))))) pss_nil))) pss_nil))))
      (pss_one (ps_ret pe_non))))), ?_⟩
    have ok := W.ev.2.2
    have hrk := W.ev.1
    have sok : (shopOf es rk z kn R).OK rk := ⟨ok, by show (rk.map (·.1)).length ≤ 30; rw [List.length_map]; exact hrk.ln, by show 0 ≤ R; omega, r1⟩
    refine ⟨_, rfl, z, rfl, hz, fun H1 s1 => ?_⟩
    refine ⟨_, rfl, R, 1, rfl, r0, ?_⟩
    refine ⟨_, rfl, kn, rfl, hk, ?_⟩
    have W1 := W.mono s1
    refine ⟨_, rfl, _, rfl, _, rfl, _, rfl, b, rk, es, fp, z, R, kn, rfl, W1, hz, hl, hk, by omega, r1, fun l ss H2 nl ⟨ts, el, hts⟩ hS sl s2 => ?_⟩
    generalize shopOf es rk z kn R = s at *
    have tl : ts.length = ss.length := Paired.length hts
    refine ⟨l, rfl, ⟨_, SqL.of el⟩, for_list (xs := ts.map V.ref) (fun i σ H' => ∃ (x4 x5 x6 x7 : Option V), σ = [some (.ref b), some (.str z), some (.int R), some (knV kn), x4, x5, x6, x7] ∧ Same H2 H' ∧ ∀ d, 0 ≤ d → Ahead ss i d → 0 ≤ s.left d)
      ⟨none, none, none, none, rfl, Same.refl _, fun d d0 ha => absurd ha (ahead_zero hS d0)⟩ (fun i σ H' _ ⟨_, _, _, _, _, s, _⟩ => SqL.of (s _ _ el)) ?_ ?_⟩
    · rintro i y σ H3 hy ⟨x4, x5, x6, x7, rfl, s3, hf⟩
      obtain ⟨t, c, rfl, hc, ⟨px, ht, ⟨dxp, hxp⟩⟩⟩ := pick_at hts hy
      have hxp3 := s3 _ _ hxp
      have B0 := hS.ok c (List.mem_of_getElem? hc)
      have SB := B0.stB sok
      have fed : Fed s c.fi := fun d d0 d1 => hf d d0 (ahead_self hc d1)
      obtain ⟨g1, g2, g3⟩ := fed_next hS sok hc fed
      have hS3 : StrAt D.C_Stretch H3 px c.fi c.la := ⟨dxp, hxp3⟩
      have hTt : H3 t = some (.tup [V.ref px, .int c.stock, .int c.eaten]) := s3 _ _ ht
      have e0 := B0.e0
      have e1 := B0.e1
      have f0 := B0.f0
      have f1 := B0.f1
      refine ⟨t, _, rfl, SqT.of hTt, rfl, _, _, rfl, _, _, rfl, _, _, rfl, rfl, ?_⟩
      refine ⟨_, rfl, c.eaten, 0, rfl, rfl, _, rfl, ?_⟩
      by_cases ep : 0 < c.eaten
      · rw [decide_eq_true ep]
        refine iteT ⟨_, rfl, px, dxp, _, rfl, hxp3, rfl, px, c.fi, c.la, rfl, hS3, _, rfl, _, rfl, c.stock, c.eaten, rfl, rfl, wide_div ep (by omega), c.fi, c.stock / c.eaten, rfl, rfl, ?_⟩
        have q0 : 0 ≤ c.stock / c.eaten := Int.ediv_nonneg g1 e0
        have q1 : c.stock / c.eaten ≤ c.stock := Int.ediv_le_self _ g1
        generalize hx : c.stock / c.eaten = k at *
        refine ⟨_, rfl, px, dxp, _, rfl, hxp3, rfl, _, rfl, px, c.fi, c.la, (c.fi + k), rfl, hS3, by omega, _, rfl, ?_⟩
        by_cases hd : HasD2 Sup.fi Sup.la c (c.fi + k)
        · rw [hasB_iff.mpr hd]
          refine iteT ⟨_, rfl, _, rfl, _, rfl, _, rfl, by show 3 ≤ sizeLine; decide, fun T nT => ?_⟩
          have s4 := same_upd (o := .tup [V.ref px, .int c.stock, .int c.eaten]) nT
          have eT := upd_same (H := H3) (a := T) (o := .tup [V.ref px, .int c.stock, .int c.eaten])
          generalize upd H3 T (.tup [V.ref px, .int c.stock, .int c.eaten]) = H4 at *
          have hT4 : SupT D.C_Stretch H4 T c := ⟨px, eT, hS3.mono s4⟩
          have kx : s.left (c.fi + k) = c.stock - c.eaten * ((c.fi + k) - c.fi + 1) := (hS.cov.get i c hc).2.2.1 (c.fi + k) hd
          refine ⟨_, rfl, T, c, (c.fi + k), rfl, hT4, ⟨e0, e1⟩, ⟨f0, f1⟩, ⟨by omega, by omega⟩, _, rfl, by show 2 ≤ sizeLine; decide, fun T2 nT2 => ?_⟩
          have s04 : Same H H4 := s1.trans (s2.trans (s3.trans s4))
          have g3 := g3 ep hd
          refine q (.ref T2) _ (.inr ⟨T2, (c.fi + k), -(c.stock - c.eaten * ((c.fi + k) - c.fi + 1)), rfl, s04.free nT2, upd_same, by omega, by omega, by rw [Int.neg_neg, kx], by omega, fun d d0 d1 => ?_⟩) (s04.trans (same_upd nT2))
          by_cases hdf : d < c.fi
          · exact fed d d0 hdf
          · exact g2 d ⟨by omega, fun e he => by have := hd.2 e he; omega⟩ (.inl d1)
        · have hn : hasB c.fi c.la (c.fi + k) = false := by
            cases e : hasB c.fi c.la (c.fi + k) with
            | false => rfl
            | true => exact absurd (hasB_iff.mp e) hd
          rw [hn]
          refine iteF ⟨_, _, _, _, rfl, s3, fun d d0 ha => ?_⟩
          rcases ahead_next hS hc ha with h | h
          · exact fed d d0 h
          · refine g2 d h (.inl (Classical.byContradiction fun hn => hd ⟨by show c.fi ≤ (c.fi + k); omega, fun e he => ?_⟩))
            have := h.2 e he
            omega
      · rw [decide_eq_false ep]
        refine iteF ⟨_, _, _, _, rfl, s3, fun d d0 ha => ?_⟩
        rcases ahead_next hS hc ha with h | h
        · exact fed d d0 h
        · exact g2 d h (.inr (by omega))
    · rintro σ H3 ⟨x4, x5, x6, x7, rfl, s3, hf⟩
      rw [List.length_map, tl] at hf
      exact q .non H3 (.inl ⟨rfl, fun d d0 => hf d d0 (ahead_end d)⟩) (s1.trans (s2.trans s3))
end
end K80
set_option Elab.async false
set_option linter.all false
set_option maxRecDepth 100000
set_option maxHeartbeats 1600000
set_option pp.maxSteps 300
namespace K80
open PySem PySem.Spec PyProof.Rows L2 LT NdefX
section
variable {P : Program} {w : World} {K : PySem.W.Frag} {mg : Str → Option Value} {base : Heap}
theorem sc_Stretch___repr__ : FnScope ["self"] ["self"] (defScope s_Stretch___repr__) := ⟨rfl, rfl, rfl, by decide +kernel, rfl, by decide +kernel, by decide +kernel⟩
theorem ok_Stretch___repr__ (D : All K P mg) : FnGc P w K mg base CX0 1 D.f_Stretch___repr__ D.d_Stretch___repr__ ["self"] (spSRepr D.C_Stretch) := by
  refine okGc D.h_Stretch___repr__.fn sc_Stretch___repr__ (fun h => ?_) (fun g cdv A outer s H vs Q E hG hr h => ?_)
  · obtain ⟨x, f, la, rfl, _⟩ := h
    rfl
  · obtain ⟨x, f, la, rfl, ⟨dx, hx⟩, hf, hla, q⟩ := h
    have hf0 := hf.1
    have hf1 := hf.2
    have bf : f.natAbs ≤ 10 ^ 61 := by omega
    refine ⟨_, pss_cons (ps_if (pt_cmpR op_isN (pe_fld (pv 0) rfl) pe_non (nomark _)) (pss_one (ps_ret (pe_joined (.cons pe_str (.cons (pe_fmt (pe_fld (pv 0) rfl)) (.cons pe_str .nil)))))) pss_nil)
      (pss_one (ps_ret (pe_joined (.cons pe_str (.cons (pe_fmt (pe_fld (pv 0) rfl)) (.cons pe_str (.cons (pe_fmt (pe_fld (pv 0) rfl)) (.cons pe_str .nil)))))))), ?_⟩
    have l1 : (Str.ofString "Stretch(").length = 8 := by decide +kernel
    have l2 : (Str.ofString ", ").length = 2 := by decide +kernel
    have l3 : (Str.ofString ")").length = 1 := by decide +kernel
    have l0 : Str.empty.length = 0 := rfl
    have tf := tlen61 bf
    have sz := sizeLine_eq
    refine ⟨_, rfl, x, _, dx, _, _, rfl, hx, D.Z_Stretch.cl, D.n_Stretch_last_day, rfl, rfl, _, rfl, ?_⟩
    cases la with
    | none =>
      rw [decide_eq_true (show knV none = V.non from rfl)]
      refine iteT ⟨_, rfl, ?_, _, rfl, x, _, dx, _, _, rfl, hx, D.Z_Stretch.cl, D.n_Stretch_first_day, rfl, .inr ⟨f, rfl, lg61 bf, _, rfl, ?_, ?_⟩⟩
      · simp only [strLen_append, l0, l1]; omega
      · simp only [strLen_append, l0, l1]; omega
      refine ⟨_, rfl, ?_, ?_⟩
      · simp only [strLen_append, l0, l1, l2, l3]; omega
      · exact q
    | some e =>
      have he := hla e rfl
      have he0 := he.1
      have he1 := he.2
      have be : e.natAbs ≤ 10 ^ 61 := by omega
      have te := tlen61 be
      rw [decide_eq_false (show ¬ knV (some e) = V.non by nofun)]
      refine iteF ⟨_, rfl, ?_, _, rfl, x, _, dx, _, _, rfl, hx, D.Z_Stretch.cl, D.n_Stretch_first_day, rfl, .inr ⟨f, rfl, lg61 bf, _, rfl, ?_, ?_⟩⟩
      · simp only [strLen_append, l0, l1]; omega
      · simp only [strLen_append, l0, l1]; omega
      refine ⟨_, rfl, ?_, _, rfl, x, _, dx, _, _, rfl, hx, D.Z_Stretch.cl, D.n_Stretch_last_day, rfl, .inr ⟨e, rfl, lg61 be, _, rfl, ?_, ?_⟩⟩
      · simp only [strLen_append, l0, l1, l2]; omega
      · simp only [strLen_append, l0, l1, l2]; omega
      refine ⟨_, rfl, ?_, ?_⟩
      · simp only [strLen_append, l0, l1, l2, l3]; omega
      · exact q
end
end K80
set_option Elab.async false
set_option linter.all false
set_option maxRecDepth 100000
set_option maxHeartbeats 1600000
/-! Own layer: sorted of a list of tuples of whole numbers, texts, None. -/
namespace LT
open PySem PySem.Spec PyProof.Rows L2
/-! ### a walk over the items of a dict that has just been made -/
end LT
set_option Elab.async false
set_option linter.all false
set_option maxRecDepth 100000
set_option maxHeartbeats 1600000
/-! Own layer: who keeps at a place on a day, in order of charge; who came and went. -/
namespace LT
open PySem PySem.Spec PyProof.Rows L2 NdefX
abbrev Chg3 := Int × Int × Str
def c3K (t : Chg3) : List V := [.int t.1, .int t.2.1, .str t.2.2]
def C3T (H : Hp) (t : Addr) (c : Chg3) : Prop := H t = some (.tup (c3K c))
theorem C3T.mono {H H' : Hp} {t : Addr} {c : Chg3} (h : C3T H t c) (s : Same H H') : C3T H' t c := s _ _ h
/-! ### charges -/
/-! ### names -/
open Classical in
noncomputable def srtN (ks : List Str) : List Str := if h : ∃ l : List Str, l.Perm ks ∧ sortedS l = true then Classical.choose h else ks
theorem srtN_eq {l ks : List Str} (hp : l.Perm ks) (hs : sortedS l = true) : l = srtN ks := by
  have e : ∃ l : List Str, l.Perm ks ∧ sortedS l = true := ⟨l, hp, hs⟩
  unfold srtN
  rw [dif_pos e]
  have k := Classical.choose_spec e
  exact sortS_uniq (hp.trans k.1.symm) hs k.2
theorem srtN_perm (ks : List Str) : (srtN ks).Perm ks := by
  unfold srtN
  by_cases e : ∃ l : List Str, l.Perm ks ∧ sortedS l = true
  · rw [dif_pos e]
    exact (Classical.choose_spec e).1
  · rw [dif_neg e]
noncomputable def whN (es : List Evt) (w : Str) (z : Str) (kn : Option Int) (d : Int) : Bool := decide (plE es w kn d = .str z)
noncomputable def namesF (ks : List Str) (es : List Evt) (z : Str) (d : Int) (kn : Option Int) : List Str := (srtN ks).filter fun w => whN es w z kn d
noncomputable def beforeF (ks : List Str) (es : List Evt) (z : Str) (d : Int) (kn : Option Int) : List Str := if d = 0 then [] else namesF ks es z (d - 1) kn
noncomputable def cameF (ks : List Str) (es : List Evt) (z : Str) (d : Int) (kn : Option Int) : List Str := (namesF ks es z d kn).filter fun w => !inV (.str w) ((beforeF ks es z d kn).map V.str)
noncomputable def wentF (ks : List Str) (es : List Evt) (z : Str) (d : Int) (kn : Option Int) : List Str := (beforeF ks es z d kn).filter fun w => !inV (.str w) ((namesF ks es z d kn).map V.str)
def spNm (F : List Str → List Evt → Str → Int → Option Int → List Str) (CB CH : Addr) : Sp := fun vs H Q _ => ∃ (b : Addr) (rk : List (Str × Int)) (es : List Evt) (fp : List Addr) (z : Str) (d : Int) (kn : Option Int), vs = [.ref b, .str z, .int d, knV kn] ∧ Bk CB CH H b rk es fp ∧ Pl z ∧ es.length ≤ 60 ∧ 0 ≤ d ∧ knOK kn ∧
  ∀ (l : Addr) (H' : Hp), H l = none → H' l = some (.lst ((F (rk.map (·.1)) es z d kn).map V.str)) → Same H H' → Q (.ref l) H'
noncomputable abbrev spNamesAt := spNm namesF
noncomputable abbrev spNamesBefore := spNm beforeF
noncomputable abbrev spCame := spNm cameF
noncomputable abbrev spWent := spNm wentF
theorem namesF_len {ks : List Str} {es : List Evt} {z : Str} {d : Int} {kn : Option Int} : (namesF ks es z d kn).length ≤ ks.length := by
  refine Nat.le_trans (List.length_filter_le _ _) ?_
  rw [(srtN_perm ks).length_eq]
  exact Nat.le_refl _
theorem beforeF_len {ks : List Str} {es : List Evt} {z : Str} {d : Int} {kn : Option Int} : (beforeF ks es z d kn).length ≤ ks.length := by
  unfold beforeF
  by_cases h : d = 0
  · rw [if_pos h]
    exact Nat.zero_le _
  · rw [if_neg h]
    exact namesF_len
/-- keeping of the names those that a list doesn't hold -/
theorem filter_snoc {p : Str → Bool} {l : List Str} {w : Str} : (l ++ [w]).filter p = l.filter p ++ if p w = true then [w] else [] := by
  rw [List.filter_append, List.filter_cons, List.filter_nil]
end LT
set_option Elab.async false
set_option linter.all false
set_option maxRecDepth 100000
set_option maxHeartbeats 1600000
set_option pp.maxSteps 300
namespace K80
open PySem PySem.Spec PyProof.Rows L2 LT NdefX
section
variable {P : Program} {w : World} {K : PySem.W.Frag} {mg : Str → Option Value} {base : Heap}
theorem sc_names_at : FnScope ["book", "place", "day", "known", "keeper"] ["book", "place", "day", "known"] (defScope s_names_at) := ⟨rfl, rfl, rfl, by decide +kernel, rfl, by decide +kernel, by decide +kernel⟩
theorem ok_names_at (D : All K P mg) : FnOk P w K mg base CX0 8 D.f_names_at D.d_names_at ["book", "place", "day", "known"] (spNamesAt D.C_Book D.C_History) := by
  refine D.h_names_at.fn.ok sc_names_at (fun vs H Q E h => ?_) (fun cdv A outer s H vs Q E hr h => ?_)
  · first | (obtain ⟨_, rfl, _⟩ := h; rfl) | (obtain ⟨_, _, rfl, _⟩ := h; rfl) | (obtain ⟨_, _, _, rfl, _⟩ := h; rfl) | (obtain ⟨_, _, _, _, rfl, _⟩ := h; rfl) | (obtain ⟨_, _, _, _, _, rfl, _⟩ := h; rfl) | (obtain ⟨_, _, _, _, _, _, rfl, _⟩ := h; rfl) | (obtain ⟨_, _, _, _, _, _, _, rfl, _⟩ := h; rfl) | (obtain ⟨_, _, _, _, _, _, _, _, rfl, _⟩ := h; rfl) | (obtain ⟨_, _, _, _, _, _, _, _, _, rfl, _⟩ := h; rfl) | (obtain ⟨_, _, _, _, _, _, _, _, _, _, rfl, _⟩ := h; rfl) | (obtain ⟨_, _, _, _, _, _, _, _, _, _, _, rfl, _⟩ := h; rfl) | (obtain ⟨_, _, _, _, _, _, _, _, _, _, _, _, rfl, _⟩ := h; rfl) | (obtain ⟨_, _, _, _, _, _, _, _, _, _, _, _, _, rfl, _⟩ := h; rfl) | (obtain ⟨_, _, _, _, _, _, _, _, _, _, _, _, _, _, rfl, _⟩ := h; rfl) | (obtain ⟨_, _, _, _, _, _, _, _, _, _, _, _, _, _, _, rfl, _⟩ := h; rfl)
  · have T := D.T
    have nd := sc_names_at.nd
    have hu := hr.units
    have hu1 := hu_of hr
    have hu0 := hr.units0
    obtain ⟨b, rk, es, fp, z, d, kn, rfl, W, hz, hl, h0, hk, q⟩ := h
    obtain ⟨_, v4_Book_where, b4_Book_where⟩ := D.q_Book_where.binds1 (ps := ["self", "keeper", "day", "known"]) 4 1 (by simp) (by rfl) (fun _ _ _ _ _ _ _ us its h1 h2 => match us, its, h1, h2 with | [_, _, _, _], [_], _, _ => ⟨_, rfl, rfl⟩)
    refine ⟨_, pss_one (ps_ret (pe_lc (own := [("keeper", 4)]) (g := gName 4) rfl nd (pi_list (pe_callB (call_sortedD rfl) (by rfl) T.sorted (by decide +kernel) (pa_cons (pe_meth0 (pv 0) D.Z_Book.cl D.h_Book_ranks.me (ok_Book_ranks D) (hr.mono (by decide)) D.h_Book_ranks.bd .nil pass0) pa_nil))) (blkOk_by (N := ["book", "place", "day", "known", "keeper"]) (sc := defScope s_names_at) (by decide +kernel)) (fun _ _ _ _ _ => (pg_name (i := 4) nd rfl (Or.inl rfl))) (fun _ _ _ _ _ => pts_one (pt_cmpR op_eq (pe_meth (pv 0) D.Z_Book.cl D.me_Book_where (ok_Book_where D) (hr.mono (by decide)) b4_Book_where v4_Book_where pass0 (pa_cons (pv 4) (pa_cons (pv 2) (pa_cons (pv 3) pa_nil)))) (pv 1) (nomark _))) (fun _ _ _ _ _ => (pv 4)))), ?_⟩
    have hrk := W.ev.1
    have ok := W.ev.2.2
    have evok := ok
    obtain ⟨dx, R, M, Lq, v, ix⟩ := W.ix
    refine ⟨_, rfl, b, dx, _, rfl, ix, rfl, b, rk, es, fp, rfl, W, fun r H1 nr er s1 => ?_⟩
    refine ⟨r, sd rk, rk.map (·.1), rfl, Rd.of er, sd_keys rk, by have := hrk.ln; rw [List.length_map]; omega, fun zs p hp hs np => ?_⟩
    have s2 := same_upd (o := .lst (zs.map V.str)) np
    have ep := upd_same (H := H1) (a := p) (o := .lst (zs.map V.str))
    generalize upd H1 p (.lst (zs.map V.str)) = H2 at *
    have s02 := s1.trans s2
    have zl : zs.length ≤ 30 := by
      have h1 := hp.length_eq
      have h2 := hrk.ln
      rw [List.length_map] at h1
      omega
    have ez : zs = srtN (rk.map (·.1)) := srtN_eq hp hs
    have qF : namesF (rk.map (·.1)) es z d kn = zs.filter fun w => whN es w z kn d := by rw [ez]; rfl
    rw [qF] at q
    refine ⟨p, rfl, ⟨_, SqL.of ep⟩, fun F nF => ?_⟩
    have nF0 : H F = none := s02.free nF
    refine lc_list (K := K) (a := p) (xs := zs.map V.str) (fun i H' => Same H2 H' ∧ H' F = some (.lst (((zs.take i).filter fun w => whN es w z kn d).map V.str))) ⟨same_upd nF, upd_same⟩ (fun i H' _ ⟨s, _⟩ => SqL.of (s _ _ ep)) ?_ ?_
    · rintro i x H3 hx ⟨s3, eF⟩
      rw [List.getElem?_map, Option.map_eq_some_iff] at hx
      obtain ⟨w', hw, rfl⟩ := hx
      have hwk : w' ∈ rk.map (·.1) := hp.mem_iff.mp (List.mem_of_getElem? hw)
      have W3 := W.mono (s02.trans s3)
      have il := (List.getElem?_eq_some_iff.mp hw).1
      obtain ⟨dx3, R3, M3, L3, v3, ix3⟩ := W3.ix
      refine ⟨rfl, _, rfl, b, dx3, _, rfl, ix3, rfl, _, rfl, _, rfl, _, rfl, b, rk, es, fp, w', d, kn, rfl, W3, hwk, hl, h0, hk, fun r4 H4 h4 s4 => ?_⟩
      obtain ⟨y4, ey4, _⟩ := where_str h4 evok
      have e4 : r4 = plE es w' kn d := plI_of (held_neg fun e he => (evok e he).d0) h0 h4
      have eF4 := s4 _ _ eF
      refine ⟨_, rfl, by rw [ey4]; rfl, _, rfl, ite2 (fun h => ?_) (fun h => ?_)⟩
      · have hz : whN es w' z kn d = true := by
          show decide (plE es w' kn d = .str z) = true
          rw [← e4]
          exact h
        refine ⟨_, rfl, _, eF4, ?_, same_put nF (s3.trans s4), ?_⟩
        · rw [List.length_map]
          have := List.length_filter_le (fun w => whN es w z kn d) (zs.take i)
          rw [List.length_take] at this
          exact small2k (by omega)
        · rw [upd_same, take_snoc hw, filter_snoc, if_pos hz, List.map_append]
          rfl
      · have hz : ¬ whN es w' z kn d = true := by
          show ¬ decide (plE es w' kn d = .str z) = true
          rw [← e4]
          exact h
        refine ⟨s3.trans s4, ?_⟩
        rw [eF4, take_snoc hw, filter_snoc, if_neg hz, List.append_nil]
    · rintro H3 ⟨s3, eF⟩
      rw [List.length_map, List.take_length] at eF
      exact q F H3 nF0 eF (s02.trans s3)
theorem sc_names_before : FnScope ["book", "place", "day", "known"] ["book", "place", "day", "known"] (defScope s_names_before) := ⟨rfl, rfl, rfl, by decide +kernel, rfl, by decide +kernel, by decide +kernel⟩
theorem ok_names_before (D : All K P mg) : FnOk P w K mg base CX0 9 D.f_names_before D.d_names_before ["book", "place", "day", "known"] (spNamesBefore D.C_Book D.C_History) := by
  refine D.h_names_before.fn.ok sc_names_before (fun vs H Q E h => ?_) (fun cdv A outer s H vs Q E hr h => ?_)
  · first | (obtain ⟨_, rfl, _⟩ := h; rfl) | (obtain ⟨_, _, rfl, _⟩ := h; rfl) | (obtain ⟨_, _, _, rfl, _⟩ := h; rfl) | (obtain ⟨_, _, _, _, rfl, _⟩ := h; rfl) | (obtain ⟨_, _, _, _, _, rfl, _⟩ := h; rfl) | (obtain ⟨_, _, _, _, _, _, rfl, _⟩ := h; rfl) | (obtain ⟨_, _, _, _, _, _, _, rfl, _⟩ := h; rfl) | (obtain ⟨_, _, _, _, _, _, _, _, rfl, _⟩ := h; rfl) | (obtain ⟨_, _, _, _, _, _, _, _, _, rfl, _⟩ := h; rfl) | (obtain ⟨_, _, _, _, _, _, _, _, _, _, rfl, _⟩ := h; rfl) | (obtain ⟨_, _, _, _, _, _, _, _, _, _, _, rfl, _⟩ := h; rfl) | (obtain ⟨_, _, _, _, _, _, _, _, _, _, _, _, rfl, _⟩ := h; rfl) | (obtain ⟨_, _, _, _, _, _, _, _, _, _, _, _, _, rfl, _⟩ := h; rfl) | (obtain ⟨_, _, _, _, _, _, _, _, _, _, _, _, _, _, rfl, _⟩ := h; rfl) | (obtain ⟨_, _, _, _, _, _, _, _, _, _, _, _, _, _, _, rfl, _⟩ := h; rfl)
  · have T := D.T
    have nd := sc_names_before.nd
    have hu := hr.units
    have hu1 := hu_of hr
    have hu0 := hr.units0
    obtain ⟨b, rk, es, fp, z, d, kn, rfl, W, hz, hl, h0, hk, q⟩ := h
    refine ⟨_, pss_one (ps_ret (pe_ifExp (pt_cmpR op_eq (pv 2) pe_int (nomark _)) (pe_lst pa_nil) (pe_call (ok_names_at D) (hr.mono (by decide)) (by rfl) D.h_names_at.gl D.h_names_at.fn.kp D.h_names_at.bd .nil pass0 (pa_cons (pv 0) (pa_cons (pv 1) (pa_cons (pe_op op_sub (pv 2) pe_int) (pa_cons (pv 3) pa_nil))))))), ?_⟩
    refine ⟨_, rfl, rfl, _, rfl, ite2 (fun h => ?_) (fun h => ?_)⟩
    · have hd : d = 0 := by
        have h := of_decide_eq_true h
        exact V.int.inj h
      refine ⟨by show 0 ≤ sizeLine; decide, fun F nF => ?_⟩
      refine q F _ nF ?_ (same_upd nF)
      rw [upd_same]
      unfold beforeF
      rw [if_pos hd]
      rfl
    · have hd : ¬ d = 0 := fun e => h (decide_eq_true (by rw [e]))
      refine ⟨_, rfl, _, rfl, _, rfl, _, 1, rfl, rfl, _, rfl, b, rk, es, fp, z, d - 1, kn, rfl, W, hz, hl, by omega, hk, fun l H' nl el s => ?_⟩
      refine q l H' nl ?_ s
      unfold beforeF
      rw [if_neg hd]
      exact el
theorem sc_came : FnScope ["book", "place", "day", "known", "before", "keeper"] ["book", "place", "day", "known"] (defScope s_came) := ⟨rfl, rfl, rfl, by decide +kernel, rfl, by decide +kernel, by decide +kernel⟩
theorem ok_came (D : All K P mg) : FnOk P w K mg base CX0 10 D.f_came D.d_came ["book", "place", "day", "known"] (spCame D.C_Book D.C_History) := by
  refine D.q_came.ok sc_came (fun vs H Q E h => ?_) (fun cdv A outer s H vs Q E hr h => ?_)
  · first | (obtain ⟨_, rfl, _⟩ := h; rfl) | (obtain ⟨_, _, rfl, _⟩ := h; rfl) | (obtain ⟨_, _, _, rfl, _⟩ := h; rfl) | (obtain ⟨_, _, _, _, rfl, _⟩ := h; rfl) | (obtain ⟨_, _, _, _, _, rfl, _⟩ := h; rfl) | (obtain ⟨_, _, _, _, _, _, rfl, _⟩ := h; rfl) | (obtain ⟨_, _, _, _, _, _, _, rfl, _⟩ := h; rfl) | (obtain ⟨_, _, _, _, _, _, _, _, rfl, _⟩ := h; rfl) | (obtain ⟨_, _, _, _, _, _, _, _, _, rfl, _⟩ := h; rfl) | (obtain ⟨_, _, _, _, _, _, _, _, _, _, rfl, _⟩ := h; rfl) | (obtain ⟨_, _, _, _, _, _, _, _, _, _, _, rfl, _⟩ := h; rfl) | (obtain ⟨_, _, _, _, _, _, _, _, _, _, _, _, rfl, _⟩ := h; rfl) | (obtain ⟨_, _, _, _, _, _, _, _, _, _, _, _, _, rfl, _⟩ := h; rfl) | (obtain ⟨_, _, _, _, _, _, _, _, _, _, _, _, _, _, rfl, _⟩ := h; rfl) | (obtain ⟨_, _, _, _, _, _, _, _, _, _, _, _, _, _, _, rfl, _⟩ := h; rfl)
  · have T := D.T
    have nd := sc_came.nd
    have hu := hr.units
    have hu1 := hu_of hr
    have hu0 := hr.units0
    obtain ⟨b, rk, es, fp, z, d, kn, rfl, W, hz, hl, h0, hk, q⟩ := h
    refine ⟨_, pss_cons (ps_expr (pe_call (ok_check_place D) (hr.mono (by decide)) (by rfl) D.h_check_place.gl D.h_check_place.fn.kp D.h_check_place.bd .nil pass0 (pa_cons (pv 1) pa_nil)))
      (pss_cons (ps_expr (pe_call (ok_check_days D) (hr.mono (by decide)) (by rfl) D.h_check_days.gl D.h_check_days.fn.kp D.h_check_days.bd .nil pass0 (pa_cons (pv 2) (pa_cons (pv 3) pa_nil))))
      (pss_cons (ps_set (i := 4) nd rfl (.inr rfl) (pe_call (ok_names_before D) (hr.mono (by decide)) (by rfl) D.h_names_before.gl D.h_names_before.fn.kp D.h_names_before.bd .nil pass0 (pa_cons (pv 0) (pa_cons (pv 1) (pa_cons (pv 2) (pa_cons (pv 3) pa_nil))))))
      (pss_one (ps_ret (pe_lc (own := [("keeper", 5)]) (g := gName 5) rfl nd (pi_list (pe_call (ok_names_at D) (hr.mono (by decide)) (by rfl) D.h_names_at.gl D.h_names_at.fn.kp D.h_names_at.bd .nil pass0 (pa_cons (pv 0) (pa_cons (pv 1) (pa_cons (pv 2) (pa_cons (pv 3) pa_nil)))))) (blkOk_by (N := ["book", "place", "day", "known", "before", "keeper"]) (sc := defScope s_came) (by decide +kernel)) (fun _ _ _ _ _ => (pg_name (i := 5) nd rfl (Or.inl rfl))) (fun _ _ _ _ _ => pts_one (pt_cmpR (show OpR _ (compareOp .NotIn) (rIn K true) from op_notIn_seq) (pv 5) (pv 4) (by rfl))) (fun _ _ _ _ _ => (pv 5))))))), ?_⟩
    have hrk := W.ev.1
    refine ⟨_, rfl, z, rfl, hz, fun H1 s1 => ?_⟩
    refine ⟨_, rfl, _, rfl, d, kn, rfl, h0, hk, ?_⟩
    refine ⟨_, rfl, _, rfl, _, rfl, _, rfl, b, rk, es, fp, z, d, kn, rfl, W.mono s1, hz, hl, h0, hk, fun B H2 nB eB s2 => ?_⟩
    have s02 := s1.trans s2
    refine ⟨_, rfl, _, rfl, _, rfl, _, rfl, b, rk, es, fp, z, d, kn, rfl, W.mono s02, hz, hl, h0, hk, fun N H3 nN eN s3 => ?_⟩
    have s03 := s02.trans s3
    refine ⟨N, rfl, ⟨_, SqL.of eN⟩, fun F nF => ?_⟩
    have nF0 : H F = none := s03.free nF
    have eB3 := s3 _ _ eB
    have n30 : (namesF (rk.map (·.1)) es z d kn).length ≤ 30 := by
      have h1 := namesF_len (ks := rk.map (·.1)) (es := es) (z := z) (d := d) (kn := kn)
      have h2 := hrk.ln
      rw [List.length_map] at h1
      omega
    refine lc_list (K := K) (a := N) (xs := (namesF (rk.map (·.1)) es z d kn).map V.str) (fun i H' => Same H3 H' ∧ H' F = some (.lst (((((namesF (rk.map (·.1)) es z d kn).take i).filter fun w => !inV (.str w) ((beforeF (rk.map (·.1)) es z d kn).map V.str))).map V.str))) ⟨same_upd nF, upd_same⟩ (fun i H' _ ⟨s, _⟩ => SqL.of (s _ _ eN)) ?_ ?_
    · rintro i x H4 hx ⟨s4, eF⟩
      rw [List.getElem?_map, Option.map_eq_some_iff] at hx
      obtain ⟨w', hw, rfl⟩ := hx
      have il := (List.getElem?_eq_some_iff.mp hw).1
      refine ⟨rfl, _, rfl, _, rfl, B, _, rfl, .inl (SqL.of (s4 _ _ eB3)), rfl, flat_strs _, _, rfl, ite2 (fun h => ?_) (fun h => ?_)⟩
      · have h : (!inV (.str w') ((beforeF (rk.map (·.1)) es z d kn).map V.str)) = true := h
        refine ⟨_, rfl, _, eF, ?_, same_put nF s4, ?_⟩
        · rw [List.length_map]
          have h1 := List.length_filter_le (fun w => !inV (.str w) ((beforeF (rk.map (·.1)) es z d kn).map V.str)) ((namesF (rk.map (·.1)) es z d kn).take i)
          rw [List.length_take] at h1
          exact small2k (by omega)
        · rw [upd_same, take_snoc hw, filter_snoc, if_pos h, List.map_append]
          rfl
      · have h : ¬ (!inV (.str w') ((beforeF (rk.map (·.1)) es z d kn).map V.str)) = true := h
        refine ⟨s4, ?_⟩
        rw [eF, take_snoc hw, filter_snoc, if_neg h, List.append_nil]
    · rintro H4 ⟨s4, eF⟩
      rw [List.length_map, List.take_length] at eF
      exact q F H4 nF0 eF (s03.trans s4)
theorem sc_went : FnScope ["book", "place", "day", "known", "now", "keeper"] ["book", "place", "day", "known"] (defScope s_went) := ⟨rfl, rfl, rfl, by decide +kernel, rfl, by decide +kernel, by decide +kernel⟩
theorem ok_went (D : All K P mg) : FnOk P w K mg base CX0 10 D.f_went D.d_went ["book", "place", "day", "known"] (spWent D.C_Book D.C_History) := by
  refine D.q_went.ok sc_went (fun vs H Q E h => ?_) (fun cdv A outer s H vs Q E hr h => ?_)
  · first | (obtain ⟨_, rfl, _⟩ := h; rfl) | (obtain ⟨_, _, rfl, _⟩ := h; rfl) | (obtain ⟨_, _, _, rfl, _⟩ := h; rfl) | (obtain ⟨_, _, _, _, rfl, _⟩ := h; rfl) | (obtain ⟨_, _, _, _, _, rfl, _⟩ := h; rfl) | (obtain ⟨_, _, _, _, _, _, rfl, _⟩ := h; rfl) | (obtain ⟨_, _, _, _, _, _, _, rfl, _⟩ := h; rfl) | (obtain ⟨_, _, _, _, _, _, _, _, rfl, _⟩ := h; rfl) | (obtain ⟨_, _, _, _, _, _, _, _, _, rfl, _⟩ := h; rfl) | (obtain ⟨_, _, _, _, _, _, _, _, _, _, rfl, _⟩ := h; rfl) | (obtain ⟨_, _, _, _, _, _, _, _, _, _, _, rfl, _⟩ := h; rfl) | (obtain ⟨_, _, _, _, _, _, _, _, _, _, _, _, rfl, _⟩ := h; rfl) | (obtain ⟨_, _, _, _, _, _, _, _, _, _, _, _, _, rfl, _⟩ := h; rfl) | (obtain ⟨_, _, _, _, _, _, _, _, _, _, _, _, _, _, rfl, _⟩ := h; rfl) | (obtain ⟨_, _, _, _, _, _, _, _, _, _, _, _, _, _, _, rfl, _⟩ := h; rfl)
  · have T := D.T
    have nd := sc_went.nd
    have hu := hr.units
    have hu1 := hu_of hr
    have hu0 := hr.units0
    obtain ⟨b, rk, es, fp, z, d, kn, rfl, W, hz, hl, h0, hk, q⟩ := h
    refine ⟨_, pss_cons (ps_expr (pe_call (ok_check_place D) (hr.mono (by decide)) (by rfl) D.h_check_place.gl D.h_check_place.fn.kp D.h_check_place.bd .nil pass0 (pa_cons (pv 1) pa_nil)))
      (pss_cons (ps_expr (pe_call (ok_check_days D) (hr.mono (by decide)) (by rfl) D.h_check_days.gl D.h_check_days.fn.kp D.h_check_days.bd .nil pass0 (pa_cons (pv 2) (pa_cons (pv 3) pa_nil))))
      (pss_cons (ps_set (i := 4) nd rfl (.inr rfl) (pe_call (ok_names_at D) (hr.mono (by decide)) (by rfl) D.h_names_at.gl D.h_names_at.fn.kp D.h_names_at.bd .nil pass0 (pa_cons (pv 0) (pa_cons (pv 1) (pa_cons (pv 2) (pa_cons (pv 3) pa_nil))))))
      (pss_one (ps_ret (pe_lc (own := [("keeper", 5)]) (g := gName 5) rfl nd (pi_list (pe_call (ok_names_before D) (hr.mono (by decide)) (by rfl) D.h_names_before.gl D.h_names_before.fn.kp D.h_names_before.bd .nil pass0 (pa_cons (pv 0) (pa_cons (pv 1) (pa_cons (pv 2) (pa_cons (pv 3) pa_nil)))))) (blkOk_by (N := ["book", "place", "day", "known", "now", "keeper"]) (sc := defScope s_went) (by decide +kernel)) (fun _ _ _ _ _ => (pg_name (i := 5) nd rfl (Or.inl rfl))) (fun _ _ _ _ _ => pts_one (pt_cmpR (show OpR _ (compareOp .NotIn) (rIn K true) from op_notIn_seq) (pv 5) (pv 4) (by rfl))) (fun _ _ _ _ _ => (pv 5))))))), ?_⟩
    have hrk := W.ev.1
    refine ⟨_, rfl, z, rfl, hz, fun H1 s1 => ?_⟩
    refine ⟨_, rfl, _, rfl, d, kn, rfl, h0, hk, ?_⟩
    refine ⟨_, rfl, _, rfl, _, rfl, _, rfl, b, rk, es, fp, z, d, kn, rfl, W.mono s1, hz, hl, h0, hk, fun B H2 nB eB s2 => ?_⟩
    have s02 := s1.trans s2
    refine ⟨_, rfl, _, rfl, _, rfl, _, rfl, b, rk, es, fp, z, d, kn, rfl, W.mono s02, hz, hl, h0, hk, fun N H3 nN eN s3 => ?_⟩
    have s03 := s02.trans s3
    refine ⟨N, rfl, ⟨_, SqL.of eN⟩, fun F nF => ?_⟩
    have nF0 : H F = none := s03.free nF
    have eB3 := s3 _ _ eB
    have n30 : (beforeF (rk.map (·.1)) es z d kn).length ≤ 30 := by
      have h1 := beforeF_len (ks := rk.map (·.1)) (es := es) (z := z) (d := d) (kn := kn)
      have h2 := hrk.ln
      rw [List.length_map] at h1
      omega
    refine lc_list (K := K) (a := N) (xs := (beforeF (rk.map (·.1)) es z d kn).map V.str) (fun i H' => Same H3 H' ∧ H' F = some (.lst (((((beforeF (rk.map (·.1)) es z d kn).take i).filter fun w => !inV (.str w) ((namesF (rk.map (·.1)) es z d kn).map V.str))).map V.str))) ⟨same_upd nF, upd_same⟩ (fun i H' _ ⟨s, _⟩ => SqL.of (s _ _ eN)) ?_ ?_
    · rintro i x H4 hx ⟨s4, eF⟩
      rw [List.getElem?_map, Option.map_eq_some_iff] at hx
      obtain ⟨w', hw, rfl⟩ := hx
      have il := (List.getElem?_eq_some_iff.mp hw).1
      refine ⟨rfl, _, rfl, _, rfl, B, _, rfl, .inl (SqL.of (s4 _ _ eB3)), rfl, flat_strs _, _, rfl, ite2 (fun h => ?_) (fun h => ?_)⟩
      · have h : (!inV (.str w') ((namesF (rk.map (·.1)) es z d kn).map V.str)) = true := h
        refine ⟨_, rfl, _, eF, ?_, same_put nF s4, ?_⟩
        · rw [List.length_map]
          have h1 := List.length_filter_le (fun w => !inV (.str w) ((namesF (rk.map (·.1)) es z d kn).map V.str)) ((beforeF (rk.map (·.1)) es z d kn).take i)
          rw [List.length_take] at h1
          exact small2k (by omega)
        · rw [upd_same, take_snoc hw, filter_snoc, if_pos h, List.map_append]
          rfl
      · have h : ¬ (!inV (.str w') ((namesF (rk.map (·.1)) es z d kn).map V.str)) = true := h
        refine ⟨s4, ?_⟩
        rw [eF, take_snoc hw, filter_snoc, if_neg h, List.append_nil]
    · rintro H4 ⟨s4, eF⟩
      rw [List.length_map, List.take_length] at eF
      exact q F H4 nF0 eF (s03.trans s4)
end
end K80
set_option Elab.async false
set_option linter.all false
set_option maxRecDepth 100000
set_option maxHeartbeats 1600000
/-! Own layer: what many looks show, as texts. -/
namespace LT
open PySem PySem.Spec PyProof.Rows L2 NdefX
/-- a thing in the list at F shows so -/
def It (CS : Addr) (H : Hp) (F : Addr) (v : V) (t : Str) : Prop := ∃ as, ShV CS (spSRepr CS) H 4 as v t ∧ F ∉ as ∧ t.length ≤ 1100000
/-- ten such -/
theorem its_all {CS : Addr} {H : Hp} {F : Addr} : ∀ {vs : List V} {ts : List Str}, Paired (It CS H F) vs ts → ∃ as, F ∉ as ∧ ∀ (i : Nat) (v : V) (t : Str), vs[i]? = some v → ts[i]? = some t → ShV CS (spSRepr CS) H 4 as v t
  | _, _, .nil => ⟨[], nofun, fun i v t h => by simp at h⟩
  | _, _, .cons ⟨as, h, n, _⟩ r => by
    obtain ⟨bs, n2, h2⟩ := its_all r
    refine ⟨as ++ bs, fun hm => (List.mem_append.mp hm).elim n n2, fun i v t hv ht => ?_⟩
    match i, hv, ht with
    | 0, hv, ht =>
      cases hv
      cases ht
      exact .more h (Nat.le_refl _) fun a ha => List.mem_append_left _ ha
    | i + 1, hv, ht => exact .more (h2 i v t hv ht) (Nat.le_refl _) fun a ha => List.mem_append_right _ ha
theorem its_size {CS : Addr} {H : Hp} {F : Addr} {vs : List V} {ts : List Str} (h : Paired (It CS H F) vs ts) (hl : vs.length ≤ 10) : (listText ts).length ≤ sizeLine := by
  have all : ∀ t ∈ ts, t.length ≤ 1100000 := by
    clear hl
    induction h with
    | nil => nofun
    | cons a _ ih =>
      intro t ht
      rcases List.mem_cons.mp ht with rfl | ht
      · obtain ⟨_, _, _, k⟩ := a
        exact k
      · exact ih t ht
  have e : vs.length = ts.length := Paired.length h
  have h1 := listText_le ts
  have h2 := piled_le 1100000 ts all
  have h3 : (1100000 + 2) * ts.length ≤ (1100000 + 2) * 10 := Nat.mul_le_mul_left _ (by omega)
  rw [sizeLine_eq]
  omega
end LT
set_option Elab.async false
set_option linter.all false
set_option maxRecDepth 100000
set_option maxHeartbeats 1600000
/-! Own layer: a boat beside a book; landing. -/
namespace LT
open PySem PySem.Spec PyProof.Rows L2 NdefX
structure BtL (C : Addr) (H : Hp) (x : Addr) (s c m : Int) : Prop where
  at_ : ∃ dx, H x = some (.ins C dx [("many_seats", .int s), ("most_weight", .int c), ("man_weight", .int m)])
  s1 : 1 ≤ s
  c1 : 1 ≤ c
  m1 : 1 ≤ m
  s2 : s ≤ 10 ^ 60
  c2 : c ≤ 10 ^ 60
  m2 : m ≤ 10 ^ 60
theorem BtL.mono {C : Addr} {H H' : Hp} {x : Addr} {s c m : Int} (h : BtL C H x s c m) (e : Same H H') : BtL C H' x s c m := by
  obtain ⟨⟨dx, h1⟩, a, b, c, d, e', f⟩ := h
  exact ⟨⟨dx, e _ _ h1⟩, a, b, c, d, e', f⟩
def spBtInit (C : Addr) : Sp := fun vs H Q _ => ∃ (x dx : Addr) (s c m : Int), vs = [.ref x, .int s, .int c, .int m] ∧ H x = some (.ins C dx []) ∧ 1 ≤ s ∧ 1 ≤ c ∧ 1 ≤ m ∧ Q .non (upd H x (.ins C dx [("many_seats", .int s), ("most_weight", .int c), ("man_weight", .int m)]))
def btSel : Nat → Int → Int → Int → Int
  | 0, s, _, _ => s
  | 1, _, c, _ => c
  | _, _, _, m => m
def spBtGet (C : Addr) (g : Nat) : Sp := fun vs H Q _ => ∃ (x : Addr) (s c m v : Int), vs = [.ref x] ∧ BtL C H x s c m ∧ v = btSel g s c m ∧ Q (.int v) H
def roomL (s c m : Int) : Int := if c / m < s then c / m else s
def partsL (m k : Int) : Int := (m + k - 1) / k
def maxL (a b : Int) : Int := if b > a then b else a
def fewL (s c m o b k : Int) : Int := if o = 0 ∧ b = 0 then partsL (o * m + k) c else maxL (partsL (maxL o b) (roomL s c m)) (partsL (o * m + k) c)
def spPartsL : Sp := fun vs H Q _ => ∃ m k : Int, vs = [.int m, .int k] ∧ 0 < k ∧ k.natAbs ≤ 10 ^ 62 ∧ Q (.int (partsL m k)) H
def spRoomL (C : Addr) : Sp := fun vs H Q _ => ∃ (x : Addr) (s c m : Int), vs = [.ref x] ∧ BtL C H x s c m ∧ Q (.int (roomL s c m)) H
def spWtL (C : Addr) : Sp := fun vs H Q _ => ∃ (x d : Addr) (s c m o : Int) (kvs : List (Str × Int)), vs = [.ref x, .int o, .ref d] ∧ BtL C H x s c m ∧ 0 ≤ o ∧ o ≤ 10 ^ 60 ∧ H d = some (.dK (sd kvs)) ∧ Q (.int (o * m + wsum kvs)) H
def spStoL : Sp := fun vs H Q _ => ∃ (d : Addr) (kvs : List (Str × Int)), vs = [.ref d] ∧ H d = some (.dK (sd kvs)) ∧ Kv kvs ∧ kvs.length ≤ 8 ∧ ∀ H', Same H H' → Q (.bl true) H'
def spCwL : Sp := fun vs H Q _ => ∃ (o b : Int) (d : Addr) (kvs : List (Str × Int)), vs = [.int o, .int b, .ref d] ∧ 0 ≤ o ∧ 0 ≤ b ∧ H d = some (.dK (sd kvs)) ∧ Kv kvs ∧ kvs.length ≤ 8 ∧ ∀ H', Same H H' → Q .non H'
def spFewL (C : Addr) : Sp := fun vs H Q _ => ∃ (x d : Addr) (s c m o b : Int) (kvs : List (Str × Int)), vs = [.ref x, .int o, .int b, .ref d] ∧ BtL C H x s c m ∧ 1 ≤ roomL s c m ∧ 0 ≤ o ∧ o ≤ 10 ^ 60 ∧ 0 ≤ b ∧ b ≤ 10 ^ 60 ∧ H d = some (.dK (sd kvs)) ∧ Kv kvs ∧ kvs.length ≤ 8 ∧ ∀ H', Same H H' → Q (.int (fewL s c m o b (wsum kvs))) H'
theorem roomL_le {s c m : Int} : roomL s c m ≤ s := by
  unfold roomL
  split <;> omega
theorem partsL_bd {m k : Int} (h0 : 0 ≤ m) (h1 : 1 ≤ k) : 0 ≤ partsL m k ∧ partsL m k ≤ m + k := by
  unfold partsL
  have a := Int.ediv_nonneg (show 0 ≤ m + k - 1 by omega) (show 0 ≤ k by omega)
  have b := Int.ediv_le_self k (show 0 ≤ m + k - 1 by omega)
  omega
theorem fewL_big {s c m o b k : Int} (hc : 1 ≤ c) (hc2 : c ≤ 10 ^ 60) (hm : 1 ≤ m) (hm2 : m ≤ 10 ^ 60) (hs2 : s ≤ 10 ^ 60) (r : 1 ≤ roomL s c m) (o0 : 0 ≤ o) (o1 : o ≤ 1860) (b0 : 0 ≤ b) (b1 : b ≤ 1860) (k0 : 0 ≤ k) (k1 : k < 10 ^ 57) : (fewL s c m o b k).natAbs ≤ 10 ^ 220 := by
  have om := Int.mul_nonneg o0 (show 0 ≤ m by omega)
  have om2 : o * m ≤ 1860 * m := Int.mul_le_mul_of_nonneg_right o1 (by omega)
  obtain ⟨p0, p1⟩ := partsL_bd (m := o * m + k) (k := c) (by omega) hc
  have mx : 0 ≤ maxL o b ∧ maxL o b ≤ 1860 := by unfold maxL; split <;> omega
  obtain ⟨q0, q1⟩ := partsL_bd (m := maxL o b) (k := roomL s c m) mx.1 r
  have := roomL_le (s := s) (c := c) (m := m)
  unfold fewL
  split
  · omega
  · generalize partsL (o * m + k) c = x at *
    generalize partsL (maxL o b) (roomL s c m) = y at *
    unfold maxL
    split <;> omega
theorem BtL.B {C : Addr} {H H' : Hp} {x p : Addr} {s c m : Int} (h : BtL C H x s c m) (hp : Pot H p) (e : SameB p H H') : BtL C H' x s c m := by
  obtain ⟨⟨dx, h1⟩, a, b, c, d, e', f⟩ := h
  refine ⟨⟨dx, e _ _ (fun z => ?_) h1⟩, a, b, c, d, e', f⟩
  obtain ⟨u, v, k, _⟩ := hp
  rw [z, k] at h1
  cases h1
/-- what is landed, as a number -/
def landI (es : List Evt) (z : Str) (kn : Option Int) (d : Int) : Int := numI ((heldO es false z kn d).getD (.int 0))
noncomputable def outI (es : List Evt) (ks : List Str) (z : Str) (d : Int) (kn : Option Int) : Int := ((cameF ks es z d kn).length : Nat)
noncomputable def backI (es : List Evt) (ks : List Str) (z : Str) (d : Int) (kn : Option Int) : Int := ((wentF ks es z d kn).length : Nat)
noncomputable def fewI (s c m : Int) (es : List Evt) (ks : List Str) (z : Str) (d : Int) (kn : Option Int) : Int := fewL s c m (outI es ks z d kn) (backI es ks z d kn) (landI es z kn d)
def spLanding (CB CH CT : Addr) : Sp := fun vs H Q _ => ∃ (b x : Addr) (rk : List (Str × Int)) (es : List Evt) (fp : List Addr) (s c m : Int) (z : Str) (d : Int) (kn : Option Int), vs = [.ref b, .ref x, .str z, .int d, knV kn] ∧ Bk CB CH H b rk es fp ∧ BtL CT H x s c m ∧ 1 ≤ roomL s c m ∧ Nm z ∧ es.length ≤ 60 ∧ 0 ≤ d ∧ knOK kn ∧
  ∀ (t : Addr) (H' : Hp), (∀ n ∈ [outI es (rk.map (·.1)) z d kn, landI es z kn d, backI es (rk.map (·.1)) z d kn, fewI s c m es (rk.map (·.1)) z d kn], n.natAbs ≤ 10 ^ 220) → H t = none → H' t = some (.tup [.int (outI es (rk.map (·.1)) z d kn), .int (landI es z kn d), .int (backI es (rk.map (·.1)) z d kn), .int (fewI s c m es (rk.map (·.1)) z d kn)]) → Same H H' → Q (.ref t) H'
end LT
set_option Elab.async false
set_option linter.all false
set_option maxRecDepth 100000
set_option maxHeartbeats 1600000
set_option pp.maxSteps 300
namespace K80
open PySem PySem.Spec PyProof.Rows L2 LT NdefX
section
variable {P : Program} {w : World} {K : PySem.W.Frag} {mg : Str → Option Value} {base : Heap}
theorem sc_Boat___init__ : FnScope ["self", "seats", "carries", "man"] ["self", "seats", "carries", "man"] (defScope s_Boat___init__) := ⟨rfl, rfl, rfl, by decide +kernel, rfl, by decide +kernel, by decide +kernel⟩
theorem ok_Boat___init__ (D : All K P mg) : FnOk P w K mg base CX0 4 D.f_Boat___init__ D.d_Boat___init__ ["self", "seats", "carries", "man"] (spBtInit D.C_Boat) := by
  refine D.h_Boat___init__.fn.ok sc_Boat___init__ (fun vs H Q E h => ?_) (fun cdv A outer s H vs Q E hr h => ?_)
  · first | (obtain ⟨_, rfl, _⟩ := h; rfl) | (obtain ⟨_, _, rfl, _⟩ := h; rfl) | (obtain ⟨_, _, _, rfl, _⟩ := h; rfl) | (obtain ⟨_, _, _, _, rfl, _⟩ := h; rfl) | (obtain ⟨_, _, _, _, _, rfl, _⟩ := h; rfl) | (obtain ⟨_, _, _, _, _, _, rfl, _⟩ := h; rfl) | (obtain ⟨_, _, _, _, _, _, _, rfl, _⟩ := h; rfl) | (obtain ⟨_, _, _, _, _, _, _, _, rfl, _⟩ := h; rfl) | (obtain ⟨_, _, _, _, _, _, _, _, _, rfl, _⟩ := h; rfl) | (obtain ⟨_, _, _, _, _, _, _, _, _, _, rfl, _⟩ := h; rfl) | (obtain ⟨_, _, _, _, _, _, _, _, _, _, _, rfl, _⟩ := h; rfl) | (obtain ⟨_, _, _, _, _, _, _, _, _, _, _, _, rfl, _⟩ := h; rfl) | (obtain ⟨_, _, _, _, _, _, _, _, _, _, _, _, _, rfl, _⟩ := h; rfl) | (obtain ⟨_, _, _, _, _, _, _, _, _, _, _, _, _, _, rfl, _⟩ := h; rfl) | (obtain ⟨_, _, _, _, _, _, _, _, _, _, _, _, _, _, _, rfl, _⟩ := h; rfl)
  · have T := D.T
    have nd := sc_Boat___init__.nd
    have hu := hr.units
    have hu1 := hu_of hr
    have hu0 := hr.units0
    obtain ⟨x, dx, s, c, m, rfl, hx, hs, hc, hm, q⟩ := h
    refine ⟨_, pss_cons (ps_if (pt_not (pt_val (pe_call (ok_is_from D) (hr.mono (by decide)) (by rfl) D.h_is_from.gl D.h_is_from.fn.kp D.h_is_from.bd .nil pass0 (pa_cons (pv 1) (pa_cons pe_int pa_nil))))) (pss_one ps_never) pss_nil)
      (pss_cons (ps_if (pt_not (pt_val (pe_call (ok_is_from D) (hr.mono (by decide)) (by rfl) D.h_is_from.gl D.h_is_from.fn.kp D.h_is_from.bd .nil pass0 (pa_cons (pv 2) (pa_cons pe_int pa_nil))))) (pss_one ps_never) pss_nil)
      (pss_cons (ps_if (pt_not (pt_val (pe_call (ok_is_from D) (hr.mono (by decide)) (by rfl) D.h_is_from.gl D.h_is_from.fn.kp D.h_is_from.bd .nil pass0 (pa_cons (pv 3) (pa_cons pe_int pa_nil))))) (pss_one ps_never) pss_nil)
      (pss_cons (ps_fld (pv 0) (pv 1) rfl)
      (pss_cons (ps_fld (pv 0) (pv 2) rfl)
      (pss_one (ps_fld (pv 0) (pv 3) rfl)))))), ?_⟩
    refine ⟨_, rfl, .int s, 1, rfl, .int s, _, rfl, ?_⟩
    rw [show fromB (.int s) 1 = true from decide_eq_true hs]
    refine ⟨_, rfl, .int c, 1, rfl, .int c, _, rfl, ?_⟩
    rw [show fromB (.int c) 1 = true from decide_eq_true hc]
    refine ⟨_, rfl, .int m, 1, rfl, .int m, _, rfl, ?_⟩
    rw [show fromB (.int m) 1 = true from decide_eq_true hm]
    refine ⟨_, rfl, _, rfl, x, _, dx, _, rfl, hx, D.Z_Boat.cl, D.n_Boat_many_seats, (by decide), ?_⟩
    refine ⟨_, rfl, _, rfl, x, _, dx, _, rfl, upd_same, D.Z_Boat.cl, D.n_Boat_most_weight, (by show 1 < 1000; decide), ?_⟩
    refine ⟨_, rfl, _, rfl, x, _, dx, _, rfl, upd_same, D.Z_Boat.cl, D.n_Boat_man_weight, (by show 2 < 1000; decide), ?_⟩
    rw [upd_upd, upd_upd]
    exact q
theorem sc_Boat_seats : FnScope ["self"] ["self"] (defScope s_Boat_seats) := ⟨rfl, rfl, rfl, by decide +kernel, rfl, by decide +kernel, by decide +kernel⟩
theorem ok_Boat_seats (D : All K P mg) : FnOk P w K mg base CX0 1 D.f_Boat_seats D.d_Boat_seats ["self"] (spBtGet D.C_Boat 0) := by
  refine D.h_Boat_seats.fn.ok sc_Boat_seats (fun vs H Q E h => ?_) (fun cdv A outer s H vs Q E hr h => ?_)
  · first | (obtain ⟨_, rfl, _⟩ := h; rfl) | (obtain ⟨_, _, rfl, _⟩ := h; rfl) | (obtain ⟨_, _, _, rfl, _⟩ := h; rfl) | (obtain ⟨_, _, _, _, rfl, _⟩ := h; rfl) | (obtain ⟨_, _, _, _, _, rfl, _⟩ := h; rfl) | (obtain ⟨_, _, _, _, _, _, rfl, _⟩ := h; rfl) | (obtain ⟨_, _, _, _, _, _, _, rfl, _⟩ := h; rfl) | (obtain ⟨_, _, _, _, _, _, _, _, rfl, _⟩ := h; rfl) | (obtain ⟨_, _, _, _, _, _, _, _, _, rfl, _⟩ := h; rfl) | (obtain ⟨_, _, _, _, _, _, _, _, _, _, rfl, _⟩ := h; rfl) | (obtain ⟨_, _, _, _, _, _, _, _, _, _, _, rfl, _⟩ := h; rfl) | (obtain ⟨_, _, _, _, _, _, _, _, _, _, _, _, rfl, _⟩ := h; rfl) | (obtain ⟨_, _, _, _, _, _, _, _, _, _, _, _, _, rfl, _⟩ := h; rfl) | (obtain ⟨_, _, _, _, _, _, _, _, _, _, _, _, _, _, rfl, _⟩ := h; rfl) | (obtain ⟨_, _, _, _, _, _, _, _, _, _, _, _, _, _, _, rfl, _⟩ := h; rfl)
  · have T := D.T
    have nd := sc_Boat_seats.nd
    have hu := hr.units
    have hu1 := hu_of hr
    have hu0 := hr.units0
    obtain ⟨x, s, c, m, v, rfl, B, rfl, q⟩ := h
    refine ⟨_, pss_one (ps_ret (pe_fld (pv 0) rfl)), ?_⟩
    obtain ⟨dx, hx⟩ := B.at_
    exact ⟨_, rfl, x, _, dx, _, _, rfl, hx, D.Z_Boat.cl, D.n_Boat_many_seats, rfl, q⟩
theorem sc_Boat_carries : FnScope ["self"] ["self"] (defScope s_Boat_carries) := ⟨rfl, rfl, rfl, by decide +kernel, rfl, by decide +kernel, by decide +kernel⟩
theorem ok_Boat_carries (D : All K P mg) : FnOk P w K mg base CX0 1 D.f_Boat_carries D.d_Boat_carries ["self"] (spBtGet D.C_Boat 1) := by
  refine D.h_Boat_carries.fn.ok sc_Boat_carries (fun vs H Q E h => ?_) (fun cdv A outer s H vs Q E hr h => ?_)
  · first | (obtain ⟨_, rfl, _⟩ := h; rfl) | (obtain ⟨_, _, rfl, _⟩ := h; rfl) | (obtain ⟨_, _, _, rfl, _⟩ := h; rfl) | (obtain ⟨_, _, _, _, rfl, _⟩ := h; rfl) | (obtain ⟨_, _, _, _, _, rfl, _⟩ := h; rfl) | (obtain ⟨_, _, _, _, _, _, rfl, _⟩ := h; rfl) | (obtain ⟨_, _, _, _, _, _, _, rfl, _⟩ := h; rfl) | (obtain ⟨_, _, _, _, _, _, _, _, rfl, _⟩ := h; rfl) | (obtain ⟨_, _, _, _, _, _, _, _, _, rfl, _⟩ := h; rfl) | (obtain ⟨_, _, _, _, _, _, _, _, _, _, rfl, _⟩ := h; rfl) | (obtain ⟨_, _, _, _, _, _, _, _, _, _, _, rfl, _⟩ := h; rfl) | (obtain ⟨_, _, _, _, _, _, _, _, _, _, _, _, rfl, _⟩ := h; rfl) | (obtain ⟨_, _, _, _, _, _, _, _, _, _, _, _, _, rfl, _⟩ := h; rfl) | (obtain ⟨_, _, _, _, _, _, _, _, _, _, _, _, _, _, rfl, _⟩ := h; rfl) | (obtain ⟨_, _, _, _, _, _, _, _, _, _, _, _, _, _, _, rfl, _⟩ := h; rfl)
  · have T := D.T
    have nd := sc_Boat_carries.nd
    have hu := hr.units
    have hu1 := hu_of hr
    have hu0 := hr.units0
    obtain ⟨x, s, c, m, v, rfl, B, rfl, q⟩ := h
    refine ⟨_, pss_one (ps_ret (pe_fld (pv 0) rfl)), ?_⟩
    obtain ⟨dx, hx⟩ := B.at_
    exact ⟨_, rfl, x, _, dx, _, _, rfl, hx, D.Z_Boat.cl, D.n_Boat_most_weight, rfl, q⟩
theorem sc_Boat_man : FnScope ["self"] ["self"] (defScope s_Boat_man) := ⟨rfl, rfl, rfl, by decide +kernel, rfl, by decide +kernel, by decide +kernel⟩
theorem ok_Boat_man (D : All K P mg) : FnOk P w K mg base CX0 1 D.f_Boat_man D.d_Boat_man ["self"] (spBtGet D.C_Boat 2) := by
  refine D.h_Boat_man.fn.ok sc_Boat_man (fun vs H Q E h => ?_) (fun cdv A outer s H vs Q E hr h => ?_)
  · first | (obtain ⟨_, rfl, _⟩ := h; rfl) | (obtain ⟨_, _, rfl, _⟩ := h; rfl) | (obtain ⟨_, _, _, rfl, _⟩ := h; rfl) | (obtain ⟨_, _, _, _, rfl, _⟩ := h; rfl) | (obtain ⟨_, _, _, _, _, rfl, _⟩ := h; rfl) | (obtain ⟨_, _, _, _, _, _, rfl, _⟩ := h; rfl) | (obtain ⟨_, _, _, _, _, _, _, rfl, _⟩ := h; rfl) | (obtain ⟨_, _, _, _, _, _, _, _, rfl, _⟩ := h; rfl) | (obtain ⟨_, _, _, _, _, _, _, _, _, rfl, _⟩ := h; rfl) | (obtain ⟨_, _, _, _, _, _, _, _, _, _, rfl, _⟩ := h; rfl) | (obtain ⟨_, _, _, _, _, _, _, _, _, _, _, rfl, _⟩ := h; rfl) | (obtain ⟨_, _, _, _, _, _, _, _, _, _, _, _, rfl, _⟩ := h; rfl) | (obtain ⟨_, _, _, _, _, _, _, _, _, _, _, _, _, rfl, _⟩ := h; rfl) | (obtain ⟨_, _, _, _, _, _, _, _, _, _, _, _, _, _, rfl, _⟩ := h; rfl) | (obtain ⟨_, _, _, _, _, _, _, _, _, _, _, _, _, _, _, rfl, _⟩ := h; rfl)
  · have T := D.T
    have nd := sc_Boat_man.nd
    have hu := hr.units
    have hu1 := hu_of hr
    have hu0 := hr.units0
    obtain ⟨x, s, c, m, v, rfl, B, rfl, q⟩ := h
    refine ⟨_, pss_one (ps_ret (pe_fld (pv 0) rfl)), ?_⟩
    obtain ⟨dx, hx⟩ := B.at_
    exact ⟨_, rfl, x, _, dx, _, _, rfl, hx, D.Z_Boat.cl, D.n_Boat_man_weight, rfl, q⟩
theorem sc_parts_for : FnScope ["many", "most"] ["many", "most"] (defScope s_parts_for) := ⟨rfl, rfl, rfl, by decide +kernel, rfl, by decide +kernel, by decide +kernel⟩
theorem ok_parts_for (D : All K P mg) : FnOk P w K mg base CX0 1 D.f_parts_for D.d_parts_for ["many", "most"] spPartsL := by
  refine D.h_parts_for.fn.ok sc_parts_for (fun vs H Q E h => ?_) (fun cdv A outer s H vs Q E hr h => ?_)
  · first | (obtain ⟨_, rfl, _⟩ := h; rfl) | (obtain ⟨_, _, rfl, _⟩ := h; rfl) | (obtain ⟨_, _, _, rfl, _⟩ := h; rfl) | (obtain ⟨_, _, _, _, rfl, _⟩ := h; rfl) | (obtain ⟨_, _, _, _, _, rfl, _⟩ := h; rfl) | (obtain ⟨_, _, _, _, _, _, rfl, _⟩ := h; rfl) | (obtain ⟨_, _, _, _, _, _, _, rfl, _⟩ := h; rfl) | (obtain ⟨_, _, _, _, _, _, _, _, rfl, _⟩ := h; rfl) | (obtain ⟨_, _, _, _, _, _, _, _, _, rfl, _⟩ := h; rfl) | (obtain ⟨_, _, _, _, _, _, _, _, _, _, rfl, _⟩ := h; rfl) | (obtain ⟨_, _, _, _, _, _, _, _, _, _, _, rfl, _⟩ := h; rfl) | (obtain ⟨_, _, _, _, _, _, _, _, _, _, _, _, rfl, _⟩ := h; rfl) | (obtain ⟨_, _, _, _, _, _, _, _, _, _, _, _, _, rfl, _⟩ := h; rfl) | (obtain ⟨_, _, _, _, _, _, _, _, _, _, _, _, _, _, rfl, _⟩ := h; rfl) | (obtain ⟨_, _, _, _, _, _, _, _, _, _, _, _, _, _, _, rfl, _⟩ := h; rfl)
  · have T := D.T
    have nd := sc_parts_for.nd
    have hu := hr.units
    have hu1 := hu_of hr
    have hu0 := hr.units0
    obtain ⟨m, k, rfl, k0, k1, q⟩ := h
    refine ⟨_, pss_one (ps_ret (pe_op op_fdivW (pe_op op_sub (pe_op op_add (pv 0) (pv 1)) pe_int) (pv 1))), ?_⟩
    exact ⟨_, rfl, _, rfl, _, _, rfl, rfl, _, _, rfl, rfl, _, rfl, _, _, rfl, rfl, wide_div (b := 210) k0 (Nat.lt_of_le_of_lt k1 (by decide)) (by decide) (by decide), q⟩
theorem sc_room_of : FnScope ["boat"] ["boat"] (defScope s_room_of) := ⟨rfl, rfl, rfl, by decide +kernel, rfl, by decide +kernel, by decide +kernel⟩
theorem ok_room_of (D : All K P mg) : FnOk P w K mg base CX0 2 D.f_room_of D.d_room_of ["boat"] (spRoomL D.C_Boat) := by
  refine D.h_room_of.fn.ok sc_room_of (fun vs H Q E h => ?_) (fun cdv A outer s H vs Q E hr h => ?_)
  · first | (obtain ⟨_, rfl, _⟩ := h; rfl) | (obtain ⟨_, _, rfl, _⟩ := h; rfl) | (obtain ⟨_, _, _, rfl, _⟩ := h; rfl) | (obtain ⟨_, _, _, _, rfl, _⟩ := h; rfl) | (obtain ⟨_, _, _, _, _, rfl, _⟩ := h; rfl) | (obtain ⟨_, _, _, _, _, _, rfl, _⟩ := h; rfl) | (obtain ⟨_, _, _, _, _, _, _, rfl, _⟩ := h; rfl) | (obtain ⟨_, _, _, _, _, _, _, _, rfl, _⟩ := h; rfl) | (obtain ⟨_, _, _, _, _, _, _, _, _, rfl, _⟩ := h; rfl) | (obtain ⟨_, _, _, _, _, _, _, _, _, _, rfl, _⟩ := h; rfl) | (obtain ⟨_, _, _, _, _, _, _, _, _, _, _, rfl, _⟩ := h; rfl) | (obtain ⟨_, _, _, _, _, _, _, _, _, _, _, _, rfl, _⟩ := h; rfl) | (obtain ⟨_, _, _, _, _, _, _, _, _, _, _, _, _, rfl, _⟩ := h; rfl) | (obtain ⟨_, _, _, _, _, _, _, _, _, _, _, _, _, _, rfl, _⟩ := h; rfl) | (obtain ⟨_, _, _, _, _, _, _, _, _, _, _, _, _, _, _, rfl, _⟩ := h; rfl)
  · have T := D.T
    have nd := sc_room_of.nd
    have hu := hr.units
    have hu1 := hu_of hr
    have hu0 := hr.units0
    obtain ⟨x, s, c, m, rfl, B, q⟩ := h
    refine ⟨_, pss_one (ps_ret (pe_callB (call_min2 rfl) (by rfl) T.min (by decide +kernel) (pa_cons (pe_meth0 (pv 0) D.Z_Boat.cl D.h_Boat_seats.me (ok_Boat_seats D) (hr.mono (by decide)) D.h_Boat_seats.bd .nil pass0) (pa_cons (pe_op op_fdivW (pe_meth0 (pv 0) D.Z_Boat.cl D.h_Boat_carries.me (ok_Boat_carries D) (hr.mono (by decide)) D.h_Boat_carries.bd .nil pass0) (pe_meth0 (pv 0) D.Z_Boat.cl D.h_Boat_man.me (ok_Boat_man D) (hr.mono (by decide)) D.h_Boat_man.bd .nil pass0)) pa_nil)))), ?_⟩
    obtain ⟨dx, hx⟩ := B.at_
    have := B.m1
    have := B.m2
    refine ⟨_, rfl, x, dx, _, rfl, hx, rfl, x, s, c, m, s, rfl, B, rfl, _, rfl, x, dx, _, rfl, hx, rfl, x, s, c, m, c, rfl, B, rfl, _, rfl, x, dx, _, rfl, hx, rfl, x, s, c, m, m, rfl, B, rfl, _, _, rfl, rfl,
      wide_div (b := 210) (by omega) (Nat.lt_of_le_of_lt (show m.natAbs ≤ 10 ^ 60 by omega) (by decide)) (by decide) (by decide), _, _, rfl, q⟩
theorem sc_weight_out : FnScope ["boat", "out", "stores"] ["boat", "out", "stores"] (defScope s_weight_out) := ⟨rfl, rfl, rfl, by decide +kernel, rfl, by decide +kernel, by decide +kernel⟩
theorem ok_weight_out (D : All K P mg) : FnOk P w K mg base CX0 2 D.f_weight_out D.d_weight_out ["boat", "out", "stores"] (spWtL D.C_Boat) := by
  refine D.h_weight_out.fn.ok sc_weight_out (fun vs H Q E h => ?_) (fun cdv A outer s H vs Q E hr h => ?_)
  · first | (obtain ⟨_, rfl, _⟩ := h; rfl) | (obtain ⟨_, _, rfl, _⟩ := h; rfl) | (obtain ⟨_, _, _, rfl, _⟩ := h; rfl) | (obtain ⟨_, _, _, _, rfl, _⟩ := h; rfl) | (obtain ⟨_, _, _, _, _, rfl, _⟩ := h; rfl) | (obtain ⟨_, _, _, _, _, _, rfl, _⟩ := h; rfl) | (obtain ⟨_, _, _, _, _, _, _, rfl, _⟩ := h; rfl) | (obtain ⟨_, _, _, _, _, _, _, _, rfl, _⟩ := h; rfl) | (obtain ⟨_, _, _, _, _, _, _, _, _, rfl, _⟩ := h; rfl) | (obtain ⟨_, _, _, _, _, _, _, _, _, _, rfl, _⟩ := h; rfl) | (obtain ⟨_, _, _, _, _, _, _, _, _, _, _, rfl, _⟩ := h; rfl) | (obtain ⟨_, _, _, _, _, _, _, _, _, _, _, _, rfl, _⟩ := h; rfl) | (obtain ⟨_, _, _, _, _, _, _, _, _, _, _, _, _, rfl, _⟩ := h; rfl) | (obtain ⟨_, _, _, _, _, _, _, _, _, _, _, _, _, _, rfl, _⟩ := h; rfl) | (obtain ⟨_, _, _, _, _, _, _, _, _, _, _, _, _, _, _, rfl, _⟩ := h; rfl)
  · have T := D.T
    have nd := sc_weight_out.nd
    have hu := hr.units
    have hu1 := hu_of hr
    have hu0 := hr.units0
    obtain ⟨x, d, s, c, m, o, kvs, rfl, B, o0, o1, hd, q⟩ := h
    refine ⟨_, pss_one (ps_ret (pe_op op_add (pe_op op_mulW (pv 1) (pe_meth0 (pv 0) D.Z_Boat.cl D.h_Boat_man.me (ok_Boat_man D) (hr.mono (by decide)) D.h_Boat_man.bd .nil pass0)) (pe_ifExp (pt_cmpR op_isN (pv 2) pe_non (nomark _)) pe_int (pe_sumVals rfl (by rfl) T.sum (pv 2))))), ?_⟩
    obtain ⟨dx, hx⟩ := B.at_
    have := B.m1
    have := B.m2
    refine ⟨_, rfl, _, rfl, x, dx, _, rfl, hx, rfl, x, s, c, m, m, rfl, B, rfl, _, _, rfl, rfl, LT.wide_mul (by omega) (by omega), ?_⟩
    refine ⟨_, rfl, rfl, _, rfl, ?_⟩
    rw [decide_eq_false (show ¬ V.ref d = V.non from nofun)]
    exact ⟨_, rfl, d, _, _, rfl, hd, sd_vals kvs, _, _, rfl, rfl, q⟩
theorem sc_are_stores : FnScope ["thing", "name", "weight"] ["thing"] (defScope s_are_stores) := ⟨rfl, rfl, rfl, by decide +kernel, rfl, by decide +kernel, by decide +kernel⟩
theorem ok_are_stores (D : All K P mg) : FnOk P w K mg base CX0 3 D.f_are_stores D.d_are_stores ["thing"] spStoL := by
  refine D.h_are_stores.fn.ok sc_are_stores (fun vs H Q E h => ?_) (fun cdv A outer s H vs Q E hr h => ?_)
  · first | (obtain ⟨_, rfl, _⟩ := h; rfl) | (obtain ⟨_, _, rfl, _⟩ := h; rfl) | (obtain ⟨_, _, _, rfl, _⟩ := h; rfl) | (obtain ⟨_, _, _, _, rfl, _⟩ := h; rfl) | (obtain ⟨_, _, _, _, _, rfl, _⟩ := h; rfl) | (obtain ⟨_, _, _, _, _, _, rfl, _⟩ := h; rfl) | (obtain ⟨_, _, _, _, _, _, _, rfl, _⟩ := h; rfl) | (obtain ⟨_, _, _, _, _, _, _, _, rfl, _⟩ := h; rfl) | (obtain ⟨_, _, _, _, _, _, _, _, _, rfl, _⟩ := h; rfl) | (obtain ⟨_, _, _, _, _, _, _, _, _, _, rfl, _⟩ := h; rfl) | (obtain ⟨_, _, _, _, _, _, _, _, _, _, _, rfl, _⟩ := h; rfl) | (obtain ⟨_, _, _, _, _, _, _, _, _, _, _, _, rfl, _⟩ := h; rfl) | (obtain ⟨_, _, _, _, _, _, _, _, _, _, _, _, _, rfl, _⟩ := h; rfl) | (obtain ⟨_, _, _, _, _, _, _, _, _, _, _, _, _, _, rfl, _⟩ := h; rfl) | (obtain ⟨_, _, _, _, _, _, _, _, _, _, _, _, _, _, _, rfl, _⟩ := h; rfl)
  · have T := D.T
    have nd := sc_are_stores.nd
    have hu := hr.units
    have hu1 := hu_of hr
    have hu0 := hr.units0
    obtain ⟨r, kvs, rfl, hr', k, kl, q⟩ := h
    refine ⟨_, pss_cons (ps_if (PW.pt (pw_or (pt_not (pt_val (pe_callB call_isi (by rfl) T.isi (by decide +kernel) (pa_cons (pv 0) (pa_cons (pe_bltn (v := .ty "dict") (by rfl) T.dict (by decide +kernel) rfl) pa_nil))))) (pw_or1 (pt_cmpR op_gt (pe_callB call_lenD (by rfl) T.len PySem.boot_len (pa_cons (pv 0) pa_nil)) (pe_glob (v := .int (8)) (by rfl) D.g_MOST_THINGS ⟨_, rfl⟩) (nomark _))))) (pss_one (ps_ret pe_bl)) pss_nil)
      (pss_one (ps_ret (pe_callB (cr_all rfl) (by rfl) T.all (by decide +kernel) (pa_cons (pe_lock (pe_lc (own := [("name", 1), ("weight", 2)]) (g := gTup K 2 (gCons (gName 1) (gCons (gName 2) gNil))) (tt := tYes) rfl nd (pi_items (pv 0)) (blkOk_by (N := ["thing", "name", "weight"]) (sc := defScope s_are_stores) (by decide +kernel)) (fun _ _ _ _ _ => (pg_tup rfl (pgs_cons (pg_name (i := 1) nd rfl (Or.inl rfl)) (pgs_cons (pg_name (i := 2) nd rfl (Or.inl rfl)) pgs_nil)))) (fun _ _ _ _ _ => pts_nil) (fun _ _ _ _ _ => (pe_and (pe_call (ok_is_name D) (hr.mono (by decide)) (by rfl) D.h_is_name.gl D.h_is_name.fn.kp D.h_is_name.bd .nil pass0 (pa_cons (pv 1) pa_nil)) (pe_one (pe_call (ok_is_from D) (hr.mono (by decide)) (by rfl) D.h_is_from.gl D.h_is_from.fn.kp D.h_is_from.bd .nil pass0 (pa_cons (pv 2) (pa_cons pe_int pa_nil)))))))) pa_nil)))), ?_⟩
    refine ⟨_, rfl, .ref r, .ty "dict", _, _, true, rfl, .ty _, .base (.dK hr'), kit_ty (show kitB "dict" "dict" = some true by decide +kernel), _, rfl, ?_⟩
    refine iteF ⟨_, rfl, r, _, rfl, hr', _, _, rfl, rfl, _, rfl, ?_⟩
    rw [decide_eq_false (by rw [sd_len]; omega)]
    refine iteF ⟨r, _, hr', trivial, fun od => ?_⟩
    have ed := upd_same (H := H) (a := r) (o := .frz od (.dK (sd kvs)))
    refine ⟨_, rfl, r, od, _, rfl, ed, fun F nF => ?_⟩
    have nFr : F ≠ r := fun e => by rw [e, ed] at nF; cases nF
    refine lc_it walk_rows (fun i H' => Same (upd H r (.frz od (.dK (sd kvs)))) H' ∧ H' F = some (.lst ((List.replicate i true).map V.bl))) ⟨same_upd nF, upd_same⟩ (fun i H' _ ⟨s, _⟩ => s _ _ ed) ?_ ?_
    · rintro i x H1 H2 hi ⟨s1, eF⟩ ⟨T', p, hp, rfl, nT, rfl⟩
      have hm := List.mem_of_getElem? hp
      have il := (List.getElem?_eq_some_iff.mp hp).1
      have hb := k.w1 p hm
      have hn := k.nm p hm
      have l8 := hn.l8
      refine ⟨T', _, rfl, SqT.of upd_same, rfl, _, _, rfl, _, _, rfl, rfl, rfl, ?_⟩
      have sT := same_upd (o := .tup [.str p.1, .int p.2]) nT
      refine ⟨_, rfl, .str p.1, rfl, .str _, fun z hz => by cases hz; rw [sizeLine_eq]; omega, fun H3 s3 => ⟨_, rfl, ?_⟩⟩
      rw [hn.b]
      refine ⟨_, rfl, .int p.2, 1, rfl, .int _, ?_⟩
      rw [show fromB (.int p.2) 1 = true from decide_eq_true hb]
      refine ⟨_, s3 _ _ (sT _ _ eF), small2k (by rw [List.length_map, List.length_replicate]; omega), same_app nF (s1.trans (sT.trans s3)), ?_⟩
      rw [upd_same, ← rep_succ, List.map_append]
      rfl
    · rintro H1 ⟨s1, eF⟩
      refine ⟨s1 _ _ ed, F, List.replicate kvs.length true, rfl, SqL.of ?_, ?_⟩
      · rw [upd_ne nFr]
        exact eF
      · rw [rep_all]
        exact q _ (lock_back hr' s1)
theorem sc_check_wanted : FnScope ["out", "back", "stores"] ["out", "back", "stores"] (defScope s_check_wanted) := ⟨rfl, rfl, rfl, by decide +kernel, rfl, by decide +kernel, by decide +kernel⟩
theorem ok_check_wanted (D : All K P mg) : FnOk P w K mg base CX0 4 D.f_check_wanted D.d_check_wanted ["out", "back", "stores"] spCwL := by
  refine D.h_check_wanted.fn.ok sc_check_wanted (fun vs H Q E h => ?_) (fun cdv A outer s H vs Q E hr h => ?_)
  · first | (obtain ⟨_, rfl, _⟩ := h; rfl) | (obtain ⟨_, _, rfl, _⟩ := h; rfl) | (obtain ⟨_, _, _, rfl, _⟩ := h; rfl) | (obtain ⟨_, _, _, _, rfl, _⟩ := h; rfl) | (obtain ⟨_, _, _, _, _, rfl, _⟩ := h; rfl) | (obtain ⟨_, _, _, _, _, _, rfl, _⟩ := h; rfl) | (obtain ⟨_, _, _, _, _, _, _, rfl, _⟩ := h; rfl) | (obtain ⟨_, _, _, _, _, _, _, _, rfl, _⟩ := h; rfl) | (obtain ⟨_, _, _, _, _, _, _, _, _, rfl, _⟩ := h; rfl) | (obtain ⟨_, _, _, _, _, _, _, _, _, _, rfl, _⟩ := h; rfl) | (obtain ⟨_, _, _, _, _, _, _, _, _, _, _, rfl, _⟩ := h; rfl) | (obtain ⟨_, _, _, _, _, _, _, _, _, _, _, _, rfl, _⟩ := h; rfl) | (obtain ⟨_, _, _, _, _, _, _, _, _, _, _, _, _, rfl, _⟩ := h; rfl) | (obtain ⟨_, _, _, _, _, _, _, _, _, _, _, _, _, _, rfl, _⟩ := h; rfl) | (obtain ⟨_, _, _, _, _, _, _, _, _, _, _, _, _, _, _, rfl, _⟩ := h; rfl)
  · have T := D.T
    have nd := sc_check_wanted.nd
    have hu := hr.units
    have hu1 := hu_of hr
    have hu0 := hr.units0
    obtain ⟨o, b, d, kvs, rfl, o0, b0, hd, hk, hl, q⟩ := h
    refine ⟨_, pss_cons (ps_if (PW.pt (pw_or (pt_not (pt_val (pe_call (ok_is_from D) (hr.mono (by decide)) (by rfl) D.h_is_from.gl D.h_is_from.fn.kp D.h_is_from.bd .nil pass0 (pa_cons (pv 0) (pa_cons pe_int pa_nil))))) (pw_or1 (pt_not (pt_val (pe_call (ok_is_from D) (hr.mono (by decide)) (by rfl) D.h_is_from.gl D.h_is_from.fn.kp D.h_is_from.bd .nil pass0 (pa_cons (pv 1) (pa_cons pe_int pa_nil)))))))) (pss_one ps_never) pss_nil)
      (pss_one (ps_if (PW.pt (pw_and (pt_cmpR op_notN (pv 2) pe_non (nomark _)) (pw_and1 (pt_not (pt_val (pe_call (ok_are_stores D) (hr.mono (by decide)) (by rfl) D.h_are_stores.gl D.h_are_stores.fn.kp D.h_are_stores.bd .nil pass0 (pa_cons (pv 2) pa_nil))))))) (pss_one ps_never) pss_nil)), ?_⟩
    refine ⟨_, rfl, .int o, 0, rfl, .int o, _, rfl, ?_⟩
    rw [show fromB (.int o) 0 = true from decide_eq_true o0]
    refine iteF ⟨_, rfl, .int b, 0, rfl, .int b, _, rfl, ?_⟩
    rw [show fromB (.int b) 0 = true from decide_eq_true b0]
    refine iteF ⟨_, rfl, rfl, _, rfl, ?_⟩
    rw [decide_eq_false (show ¬ V.ref d = V.non from nofun)]
    refine iteT ⟨_, rfl, d, kvs, rfl, hd, hk, hl, fun H' s' => ⟨_, rfl, ?_⟩⟩
    exact iteF (q H' s')
theorem sc_fewest : FnScope ["boat", "out", "back", "stores", "for_weight", "room"] ["boat", "out", "back", "stores"] (defScope s_fewest) := ⟨rfl, rfl, rfl, by decide +kernel, rfl, by decide +kernel, by decide +kernel⟩
theorem ok_fewest (D : All K P mg) : FnOk P w K mg base CX0 5 D.f_fewest D.d_fewest ["boat", "out", "back", "stores"] (spFewL D.C_Boat) := by
  refine D.q_fewest.ok sc_fewest (fun vs H Q E h => ?_) (fun cdv A outer s H vs Q E hr h => ?_)
  · first | (obtain ⟨_, rfl, _⟩ := h; rfl) | (obtain ⟨_, _, rfl, _⟩ := h; rfl) | (obtain ⟨_, _, _, rfl, _⟩ := h; rfl) | (obtain ⟨_, _, _, _, rfl, _⟩ := h; rfl) | (obtain ⟨_, _, _, _, _, rfl, _⟩ := h; rfl) | (obtain ⟨_, _, _, _, _, _, rfl, _⟩ := h; rfl) | (obtain ⟨_, _, _, _, _, _, _, rfl, _⟩ := h; rfl) | (obtain ⟨_, _, _, _, _, _, _, _, rfl, _⟩ := h; rfl) | (obtain ⟨_, _, _, _, _, _, _, _, _, rfl, _⟩ := h; rfl) | (obtain ⟨_, _, _, _, _, _, _, _, _, _, rfl, _⟩ := h; rfl) | (obtain ⟨_, _, _, _, _, _, _, _, _, _, _, rfl, _⟩ := h; rfl) | (obtain ⟨_, _, _, _, _, _, _, _, _, _, _, _, rfl, _⟩ := h; rfl) | (obtain ⟨_, _, _, _, _, _, _, _, _, _, _, _, _, rfl, _⟩ := h; rfl) | (obtain ⟨_, _, _, _, _, _, _, _, _, _, _, _, _, _, rfl, _⟩ := h; rfl) | (obtain ⟨_, _, _, _, _, _, _, _, _, _, _, _, _, _, _, rfl, _⟩ := h; rfl)
  · have T := D.T
    have nd := sc_fewest.nd
    have hu := hr.units
    have hu1 := hu_of hr
    have hu0 := hr.units0
    obtain ⟨x, d, s, c, m, o, b, kvs, rfl, B, rm, o0, o1, b0, b1, hd, hk, hl, q⟩ := h
    refine ⟨_, pss_cons (ps_expr (pe_call (ok_check_wanted D) (hr.mono (by decide)) (by rfl) D.h_check_wanted.gl D.h_check_wanted.fn.kp D.h_check_wanted.bd .nil pass0 (pa_cons (pv 1) (pa_cons (pv 2) (pa_cons (pv 3) pa_nil)))))
      (pss_cons (ps_set (i := 4) nd rfl (.inl rfl) (pe_call (ok_parts_for D) (hr.mono (by decide)) (by rfl) D.h_parts_for.gl D.h_parts_for.fn.kp D.h_parts_for.bd .nil pass0 (pa_cons (pe_call (ok_weight_out D) (hr.mono (by decide)) (by rfl) D.h_weight_out.gl D.h_weight_out.fn.kp D.h_weight_out.bd .nil pass0 (pa_cons (pv 0) (pa_cons (pv 1) (pa_cons (pv 3) pa_nil)))) (pa_cons (pe_meth0 (pv 0) D.Z_Boat.cl D.h_Boat_carries.me (ok_Boat_carries D) (hr.mono (by decide)) D.h_Boat_carries.bd .nil pass0) pa_nil))))
      (pss_cons (ps_if (PW.pt (pw_and (pt_cmpR op_eq (pv 1) pe_int (nomark _)) (pw_and1 (pt_cmpR op_eq (pv 2) pe_int (nomark _))))) (pss_one (ps_ret (pv 4))) pss_nil)
      (pss_cons (ps_set (i := 5) nd rfl (.inl rfl) (pe_call (ok_room_of D) (hr.mono (by decide)) (by rfl) D.h_room_of.gl D.h_room_of.fn.kp D.h_room_of.bd .nil pass0 (pa_cons (pv 0) pa_nil)))
      (pss_cons (ps_if (pt_cmpR op_eq (pv 5) pe_int (nomark _)) (pss_one ps_never) pss_nil)
      (pss_one (ps_ret (pe_callB (call_max2 rfl) (by rfl) T.max (by decide +kernel) (pa_cons (pe_call (ok_parts_for D) (hr.mono (by decide)) (by rfl) D.h_parts_for.gl D.h_parts_for.fn.kp D.h_parts_for.bd .nil pass0 (pa_cons (pe_callB (call_max2 rfl) (by rfl) T.max (by decide +kernel) (pa_cons (pv 1) (pa_cons (pv 2) pa_nil))) (pa_cons (pv 5) pa_nil))) (pa_cons (pv 4) pa_nil))))))))), ?_⟩
    refine ⟨_, rfl, _, rfl, _, rfl, o, b, d, kvs, rfl, o0, b0, hd, hk, hl, fun H1 s1 => ?_⟩
    have B1 := B.mono s1
    obtain ⟨dx, hx⟩ := B1.at_
    have hc1 := B.c1
    have hc2 := B.c2
    have hs2 := B.s2
    have rm1 := roomL_le (s := s) (c := c) (m := m)
    refine ⟨_, rfl, _, rfl, _, rfl, x, d, s, c, m, o, kvs, rfl, B1, o0, o1, s1 _ _ hd, _, rfl, x, dx, _, rfl, hx, rfl, x, s, c, m, c, rfl, B1, rfl, _, _, rfl, by omega, by omega, ?_⟩
    refine ⟨_, rfl, rfl, _, rfl, ?_⟩
    have r0 : ¬ roomL s c m = 0 := by omega
    have fin : ∀ Hx, Same H Hx → ¬ (o = 0 ∧ b = 0) → Q (.int (maxL (partsL (maxL o b) (roomL s c m)) (partsL (o * m + wsum kvs) c))) Hx := fun Hx sx no => by
      have := q Hx sx
      unfold fewL at this
      rw [if_neg no] at this
      exact this
    by_cases ho : o = 0
    · rw [decide_eq_true (show V.int o = V.int 0 by rw [ho])]
      refine ⟨_, rfl, rfl, _, rfl, ?_⟩
      by_cases hb : b = 0
      · rw [decide_eq_true (show V.int b = V.int 0 by rw [hb])]
        refine ⟨_, rfl, ?_⟩
        have := q H1 s1
        unfold fewL at this
        rw [if_pos ⟨ho, hb⟩] at this
        exact this
      · rw [decide_eq_false (show ¬ V.int b = V.int 0 from fun e => hb (V.int.inj e))]
        refine ⟨_, rfl, x, s, c, m, rfl, B1, _, rfl, rfl, _, rfl, ?_⟩
        rw [decide_eq_false (show ¬ V.int (roomL s c m) = V.int 0 from fun e => r0 (V.int.inj e))]
        exact iteF ⟨_, rfl, _, rfl, _, _, rfl, _, rfl, _, _, rfl, by omega, by omega, _, rfl, _, _, rfl, fin H1 s1 fun z => hb z.2⟩
    · rw [decide_eq_false (show ¬ V.int o = V.int 0 from fun e => ho (V.int.inj e))]
      refine ⟨_, rfl, x, s, c, m, rfl, B1, _, rfl, rfl, _, rfl, ?_⟩
      rw [decide_eq_false (show ¬ V.int (roomL s c m) = V.int 0 from fun e => r0 (V.int.inj e))]
      exact iteF ⟨_, rfl, _, rfl, _, _, rfl, _, rfl, _, _, rfl, by omega, by omega, _, rfl, _, _, rfl, fin H1 s1 fun z => ho z.1⟩
theorem sc_landing : FnScope ["book", "boat", "light", "day", "known", "out", "weight", "back"] ["book", "boat", "light", "day", "known"] (defScope s_landing) := ⟨rfl, rfl, rfl, by decide +kernel, rfl, by decide +kernel, by decide +kernel⟩
theorem ok_landing (D : All K P mg) : FnOk P w K mg base CX0 11 D.f_landing D.d_landing ["book", "boat", "light", "day", "known"] (spLanding D.C_Book D.C_History D.C_Boat) := by
  refine D.q_landing.ok sc_landing (fun vs H Q E h => ?_) (fun cdv A outer s H vs Q E hr h => ?_)
  · first | (obtain ⟨_, rfl, _⟩ := h; rfl) | (obtain ⟨_, _, rfl, _⟩ := h; rfl) | (obtain ⟨_, _, _, rfl, _⟩ := h; rfl) | (obtain ⟨_, _, _, _, rfl, _⟩ := h; rfl) | (obtain ⟨_, _, _, _, _, rfl, _⟩ := h; rfl) | (obtain ⟨_, _, _, _, _, _, rfl, _⟩ := h; rfl) | (obtain ⟨_, _, _, _, _, _, _, rfl, _⟩ := h; rfl) | (obtain ⟨_, _, _, _, _, _, _, _, rfl, _⟩ := h; rfl) | (obtain ⟨_, _, _, _, _, _, _, _, _, rfl, _⟩ := h; rfl) | (obtain ⟨_, _, _, _, _, _, _, _, _, _, rfl, _⟩ := h; rfl) | (obtain ⟨_, _, _, _, _, _, _, _, _, _, _, rfl, _⟩ := h; rfl) | (obtain ⟨_, _, _, _, _, _, _, _, _, _, _, _, rfl, _⟩ := h; rfl) | (obtain ⟨_, _, _, _, _, _, _, _, _, _, _, _, _, rfl, _⟩ := h; rfl) | (obtain ⟨_, _, _, _, _, _, _, _, _, _, _, _, _, _, rfl, _⟩ := h; rfl) | (obtain ⟨_, _, _, _, _, _, _, _, _, _, _, _, _, _, _, rfl, _⟩ := h; rfl)
  · have T := D.T
    have nd := sc_landing.nd
    have hu := hr.units
    have hu1 := hu_of hr
    have hu0 := hr.units0
    obtain ⟨b, x, rk, es, fp, s, c, m, z, d, kn, rfl, W, B, rm, hz, hl, h0, hk, q⟩ := h
    obtain ⟨_, v4_came, b4_came⟩ := D.q_came.binds1 (ps := ["book", "place", "day", "known"]) 4 1 (by simp) (by rfl) (fun _ _ _ _ _ _ _ us its h1 h2 => match us, its, h1, h2 with | [_, _, _, _], [_], _, _ => ⟨_, rfl, rfl⟩)
    obtain ⟨_, v4_went, b4_went⟩ := D.q_went.binds1 (ps := ["book", "place", "day", "known"]) 4 1 (by simp) (by rfl) (fun _ _ _ _ _ _ _ us its h1 h2 => match us, its, h1, h2 with | [_, _, _, _], [_], _, _ => ⟨_, rfl, rfl⟩)
    obtain ⟨_, v4_Book_landed, b4_Book_landed⟩ := D.q_Book_landed.binds1 (ps := ["self", "light", "day", "known"]) 4 1 (by simp) (by rfl) (fun _ _ _ _ _ _ _ us its h1 h2 => match us, its, h1, h2 with | [_, _, _, _], [_], _, _ => ⟨_, rfl, rfl⟩)
    obtain ⟨_, v4_fewest, b4_fewest⟩ := D.q_fewest.binds1 (ps := ["boat", "out", "back", "stores"]) 4 2 (by simp) (by rfl) (fun _ _ _ _ _ _ _ us its h1 h2 => match us, its, h1, h2 with | [_, _, _, _], [_, _], _, _ => ⟨_, rfl, rfl⟩)
    refine ⟨_, pss_cons (ps_expr (pe_call (ok_check_light D) (hr.mono (by decide)) (by rfl) D.h_check_light.gl D.h_check_light.fn.kp D.h_check_light.bd .nil pass0 (pa_cons (pv 2) pa_nil)))
      (pss_cons (ps_expr (pe_call (ok_check_days D) (hr.mono (by decide)) (by rfl) D.h_check_days.gl D.h_check_days.fn.kp D.h_check_days.bd .nil pass0 (pa_cons (pv 3) (pa_cons (pv 4) pa_nil))))
      (pss_cons (ps_set (i := 5) nd rfl (.inl rfl) (pe_callB call_len_seq (by rfl) T.len PySem.boot_len (pa_cons (pe_call (ok_came D) (hr.mono (by decide)) (by rfl) D.gl_came D.kp_came b4_came v4_came pass0 (pa_cons (pv 0) (pa_cons (pv 2) (pa_cons (pv 3) (pa_cons (pv 4) pa_nil))))) pa_nil)))
      (pss_cons (ps_set (i := 6) nd rfl (.inl rfl) (pe_meth (pv 0) D.Z_Book.cl D.me_Book_landed (ok_Book_landed D) (hr.mono (by decide)) b4_Book_landed v4_Book_landed pass0 (pa_cons (pv 2) (pa_cons (pv 3) (pa_cons (pv 4) pa_nil)))))
      (pss_cons (ps_set (i := 7) nd rfl (.inl rfl) (pe_callB call_len_seq (by rfl) T.len PySem.boot_len (pa_cons (pe_call (ok_went D) (hr.mono (by decide)) (by rfl) D.gl_went D.kp_went b4_went v4_went pass0 (pa_cons (pv 0) (pa_cons (pv 2) (pa_cons (pv 3) (pa_cons (pv 4) pa_nil))))) pa_nil)))
      (pss_one (ps_ret (pe_tup (pa_cons (pv 5) (pa_cons (pv 6) (pa_cons (pv 7) (pa_cons (pe_call (ok_fewest D) (hr.mono (by decide)) (by rfl) D.gl_fewest D.kp_fewest b4_fewest v4_fewest pass0 (pa_cons (pv 1) (pa_cons (pv 5) (pa_cons (pv 7) (pa_cons (pe_ifExp (pt_cmpR op_gt (pv 6) pe_int (nomark _)) (pe_disp (pps_cons pe_str (pv 6) pps_nil) rfl rfl (by decide) (by decide)) pe_dnewK) pa_nil))))) pa_nil))))))))))), ?_⟩
    have evok := W.ev.2.2
    obtain ⟨dxb, R, M, Lq, v, ix⟩ := W.ix
    have pz : Pl z := .inr hz
    refine ⟨_, rfl, z, rfl, hz, fun H1 s1 => ?_⟩
    refine ⟨_, rfl, _, rfl, d, kn, rfl, h0, hk, ?_⟩
    refine ⟨_, rfl, _, rfl, _, rfl, _, rfl, b, rk, es, fp, z, d, kn, rfl, W.mono s1, pz, hl, h0, hk, fun k1 H2 nk1 ek1 s2 => ⟨k1, _, rfl, .inl (SqL.of ek1), ?_⟩⟩
    have s02 := s1.trans s2
    refine ⟨_, rfl, b, dxb, _, rfl, s02 _ _ ix, rfl, _, rfl, _, rfl, _, rfl, b, rk, es, fp, z, d, kn, rfl, W.mono s02, hz, hl, h0, hk, fun H3 s3 => ?_⟩
    have s03 := s02.trans s3
    obtain ⟨n, en, n0, n1⟩ : ∃ n : Int, (heldO es false z kn d).getD (.int 0) = .int n ∧ 0 ≤ n ∧ n < 10 ^ 57 := by
      cases e : heldO es false z kn d with
      | none => exact ⟨0, rfl, by decide, by decide⟩
      | some w => exact held_land evok e
    have eL : landI es z kn d = n := by
      unfold landI
      rw [en]
      rfl
    have eO : ((((cameF (rk.map (·.1)) es z d kn).map V.str).length : Nat) : Int) = outI es (rk.map (·.1)) z d kn := by rw [List.length_map]; rfl
    have eB : ((((wentF (rk.map (·.1)) es z d kn).map V.str).length : Nat) : Int) = backI es (rk.map (·.1)) z d kn := by rw [List.length_map]; rfl
    have rl := W.ev.1.ln
    have bO : 0 ≤ outI es (rk.map (·.1)) z d kn ∧ outI es (rk.map (·.1)) z d kn ≤ 1860 := by
      have h1 : (cameF (rk.map (·.1)) es z d kn).length ≤ (namesF (rk.map (·.1)) es z d kn).length := List.length_filter_le _ _
      have h2 := namesF_len (ks := rk.map (·.1)) (es := es) (z := z) (d := d) (kn := kn)
      rw [List.length_map] at h2
      unfold outI
      omega
    have bB : 0 ≤ backI es (rk.map (·.1)) z d kn ∧ backI es (rk.map (·.1)) z d kn ≤ 1860 := by
      have h1 : (wentF (rk.map (·.1)) es z d kn).length ≤ (beforeF (rk.map (·.1)) es z d kn).length := List.length_filter_le _ _
      have h2 := beforeF_len (ks := rk.map (·.1)) (es := es) (z := z) (d := d) (kn := kn)
      rw [List.length_map] at h2
      unfold backI
      omega
    rw [en, eO]
    refine ⟨_, rfl, _, rfl, _, rfl, _, rfl, b, rk, es, fp, z, d, kn, rfl, W.mono s03, pz, hl, h0, hk, fun k2 H4 nk2 ek2 s4 => ⟨k2, _, rfl, .inl (SqL.of ek2), ?_⟩⟩
    rw [eB]
    have s04 := s03.trans s4
    have few : ∀ kvs : List (Str × Int), wsum kvs = n → fewL s c m (outI es (rk.map (·.1)) z d kn) (backI es (rk.map (·.1)) z d kn) (wsum kvs) = fewI s c m es (rk.map (·.1)) z d kn := fun kvs hw => by
      unfold fewI
      rw [eL, hw]
    have fbig : (fewI s c m es (rk.map (·.1)) z d kn).natAbs ≤ 10 ^ 220 := by
      unfold fewI
      exact fewL_big B.c1 B.c2 B.m1 B.m2 B.s2 rm bO.1 bO.2 bB.1 bB.2 (by omega) (by omega)
    rw [eL] at q
    have bds : ∀ k ∈ [outI es (rk.map (·.1)) z d kn, n, backI es (rk.map (·.1)) z d kn, fewI s c m es (rk.map (·.1)) z d kn], k.natAbs ≤ 10 ^ 220 := fun k hk => by
      simp only [List.mem_cons, List.not_mem_nil, or_false] at hk
      rcases hk with rfl | rfl | rfl | rfl
      · omega
      · omega
      · omega
      · exact fbig
    generalize fewI s c m es (rk.map (·.1)) z d kn = fw at *
    generalize outI es (rk.map (·.1)) z d kn = o at *
    generalize backI es (rk.map (·.1)) z d kn = bk at *
    refine ⟨_, rfl, _, rfl, _, rfl, _, rfl, _, rfl, _, rfl, ?_⟩
    refine ⟨_, rfl, _, _, rfl, rfl, _, rfl, ?_⟩
    have fin : ∀ (r : Addr) (H5 : Hp) (kvs : List (Str × Int)), H5 r = some (.dK (sd kvs)) → Same H4 H5 → Kv kvs → kvs.length ≤ 8 → wsum kvs = n → spFewL D.C_Boat [.ref x, .int o, .int bk, .ref r] H5 (fun x_2 H1 => [V.int o, V.int n, V.int bk, x_2].length ≤ sizeLine ∧ ∀ (p : Addr), H1 p = none → Q (V.ref p) (upd H1 p (HO.tup [V.int o, V.int n, V.int bk, x_2]))) E0 := fun r H5 kvs er s5 hkv hln hw => by
      refine ⟨x, r, s, c, m, o, bk, kvs, rfl, B.mono (s04.trans s5), rm, bO.1, by omega, bB.1, by omega, er, hkv, hln, fun H6 s6 => ⟨by show 4 ≤ sizeLine; decide, fun p np => ?_⟩⟩
      rw [few kvs hw]
      have s06 := s04.trans (s5.trans s6)
      exact q p _ bds (s06.free np) upd_same (s06.trans (same_upd np))
    by_cases hn : 0 < n
    · rw [decide_eq_true hn]
      refine iteT fun r nr => ⟨_, rfl, upd_same, [(.inr "stores", .int n)], rfl, by show 1 ≤ 15; decide, ?_⟩
      have er : upd (upd H4 r (.dK [])) r (.dK (mergeK [] [(.inr "stores", .int n)])) r = some (.dK (sd [(Str.ofString "stores", n)])) := upd_same
      have s5 : Same H4 (upd (upd H4 r (.dK [])) r (.dK (mergeK [] [(.inr "stores", .int n)]))) := fun a o e => by
        rw [upd_ne (ne_of_none e nr), upd_ne (ne_of_none e nr)]
        exact e
      generalize upd (upd H4 r (.dK [])) r (.dK (mergeK [] [(.inr "stores", .int n)])) = H5 at *
      exact fin r H5 _ er s5 ⟨List.nodup_cons.mpr ⟨nofun, List.nodup_nil⟩, fun q hq => by rw [List.mem_singleton.mp hq]; exact (show Nm (Str.ofString "stores") from ⟨by decide +kernel, by decide +kernel, by decide +kernel⟩), fun q hq => by rw [List.mem_singleton.mp hq]; show 1 ≤ n; omega, fun q hq => by rw [List.mem_singleton.mp hq]; show n ≤ 10 ^ 70; omega⟩ (by show 1 ≤ 8; decide) (by show n + 0 = n; omega)
    · rw [decide_eq_false hn]
      refine iteF fun r nr => ?_
      exact fin r _ [] upd_same (same_upd nr) ⟨List.nodup_nil, nofun, nofun, nofun⟩ (by decide) (by show 0 = n; omega)
end
end K80
set_option Elab.async false
set_option linter.all false
set_option maxRecDepth 100000
set_option maxHeartbeats 1600000
set_option pp.maxSteps 300
namespace K80
open PySem PySem.Spec PyProof.Rows L2 LT NdefX
section
variable {P : Program} {w : World} {K : PySem.W.Frag} {mg : Str → Option Value} {base : Heap}
theorem sc__law_pot : FnScope ["_law_script", "_law_k", "_law_cell"] ["_law_script", "_law_k"] (defScope s__law_pot) := ⟨rfl, rfl, rfl, by decide +kernel, rfl, by decide +kernel, by decide +kernel⟩
theorem ok__law_pot (D : All K P mg) : FnOk P w K mg base CX0 1 D.f__law_pot D.d__law_pot ["_law_script", "_law_k"] (spPot K) := by
  refine D.h__law_pot.fn.ok sc__law_pot (fun vs H Q E h => ?_) (fun cdv A outer s H vs Q E hr h => ?_)
  · first | (obtain ⟨_, rfl, _⟩ := h; rfl) | (obtain ⟨_, _, rfl, _⟩ := h; rfl) | (obtain ⟨_, _, _, rfl, _⟩ := h; rfl) | (obtain ⟨_, _, _, _, rfl, _⟩ := h; rfl) | (obtain ⟨_, _, _, _, _, rfl, _⟩ := h; rfl) | (obtain ⟨_, _, _, _, _, _, rfl, _⟩ := h; rfl) | (obtain ⟨_, _, _, _, _, _, _, rfl, _⟩ := h; rfl) | (obtain ⟨_, _, _, _, _, _, _, _, rfl, _⟩ := h; rfl) | (obtain ⟨_, _, _, _, _, _, _, _, _, rfl, _⟩ := h; rfl) | (obtain ⟨_, _, _, _, _, _, _, _, _, _, rfl, _⟩ := h; rfl) | (obtain ⟨_, _, _, _, _, _, _, _, _, _, _, rfl, _⟩ := h; rfl) | (obtain ⟨_, _, _, _, _, _, _, _, _, _, _, _, rfl, _⟩ := h; rfl) | (obtain ⟨_, _, _, _, _, _, _, _, _, _, _, _, _, rfl, _⟩ := h; rfl) | (obtain ⟨_, _, _, _, _, _, _, _, _, _, _, _, _, _, rfl, _⟩ := h; rfl) | (obtain ⟨_, _, _, _, _, _, _, _, _, _, _, _, _, _, _, rfl, _⟩ := h; rfl)
  · have T := D.T
    have nd := sc__law_pot.nd
    have hu := hr.units
    have hu1 := hu_of hr
    have hu0 := hr.units0
    obtain ⟨a, ns, k, rfl, hS, hk, q⟩ := h
    refine ⟨_, pss_cons (ps_set (i := 2) nd rfl (.inl rfl) (pe_op op_add (pe_op op_mul pe_int (pv 1)) pe_int))
      (pss_cons (ps_if (pt_cmpR op_lt (pv 1) (pe_callB call_len_seq (by rfl) T.len PySem.boot_len (pa_cons (pv 0) pa_nil)) (nomark _)) (pss_one (ps_set (i := 2) nd rfl (.inl rfl) (pe_ix ix_list (pv 0) (pv 1) (fun _ _ => rfl)))) pss_nil)
      (pss_one (ps_ret (pe_lst (pa_cons (pe_callB (call_max2 rfl) (by rfl) T.max (by decide +kernel) (pa_cons pe_int (pa_cons (pe_op op_sub (pe_callB call_abs (by rfl) T.abs (by decide +kernel) (pa_cons (pv 2) pa_nil)) (pe_op op_pow pe_int pe_int)) pa_nil))) (pa_cons (pe_op op_add (pe_op op_mod (pe_op op_mul (pe_op op_add (pe_op op_mod (pe_callB call_abs (by rfl) T.abs (by decide +kernel) (pa_cons (pv 2) pa_nil)) pe_int) pe_int) (pe_op op_pow (pe_op op_add (pv 1) pe_int) pe_int)) pe_int) pe_int) pa_nil)))))), ?_⟩
    refine ⟨_, rfl, _, _, rfl, rfl, .inl ⟨by decide, by decide⟩, _, _, rfl, rfl, ?_⟩
    refine ⟨_, rfl, _, rfl, a, _, rfl, .inl hS, _, _, rfl, rfl, _, rfl, ?_⟩
    apply joinA (α := Int) (J := fun z Hx => Hx = H) (sl := fun z => [some (.ref a), some (.int (k : Nat)), some (.int z)])
    · intro h
      refine ite2 (fun hlt => ?_) (fun _ => h _ H rfl)
      have hlt := of_decide_eq_true hlt
      rw [List.length_map] at hlt
      have hlt : k < ns.length := by omega
      refine ⟨_, rfl, _, rfl, a, _, (k : Nat), .int ns[k], rfl, rfl, hS, atI_nat (by rw [List.getElem?_map, List.getElem?_eq_getElem hlt]; rfl), ?_⟩
      exact h _ H rfl
    rintro z Hx rfl
    refine ⟨_, rfl, z, rfl, _, _, rfl, rfl, ⟨by decide, by decide, by decide⟩, _, _, rfl, rfl, 0, _, rfl, ?_⟩
    refine ⟨_, rfl, z, rfl, _, _, rfl, rfl, by show (0 : Int) < 2147483587; decide, _, _, rfl, rfl, ?_⟩
    generalize hA : (if z < 0 then -z else z) = za
    have m0 := Int.emod_nonneg za (show (2147483587 : Int) ≠ 0 by decide)
    have m1 := Int.emod_lt_of_pos za (show (0 : Int) < 2147483587 by decide)
    refine ⟨_, rfl, _, _, rfl, rfl, _, _, rfl, rfl, ⟨by decide, by decide, by omega⟩, _, _, rfl, rfl, .inl ⟨by omega, by omega⟩, _, _, rfl, rfl, by show (0 : Int) < 2147483563; decide, _, _, rfl, rfl, by show 2 ≤ sizeLine; decide, fun l nl => ?_⟩
    refine q l _ nl (same_upd nl) ⟨_, _, upd_same, by split <;> omega, ?_, ?_⟩
    · have := Int.emod_nonneg ((za % 2147483587 + 1) * ((k : Nat) + 2) ^ (5 : Int).toNat) (show (2147483563 : Int) ≠ 0 by decide)
      omega
    · have := Int.emod_lt_of_pos ((za % 2147483587 + 1) * ((k : Nat) + 2) ^ (5 : Int).toNat) (show (0 : Int) < 2147483563 by decide)
      omega
theorem sc__law_take : FnScope ["_law_pot_here", "_law_many", "_law_digit"] ["_law_pot_here", "_law_many"] (defScope s__law_take) := ⟨rfl, rfl, rfl, by decide +kernel, rfl, by decide +kernel, by decide +kernel⟩
theorem ok__law_take (D : All K P mg) : FnOk P w K mg base CX0 1 D.f__law_take D.d__law_take ["_law_pot_here", "_law_many"] spTakeW := by
  refine D.h__law_take.fn.ok sc__law_take (fun vs H Q E h => ?_) (fun cdv A outer s H vs Q E hr h => ?_)
  · first | (obtain ⟨_, rfl, _⟩ := h; rfl) | (obtain ⟨_, _, rfl, _⟩ := h; rfl) | (obtain ⟨_, _, _, rfl, _⟩ := h; rfl) | (obtain ⟨_, _, _, _, rfl, _⟩ := h; rfl) | (obtain ⟨_, _, _, _, _, rfl, _⟩ := h; rfl) | (obtain ⟨_, _, _, _, _, _, rfl, _⟩ := h; rfl) | (obtain ⟨_, _, _, _, _, _, _, rfl, _⟩ := h; rfl) | (obtain ⟨_, _, _, _, _, _, _, _, rfl, _⟩ := h; rfl) | (obtain ⟨_, _, _, _, _, _, _, _, _, rfl, _⟩ := h; rfl) | (obtain ⟨_, _, _, _, _, _, _, _, _, _, rfl, _⟩ := h; rfl) | (obtain ⟨_, _, _, _, _, _, _, _, _, _, _, rfl, _⟩ := h; rfl) | (obtain ⟨_, _, _, _, _, _, _, _, _, _, _, _, rfl, _⟩ := h; rfl) | (obtain ⟨_, _, _, _, _, _, _, _, _, _, _, _, _, rfl, _⟩ := h; rfl) | (obtain ⟨_, _, _, _, _, _, _, _, _, _, _, _, _, _, rfl, _⟩ := h; rfl) | (obtain ⟨_, _, _, _, _, _, _, _, _, _, _, _, _, _, _, rfl, _⟩ := h; rfl)
  · have T := D.T
    have nd := sc__law_take.nd
    have hu := hr.units
    have hu1 := hu_of hr
    have hu0 := hr.units0
    obtain ⟨p, r, rfl, ⟨a, b, hp, a0, b0, bB⟩, r0, r1, q⟩ := h
    refine ⟨_, pss_cons (ps_if (pt_cmpR op_gt (pe_ix ix_list (pv 0) pe_int (fun _ _ => rfl)) pe_int (nomark _)) (pss_cons (ps_asg (pe_callB call_divmodW (by rfl) T.divmod (by decide +kernel) (pa_cons (pe_ix ix_list (pv 0) pe_int (fun _ _ => rfl)) (pa_cons (pv 1) pa_nil))) (pg_tup rfl (pgs_cons (pg_sub (pv 0) pe_int set_list) (pgs_cons (pg_name (i := 2) nd rfl (Or.inl rfl)) pgs_nil))))
      (pss_one (ps_ret (pv 2)))) pss_nil)
      (pss_cons (ps_asg (pe_op op_mod (pe_op op_add (pe_op op_mul (pe_ix ix_list (pv 0) pe_int (fun _ _ => rfl)) pe_int) pe_int) pe_int) (pg_sub (pv 0) pe_int set_list))
      (pss_one (ps_ret (pe_op op_mod (pe_op op_fdiv (pe_op op_mod (pe_op op_mul (pe_ix ix_list (pv 0) pe_int (fun _ _ => rfl)) (pe_ix ix_list (pv 0) pe_int (fun _ _ => rfl))) pe_int) pe_int) (pv 1))))), ?_⟩
    refine ⟨_, rfl, p, _, 0, _, rfl, rfl, SqL.of hp, atI_nat (j := 0) rfl, _, _, rfl, rfl, _, rfl, ite2 (fun h => ?_) (fun h => ?_)⟩
    · have ha : 0 < a := of_decide_eq_true h
      refine ⟨_, rfl, p, _, 0, _, rfl, rfl, SqL.of hp, atI_nat (j := 0) rfl, _, rfl, a, r, rfl, ⟨r0, nopy61 r0 r1⟩, fun t nt => ?_⟩
      have npt : p ≠ t := ne_of_none hp nt
      have hp2 : (upd H t (.tup [.int (a / r), .int (a % r)])) p = some (.lst [.int a, .int b]) := by
        rw [upd_ne npt]
        exact hp
      refine ⟨t, _, rfl, SqT.of upd_same, rfl, _, _, rfl, ?_⟩
      refine ⟨_, rfl, p, _, 0, 0, rfl, rfl, hp2, rfl, _, _, rfl, rfl, ?_⟩
      refine ⟨_, rfl, q _ _ (Int.emod_nonneg _ (by omega)) (Int.emod_lt_of_pos _ r0) ⟨_, _, upd_same, Int.ediv_nonneg a0 (by omega), b0, bB⟩ (SameB.upd (SameB.new nt (SameB.of (Same.refl H))))⟩
    · refine ⟨_, rfl, p, _, 1, _, rfl, rfl, SqL.of hp, atI_nat (j := 1) rfl, _, _, rfl, rfl, .inl ⟨by omega, by omega⟩, _, _, rfl, rfl, _, _, rfl, rfl, by show (0 : Int) < 2147483579; decide, ?_⟩
      refine ⟨_, rfl, p, _, 1, 1, rfl, rfl, hp, rfl, ?_⟩
      have n0 := Int.emod_nonneg (b * 48271 + 12347) (show (2147483579 : Int) ≠ 0 by decide)
      have n1 := Int.emod_lt_of_pos (b * 48271 + 12347) (show (0 : Int) < 2147483579 by decide)
      refine ⟨_, rfl, p, _, 1, _, rfl, rfl, SqL.of upd_same, atI_nat (j := 1) rfl, _, rfl, p, _, 1, _, rfl, rfl, SqL.of upd_same, atI_nat (j := 1) rfl, _, _, rfl, rfl, .inl ⟨by omega, by omega⟩, ?_⟩
      refine ⟨_, _, rfl, rfl, by show (0 : Int) < 2147483549; decide, _, _, rfl, rfl, ⟨by decide, by decide⟩, _, rfl, _, _, rfl, rfl, r0, ?_⟩
      exact q _ _ (Int.emod_nonneg _ (by omega)) (Int.emod_lt_of_pos _ r0) ⟨_, _, upd_same, a0, n0, by omega⟩ (SameB.upd (SameB.of (Same.refl H)))
theorem sc__law_far : FnScope ["_law_pot_here", "_law_found", "_law_k"] ["_law_pot_here"] (defScope s__law_far) := ⟨rfl, rfl, rfl, by decide +kernel, rfl, by decide +kernel, by decide +kernel⟩
theorem ok__law_far (D : All K P mg) : FnOk P w K mg base CX0 2 D.f__law_far D.d__law_far ["_law_pot_here"] spFarB := by
  refine D.h__law_far.fn.ok sc__law_far (fun vs H Q E h => ?_) (fun cdv A outer s H vs Q E hr h => ?_)
  · first | (obtain ⟨_, rfl, _⟩ := h; rfl) | (obtain ⟨_, _, rfl, _⟩ := h; rfl) | (obtain ⟨_, _, _, rfl, _⟩ := h; rfl) | (obtain ⟨_, _, _, _, rfl, _⟩ := h; rfl) | (obtain ⟨_, _, _, _, _, rfl, _⟩ := h; rfl) | (obtain ⟨_, _, _, _, _, _, rfl, _⟩ := h; rfl) | (obtain ⟨_, _, _, _, _, _, _, rfl, _⟩ := h; rfl) | (obtain ⟨_, _, _, _, _, _, _, _, rfl, _⟩ := h; rfl) | (obtain ⟨_, _, _, _, _, _, _, _, _, rfl, _⟩ := h; rfl) | (obtain ⟨_, _, _, _, _, _, _, _, _, _, rfl, _⟩ := h; rfl) | (obtain ⟨_, _, _, _, _, _, _, _, _, _, _, rfl, _⟩ := h; rfl) | (obtain ⟨_, _, _, _, _, _, _, _, _, _, _, _, rfl, _⟩ := h; rfl) | (obtain ⟨_, _, _, _, _, _, _, _, _, _, _, _, _, rfl, _⟩ := h; rfl) | (obtain ⟨_, _, _, _, _, _, _, _, _, _, _, _, _, _, rfl, _⟩ := h; rfl) | (obtain ⟨_, _, _, _, _, _, _, _, _, _, _, _, _, _, _, rfl, _⟩ := h; rfl)
  · have T := D.T
    have nd := sc__law_far.nd
    have hu := hr.units
    have hu1 := hu_of hr
    have hu0 := hr.units0
    obtain ⟨p, rfl, hp, q⟩ := h
    refine ⟨_, pss_cons (ps_if (pt_cmpR op_gt (pe_call (ok__law_take D) (hr.mono (by decide)) (by rfl) D.h__law_take.gl D.h__law_take.fn.kp D.h__law_take.bd .nil pass0 (pa_cons (pv 0) (pa_cons pe_int pa_nil))) pe_int (nomark _)) (pss_one (ps_ret pe_int)) pss_nil)
      (pss_cons (ps_set (i := 1) nd rfl (.inl rfl) pe_int)
      (pss_cons (ps_for PassesOwn.never rfl (pi_range1 (by rfl) T.range (pa_cons pe_int pa_nil)) (pg_name (i := 2) nd rfl (Or.inl rfl)) (pss_one (ps_set (i := 1) nd rfl (.inl rfl) (pe_op op_add (pe_op op_mul (pv 1) (pe_op op_pow pe_int pe_int)) (pe_call (ok__law_take D) (hr.mono (by decide)) (by rfl) D.h__law_take.gl D.h__law_take.fn.kp D.h__law_take.bd .nil pass0 (pa_cons (pv 0) (pa_cons (pe_op op_pow pe_int pe_int) pa_nil)))))))
      (pss_one (ps_ret (pv 1))))), ?_⟩
    refine ⟨_, rfl, p, 3, rfl, hp, by decide, by decide, fun d H1 d0 d1 hp1 s1 => ⟨_, _, rfl, rfl, _, rfl, ite2 (fun h => q 0 H1 (by decide) (by decide) hp1 s1) (fun h => ?_)⟩⟩
    refine ⟨_, rfl, by decide, by decide, for_range (lo := 0) (n := 6) (fun i σ H' => ∃ (m : Int) (x2 : Option V), σ = [some (.ref p), some (.int m), x2] ∧ 0 ≤ m ∧ m < 10 ^ (9 * i) ∧ Pot H' p ∧ SameB p H H') ⟨0, none, rfl, by decide, by decide, hp1, s1⟩ ?_ ?_⟩
    · rintro i σ H2 hi ⟨m, x2, rfl, m0, m1, hp2, s2⟩
      refine ⟨_, rfl, _, _, rfl, rfl, ⟨by decide, by decide, by decide⟩, _, _, rfl, rfl, .inr ⟨by decide, by decide⟩, ?_⟩
      refine ⟨_, rfl, _, _, rfl, rfl, ⟨by decide, by decide, by decide⟩, p, _, rfl, hp2, by decide, by decide, fun e H3 e0 e1 hp3 s3 => ?_⟩
      have e1 : e < 1000000000 := e1
      refine ⟨_, _, rfl, rfl, _, _, rfl, ?_, ?_, hp3, s2.trans s3⟩
      · show 0 ≤ m * 1000000000 + e
        omega
      · show m * 1000000000 + e < 10 ^ (9 * (i + 1))
        rw [Nat.mul_add, Int.pow_add]
        show m * 1000000000 + e < 10 ^ (9 * i) * 1000000000
        omega
    · rintro σ H2 ⟨m, x2, rfl, m0, m1, hp2, s2⟩
      exact ⟨_, rfl, q m H2 m0 m1 hp2 s2⟩
theorem sc__law_names : FnScope ["_law_pot_here", "_law_many", "_law_letters", "_law_found", "_law_k", "_law_name", "_law_at", "_law_j"] ["_law_pot_here", "_law_many"] (defScope s__law_names) := ⟨rfl, rfl, rfl, by decide +kernel, rfl, by decide +kernel, by decide +kernel⟩
theorem ok__law_names (D : All K P mg) : FnOk P w K mg base CX0 2 D.f__law_names D.d__law_names ["_law_pot_here", "_law_many"] spNamesD := by
  refine D.h__law_names.fn.ok sc__law_names (fun vs H Q E h => ?_) (fun cdv A outer s H vs Q E hr h => ?_)
  · first | (obtain ⟨_, rfl, _⟩ := h; rfl) | (obtain ⟨_, _, rfl, _⟩ := h; rfl) | (obtain ⟨_, _, _, rfl, _⟩ := h; rfl) | (obtain ⟨_, _, _, _, rfl, _⟩ := h; rfl) | (obtain ⟨_, _, _, _, _, rfl, _⟩ := h; rfl) | (obtain ⟨_, _, _, _, _, _, rfl, _⟩ := h; rfl) | (obtain ⟨_, _, _, _, _, _, _, rfl, _⟩ := h; rfl) | (obtain ⟨_, _, _, _, _, _, _, _, rfl, _⟩ := h; rfl) | (obtain ⟨_, _, _, _, _, _, _, _, _, rfl, _⟩ := h; rfl) | (obtain ⟨_, _, _, _, _, _, _, _, _, _, rfl, _⟩ := h; rfl) | (obtain ⟨_, _, _, _, _, _, _, _, _, _, _, rfl, _⟩ := h; rfl) | (obtain ⟨_, _, _, _, _, _, _, _, _, _, _, _, rfl, _⟩ := h; rfl) | (obtain ⟨_, _, _, _, _, _, _, _, _, _, _, _, _, rfl, _⟩ := h; rfl) | (obtain ⟨_, _, _, _, _, _, _, _, _, _, _, _, _, _, rfl, _⟩ := h; rfl) | (obtain ⟨_, _, _, _, _, _, _, _, _, _, _, _, _, _, _, rfl, _⟩ := h; rfl)
  · have T := D.T
    have nd := sc__law_names.nd
    have hu := hr.units
    have hu1 := hu_of hr
    have hu0 := hr.units0
    obtain ⟨p, m, rfl, hp, m0, m1, q⟩ := h
    refine ⟨_, pss_cons (ps_set (i := 2) nd rfl (.inr rfl) pe_str)
      (pss_cons (ps_set (i := 3) nd rfl (.inl rfl) (pe_lst pa_nil))
      (pss_cons (ps_for PassesOwn.never rfl (pi_range1 (by rfl) T.range (pa_cons (pv 1) pa_nil)) (pg_name (i := 4) nd rfl (Or.inl rfl)) (pss_cons (ps_set (i := 5) nd rfl (.inl rfl) (pe_join pe_str (pe_lc (own := [("_law_j", 7)]) (g := gName 7) (tt := tYes) rfl nd (pi_range1 (by rfl) T.range (pa_cons (pe_op op_add pe_int (pe_call (ok__law_take D) (hr.mono (by decide)) (by rfl) D.h__law_take.gl D.h__law_take.fn.kp D.h__law_take.bd .nil pass0 (pa_cons (pv 0) (pa_cons pe_int pa_nil)))) pa_nil)) (blkOk_by (N := ["_law_pot_here", "_law_many", "_law_letters", "_law_found", "_law_k", "_law_name", "_law_at", "_law_j"]) (sc := defScope s__law_names) (by decide +kernel)) (fun _ _ _ _ _ => (pg_name (i := 7) nd rfl (Or.inl rfl))) (fun _ _ _ _ _ => pts_nil) (fun _ _ _ _ _ => (pe_ix ix_str (pv 2) (pe_call (ok__law_take D) (hr.mono (by decide)) (by rfl) D.h__law_take.gl D.h__law_take.fn.kp D.h__law_take.bd .nil pass0 (pa_cons (pv 0) (pa_cons pe_int pa_nil))) (fun _ _ => rfl))))))
      (pss_cons (ps_if (PW.pt (pw_and (pt_cmpR (op_neNil hu) (pv 3) (pe_lst pa_nil) (nomark _)) (pw_and1 (pt_cmpR op_eq (pe_call (ok__law_take D) (hr.mono (by decide)) (by rfl) D.h__law_take.gl D.h__law_take.fn.kp D.h__law_take.bd .nil pass0 (pa_cons (pv 0) (pa_cons pe_int pa_nil))) pe_int (nomark _))))) (pss_cons (ps_set (i := 6) nd rfl (.inl rfl) (pe_call (ok__law_take D) (hr.mono (by decide)) (by rfl) D.h__law_take.gl D.h__law_take.fn.kp D.h__law_take.bd .nil pass0 (pa_cons (pv 0) (pa_cons (pe_callB call_len_str (by rfl) T.len PySem.boot_len (pa_cons (pe_ix ix_list (pv 3) pe_int (fun _ _ => rfl)) pa_nil)) pa_nil))))
      (pss_one (ps_set (i := 5) nd rfl (.inl rfl) (pe_op op_add_str (pe_op op_add_str (pe_slice sl_str (pe_ix ix_list (pv 3) pe_int (fun _ _ => rfl)) po_none (po_some (pv 6))) (pe_ix ix_str (pv 2) (pe_call (ok__law_take D) (hr.mono (by decide)) (by rfl) D.h__law_take.gl D.h__law_take.fn.kp D.h__law_take.bd .nil pass0 (pa_cons (pv 0) (pa_cons pe_int pa_nil))) (fun _ _ => rfl))) (pe_slice sl_str (pe_ix ix_list (pv 3) pe_int (fun _ _ => rfl)) (po_some (pe_op op_add (pv 6) pe_int)) po_none))))) pss_nil)
      (pss_cons (ps_for PassesOwn.never rfl (pi_range1 (by rfl) T.range (pa_cons pe_int pa_nil)) (pg_name (i := 7) nd rfl (Or.inl rfl)) (pss_one (ps_if (pt_cmpR op_in_seq (pv 5) (pv 3) (by rfl)) (pss_one (ps_set (i := 5) nd rfl (.inl rfl) (pe_op op_add_str (pe_op op_add_str pe_str (pe_ix ix_str (pv 2) (pe_op op_fdiv (pv 7) pe_int) (fun _ _ => rfl))) (pe_ix ix_str (pv 2) (pe_op op_mod (pv 7) pe_int) (fun _ _ => rfl))))) pss_nil)))
      (pss_one (ps_expr (pe_bm PySem.F.plainAttrs_list PySem.F.slot_list_append PySem.F.type_list_append mt_append (pv 3) (pa_cons (pv 5) pa_nil))))))))
      (pss_one (ps_ret (pv 3))))), ?_⟩
    have le0 : (Str.ofString "").length = 0 := by decide +kernel
    refine ⟨by show 0 ≤ sizeLine; decide, fun L nL => ?_⟩
    have nLp := hp.ne nL
    have hp1 := hp.upd (o := .lst []) nLp
    have eL1 := upd_same (H := H) (a := L) (o := .lst [])
    have s1 : SameB p H (L2.upd H L (.lst [])) := SameB.of (same_upd nL)
    generalize L2.upd H L (.lst []) = H1 at *
    refine ⟨_, rfl, m, rfl, by omega, by omega, for_range (lo := 0) (n := m.toNat) (fun i σ H' => ∃ (zs : List Str) (x4 x5 x6 x7 : Option V), σ = [some (.ref p), some (.int m), some (.str (Str.ofString "abcdefghijklmnopqrstuvwxyz")), some (.ref L), x4, x5, x6, x7] ∧ zs.length = i ∧ Names zs ∧ H' L = some (.lst (zs.map V.str)) ∧ Pot H' p ∧ SameB p H H')
      ⟨[], none, none, none, none, rfl, rfl, Names.nil, eL1, hp1, s1⟩ ?_ ?_⟩
    · rintro i σ H2 hi ⟨zs, x4, x5, x6, x7, rfl, hzl, hzs, eL2, hp2, s2⟩
      refine ⟨⟨_, rfl⟩, _, rfl, p, 8, rfl, hp2, by decide, by decide, fun d H3 d0 d1 hp3 s3 => ?_⟩
      refine ⟨1, d, rfl, rfl, 1 + d, rfl, by omega, by omega, fun F nF => ?_⟩
      have nFp := hp3.ne nF
      have eL3 := s3 L _ nLp eL2
      have nLF : L ≠ F := ne_of_none eL3 nF
      have s23 := s2.trans s3
      refine lc_range (lo := 0) (n := (1 + d).toNat) (fun i H' => Pot H' p ∧ SameB p H H' ∧ H' L = some (.lst (zs.map V.str)) ∧ ∃ ys : List Str, ys.length = i ∧ (∀ y ∈ ys, y.length = 1 ∧ ∀ c ∈ y.cps.toList, small c = true) ∧ H' F = some (.lst (ys.map V.str)))
        ⟨hp3.upd nFp, SameB.new (s23.none hp3 nF) s23, by rw [upd_ne nLF]; exact eL3, [], rfl, fun y hy => absurd hy List.not_mem_nil, upd_same⟩ ?_ ?_
      · rintro j H4 hj ⟨hp4, s4, eL4, ys, hl, hy, eF⟩
        refine ⟨rfl, ?_⟩
        refine ⟨_, rfl, _, rfl, p, 26, rfl, hp4, by decide, by decide, fun e H5 e0 e1 hp5 s5 => ?_⟩
        obtain ⟨c, hc, lc, _⟩ := at_small26 e0 e1
        have eF5 := s5 F _ nFp eF
        refine ⟨_, e, c, rfl, rfl, by decide +kernel, hc, _, eF5, ?_, hp5.upd nFp, SameB.new (s23.none hp3 nF) (s4.trans s5), ?_, ys ++ [⟨#[c]⟩], ?_, ?_, ?_⟩
        · rw [List.length_map, hl]
          exact small2k (by omega)
        · rw [upd_ne nLF]
          exact s5 _ _ nLp eL4
        · rw [List.length_append, hl]
          rfl
        · intro y hm
          rcases List.mem_append.mp hm with h | h
          · exact hy y h
          · obtain rfl := List.mem_singleton.mp h
            refine ⟨rfl, fun x hx => ?_⟩
            obtain rfl : x = c := by simpa using hx
            exact lc
        · rw [upd_same, List.map_append]
          rfl
      · rintro H4 ⟨hp4, s4, eL4, ys, hl, hy, eF⟩
        have h1 : ∀ y ∈ ys, y.length = 1 := fun y h => (hy y h).1
        have ec := join_codes ys
        have el : (Txt.join (Str.ofString "") ys).length = (1 + d).toNat := by
          show (Txt.join (Str.ofString "") ys).cps.size = _
          rw [← Array.length_toList, ec, flat_len ys h1, hl]
        have hnm : Nm (Txt.join (Str.ofString "") ys) := by
          refine ⟨by omega, by omega, fun c hc => ?_⟩
          rw [ec] at hc
          obtain ⟨l, h2, h3⟩ := List.mem_flatten.mp hc
          obtain ⟨y, h4, rfl⟩ := List.mem_map.mp h2
          exact (hy y h4).2 c h3
        refine ⟨_, F, ys, rfl, rfl, .inl (SqL.of eF), ?_, ?_⟩
        · rw [sum_len ys h1, hl, le0]
          omega
        generalize Txt.join (Str.ofString "") ys = z at hnm
        apply joinA (α := Str × Option V) (J := fun a Hx => Nm a.1 ∧ Pot Hx p ∧ SameB p H Hx ∧ Hx L = some (.lst (zs.map V.str)))
          (sl := fun a => [some (.ref p), some (.int m), some (.str (Str.ofString "abcdefghijklmnopqrstuvwxyz")), some (.ref L), some (.int (0 + (i : Nat))), some (.str a.1), a.2, x7])
        · intro h
          refine ⟨_, rfl, by show 0 ≤ sizeLine; decide, fun k nk => ?_⟩
          have nkp := hp4.ne nk
          have nLk : L ≠ k := ne_of_none eL4 nk
          have hp5 := hp4.upd (o := .lst []) nkp
          have s5 : SameB p H (L2.upd H4 k (.lst [])) := SameB.new (s4.none hp4 nk) s4
          have eL5 : L2.upd H4 k (.lst []) L = some (.lst (zs.map V.str)) := by rw [upd_ne nLk]; exact eL4
          have ek5 := upd_same (H := H4) (a := k) (o := .lst [])
          generalize L2.upd H4 k (.lst []) = H5 at *
          refine ⟨L, k, _, rfl, rfl, eL5, ek5, _, rfl, ?_⟩
          cases hz0l : zs[0]? with
          | none =>
            have e : (!(zs.map V.str).isEmpty) = false := by
              rw [List.getElem?_eq_none_iff] at hz0l
              rw [List.length_eq_zero_iff.mp (Nat.le_zero.mp hz0l)]
              rfl
            rw [e]
            exact iteF (iteF (h (z, x6) H5 ⟨hnm, hp5, s5, eL5⟩))
          | some z0 =>
            have e : (!(zs.map V.str).isEmpty) = true := by
              have := (List.getElem?_eq_some_iff.mp hz0l).1
              rw [Bool.not_eq_true', List.isEmpty_eq_false_iff]
              intro e
              rw [List.map_eq_nil_iff] at e
              rw [e] at this
              cases this
            rw [e]
            refine iteT ⟨_, rfl, p, 3, rfl, hp5, by decide, by decide, fun e H6 e0 e1 hp6 s6 => ⟨rfl, _, rfl, ?_⟩⟩
            have eL6 := s6 L _ nLp eL5
            have s56 := s5.trans s6
            refine ite2 (fun _ => ?_) (fun _ => h (z, x6) H6 ⟨hnm, hp6, s56, eL6⟩)
            have hz0 := hzs.nm z0 (List.mem_of_getElem? hz0l)
            have z8 := hz0.l8
            have z1 := hz0.l1
            have hat : atI (zs.map V.str) 0 = some (.str z0) := atI_nat (j := 0) (by rw [List.getElem?_map, hz0l]; rfl)
            refine ⟨_, rfl, _, rfl, L, _, 0, .str z0, rfl, rfl, SqL.of eL6, hat, z0, rfl, small_txt (by omega), p, (z0.length : Nat), rfl, hp6, by omega, by omega, fun t H7 t0 t1 hp7 s7 => ?_⟩
            have eL7 := s7 L _ nLp eL6
            refine ⟨_, rfl, L, _, 0, .str z0, rfl, rfl, SqL.of eL7, hat, _, rfl, _, rfl, z0, rfl, small_txt (by omega), ?_⟩
            refine ⟨_, rfl, _, rfl, p, 26, rfl, hp7, by decide, by decide, fun e H8 e0 e1 hp8 s8 => ?_⟩
            have eL8 := s8 L _ nLp eL7
            obtain ⟨c, hc, lc, _⟩ := at_small26 e0 e1
            have c1 := cutS_length z0 none (some t)
            have c2 := cutS_length z0 (some (t + 1)) none
            have l1 : (⟨#[c]⟩ : Str).length = 1 := rfl
            refine ⟨_, e, c, rfl, rfl, by decide +kernel, hc, _, _, rfl, rfl, small_txt (by omega), ?_⟩
            refine ⟨_, rfl, L, _, 0, .str z0, rfl, rfl, SqL.of eL8, hat, _, rfl, _, _, rfl, rfl, _, rfl, z0, rfl, small_txt (by omega), _, _, rfl, rfl, small_txt (by rw [str_app_len]; omega), ?_⟩
            refine h (_, some (.int t)) H8 ⟨?_, hp8, s56.trans (s7.trans s8), eL8⟩
            show Nm (cutS z0 none (some t) ++ (⟨#[c]⟩ : Str) ++ cutS z0 (some (t + 1)) none)
            rw [turned_eq t0]
            exact nm_turned hz0 (by omega) lc
        rintro ⟨z', x6'⟩ H5 ⟨hnm5, hp5, s5, eL5⟩
        refine ⟨_, rfl, by decide, by decide, for_range (lo := 0) (n := 676) (fun j σ H' => H' = H5 ∧ ∃ (y : Str) (x7' : Option V), σ = [some (.ref p), some (.int m), some (.str (Str.ofString "abcdefghijklmnopqrstuvwxyz")), some (.ref L), some (.int (0 + (i : Nat))), some (.str y), x6', x7'] ∧ Nm y ∧ (y ∈ zs → ∀ k, k < j → cand k ∈ zs))
          ⟨rfl, z', x7, rfl, hnm5, fun _ k hk => absurd hk (Nat.not_lt_zero _)⟩ ?_ ?_⟩
        · rintro j σ H6 hj ⟨rfl, y, x7', rfl, hy, hc⟩
          refine ⟨_, rfl, _, rfl, L, _, rfl, .inl (SqL.of eL5), rfl, strs_flat zs, _, rfl, ?_⟩
          rw [inV_dec]
          refine ite2 (fun hm => ?_) (fun hm => ?_)
          · have hm := of_decide_eq_true hm
            have j0 : (0 : Int) + ((j : Nat) : Int) = (j : Nat) := by omega
            rw [j0]
            obtain ⟨c, hc1, _, hc3⟩ := at_small26 (d := ((j : Nat) : Int) / 26) (by omega) (by omega)
            obtain ⟨e, he1, _, he3⟩ := at_small26 (d := ((j : Nat) : Int) % 26) (by omega) (by omega)
            have q1 : (Str.ofString "q").length = 1 := by decide +kernel
            have l1 : (⟨#[c]⟩ : Str).length = 1 := rfl
            have l2 : (⟨#[e]⟩ : Str).length = 1 := rfl
            refine ⟨_, rfl, _, rfl, _, _, rfl, rfl, ⟨by decide, by decide⟩, _, _, c, rfl, rfl, by decide +kernel, hc1, _, _, rfl, rfl, small_txt (by omega), ?_⟩
            refine ⟨_, rfl, _, rfl, _, _, rfl, rfl, by show (0 : Int) < 26; decide, _, _, e, rfl, rfl, by decide +kernel, he1, _, _, rfl, rfl, small_txt (by rw [str_app_len]; omega), ?_⟩
            refine ⟨rfl, Str.ofString "q" ++ (⟨#[c]⟩ : Str) ++ (⟨#[e]⟩ : Str), _, rfl, ?_⟩
            rw [cand_eq hc3 he3]
            refine ⟨cand_nm (by omega), fun hin k hk => ?_⟩
            rcases Nat.lt_succ_iff_lt_or_eq.mp hk with h | h
            · exact hc hm k h
            · rw [h]
              exact hin
          · exact ⟨rfl, y, _, rfl, hy, fun h => absurd (decide_eq_true h) hm⟩
        · rintro σ H6 ⟨rfl, y, x7', rfl, hy, hc⟩
          have hout : y ∉ zs := fun h => by
            have := cand_few (hc h)
            omega
          refine ⟨_, rfl, .inl ⟨rfl, _, SqL.of eL5⟩, _, rfl, L, _, _, rfl, rfl, eL5, by rw [List.length_map]; exact small2k (by omega), ?_⟩
          refine ⟨zs ++ [y], _, _, _, _, rfl, by rw [List.length_append, hzl]; rfl, hzs.snoc hy hout, ?_, hp5.upd nLp, SameB.new nL s5⟩
          rw [upd_same, List.map_append]
          rfl
    · rintro σ H2 ⟨zs, x4, x5, x6, x7, rfl, hzl, hzs, eL2, hp2, s2⟩
      exact ⟨_, rfl, q L zs H2 nL eL2 hzs hzl hp2 s2⟩
theorem sc__law_plan : FnScope ["_law_pot_here", "_law_most", "_law_names_here", "_law_grades", "_law_lights", "_law_far_here", "_law_first", "_law_name"] ["_law_pot_here", "_law_most"] (defScope s__law_plan) := ⟨rfl, rfl, rfl, by decide +kernel, rfl, by decide +kernel, by decide +kernel⟩
theorem ok__law_plan (D : All K P mg) : FnOk P w K mg base CX0 3 D.f__law_plan D.d__law_plan ["_law_pot_here", "_law_most"] (spPlanD) := by
  refine D.h__law_plan.fn.ok sc__law_plan (fun vs H Q E h => ?_) (fun cdv A outer s H vs Q E hr h => ?_)
  · first | (obtain ⟨_, rfl, _⟩ := h; rfl) | (obtain ⟨_, _, rfl, _⟩ := h; rfl) | (obtain ⟨_, _, _, rfl, _⟩ := h; rfl) | (obtain ⟨_, _, _, _, rfl, _⟩ := h; rfl) | (obtain ⟨_, _, _, _, _, rfl, _⟩ := h; rfl) | (obtain ⟨_, _, _, _, _, _, rfl, _⟩ := h; rfl) | (obtain ⟨_, _, _, _, _, _, _, rfl, _⟩ := h; rfl) | (obtain ⟨_, _, _, _, _, _, _, _, rfl, _⟩ := h; rfl) | (obtain ⟨_, _, _, _, _, _, _, _, _, rfl, _⟩ := h; rfl) | (obtain ⟨_, _, _, _, _, _, _, _, _, _, rfl, _⟩ := h; rfl) | (obtain ⟨_, _, _, _, _, _, _, _, _, _, _, rfl, _⟩ := h; rfl) | (obtain ⟨_, _, _, _, _, _, _, _, _, _, _, _, rfl, _⟩ := h; rfl) | (obtain ⟨_, _, _, _, _, _, _, _, _, _, _, _, _, rfl, _⟩ := h; rfl) | (obtain ⟨_, _, _, _, _, _, _, _, _, _, _, _, _, _, rfl, _⟩ := h; rfl) | (obtain ⟨_, _, _, _, _, _, _, _, _, _, _, _, _, _, _, rfl, _⟩ := h; rfl)
  · have T := D.T
    have nd := sc__law_plan.nd
    have hu := hr.units
    have hu1 := hu_of hr
    have hu0 := hr.units0
    obtain ⟨p, m, rfl, hp, m0, m1, q⟩ := h
    refine ⟨_, pss_cons (ps_set (i := 2) nd rfl (.inl rfl) (pe_call (ok__law_names D) (hr.mono (by decide)) (by rfl) D.h__law_names.gl D.h__law_names.fn.kp D.h__law_names.bd .nil pass0 (pa_cons (pv 0) (pa_cons (pe_call (ok__law_take D) (hr.mono (by decide)) (by rfl) D.h__law_take.gl D.h__law_take.fn.kp D.h__law_take.bd .nil pass0 (pa_cons (pv 0) (pa_cons (pe_op op_add (pv 1) pe_int) pa_nil))) pa_nil))))
      (pss_cons (ps_set (i := 3) nd rfl (.inl rfl) (pe_callTy (call_dictP rfl) (by rfl) T.dict (by decide +kernel) (pa_cons (pe_lc (own := [("_law_name", 7)]) (g := gName 7) (tt := tYes) rfl nd (pi_list (pv 2)) (blkOk_by (N := ["_law_pot_here", "_law_most", "_law_names_here", "_law_grades", "_law_lights", "_law_far_here", "_law_first", "_law_name"]) (sc := defScope s__law_plan) (by decide +kernel)) (fun _ _ _ _ _ => (pg_name (i := 7) nd rfl (Or.inl rfl))) (fun _ _ _ _ _ => pts_nil) (fun _ _ _ _ _ => (pe_tup (pa_cons (pv 7) (pa_cons (pe_op op_add pe_int (pe_call (ok__law_take D) (hr.mono (by decide)) (by rfl) D.h__law_take.gl D.h__law_take.fn.kp D.h__law_take.bd .nil pass0 (pa_cons (pv 0) (pa_cons (pe_ix (show IxR _ (rIxL K) from ix_list) (pe_lst (pa_cons pe_int (pa_cons pe_int pa_nil))) (pe_call (ok__law_take D) (hr.mono (by decide)) (by rfl) D.h__law_take.gl D.h__law_take.fn.kp D.h__law_take.bd .nil pass0 (pa_cons (pv 0) (pa_cons pe_int pa_nil))) (fun _ _ => rfl)) pa_nil)))) pa_nil))))) pa_nil)))
      (pss_cons (ps_set (i := 4) nd rfl (.inl rfl) (pe_call (ok__law_names D) (hr.mono (by decide)) (by rfl) D.h__law_names.gl D.h__law_names.fn.kp D.h__law_names.bd .nil pass0 (pa_cons (pv 0) (pa_cons (pe_op op_add pe_int (pe_call (ok__law_take D) (hr.mono (by decide)) (by rfl) D.h__law_take.gl D.h__law_take.fn.kp D.h__law_take.bd .nil pass0 (pa_cons (pv 0) (pa_cons pe_int pa_nil)))) pa_nil))))
      (pss_cons (ps_par (i := 5) (j := 6) (by rfl) nd rfl rfl (by decide) rfl rfl (pa_cons (pe_call (ok__law_far D) (hr.mono (by decide)) (by rfl) D.h__law_far.gl D.h__law_far.fn.kp D.h__law_far.bd .nil pass0 (pa_cons (pv 0) pa_nil)) (pa_cons (pe_call (ok__law_far D) (hr.mono (by decide)) (by rfl) D.h__law_far.gl D.h__law_far.fn.kp D.h__law_far.bd .nil pass0 (pa_cons (pv 0) pa_nil)) pa_nil)) (by rfl))
      (pss_one (ps_ret (pe_disp (pps_cons pe_str (pv 2) (pps_cons pe_str (pv 3) (pps_cons pe_str (pv 4) (pps_cons pe_str (pv 5) (pps_cons pe_str (pv 6) (pps_cons pe_str (pe_lst pa_nil) pps_nil)))))) rfl rfl (by decide) (by decide))))))), ?_⟩
    refine ⟨_, rfl, _, rfl, _, rfl, _, _, rfl, rfl, p, m + 1, rfl, hp, by omega, by omega, fun d H1 d0 d1 hp1 s1 => ?_⟩
    refine ⟨p, d, rfl, hp1, d0, by omega, fun n zs H2 nn en hzs hzl hp2 s2 => ?_⟩
    have s12 := s1.trans s2
    have nnp := hp1.ne nn
    have nn0 := s1.none hp1 nn
    refine ⟨_, rfl, n, rfl, ⟨_, SqL.of en⟩, fun F nF => ?_⟩
    have nFp := hp2.ne nF
    have nF0 := s12.none hp2 nF
    have nnF : n ≠ F := ne_of_none en nF
    refine lc_list (K := K) (a := n) (xs := zs.map V.str) (fun i H' => Pot H' p ∧ SameB p H H' ∧ H' n = some (.lst (zs.map V.str)) ∧ ∃ (ts : List Addr) (rs : List (Str × Int)), H' F = some (.lst (ts.map V.ref)) ∧ PairsP H' ts rs ∧ rs.map (·.1) = zs.take i ∧ ∀ x ∈ rs, 1 ≤ x.2 ∧ x.2 ≤ 9)
      ⟨hp2.upd nFp, SameB.new nF0 s12, by rw [upd_ne nnF]; exact en, [], [], upd_same, .nil, rfl, nofun⟩ (fun i H' _ ⟨_, _, e, _⟩ => SqL.of e) ?_ ?_
    · rintro i x H3 hx ⟨hp3, s3, en3, ts, rs, eF, hpr, ek, hb⟩
      rw [List.getElem?_map, Option.map_eq_some_iff] at hx
      obtain ⟨z, hz, rfl⟩ := hx
      have il := (List.getElem?_eq_some_iff.mp hz).1
      refine ⟨rfl, _, rfl, _, rfl, by show 2 ≤ sizeLine; decide, fun k nk => ?_⟩
      have nkp := hp3.ne nk
      have ek3 := upd_same (H := H3) (a := k) (o := .lst [V.int 9, .int 2])
      have hp4 := hp3.upd (o := .lst [V.int 9, .int 2]) nkp
      have s4 := SameB.new (o := .lst [V.int 9, .int 2]) (s3.none hp3 nk) s3
      have en4 : L2.upd H3 k (.lst [V.int 9, .int 2]) n = some (.lst (zs.map V.str)) := by rw [upd_ne (ne_of_none en3 nk)]; exact en3
      have eF4 : L2.upd H3 k (.lst [V.int 9, .int 2]) F = some (.lst (ts.map V.ref)) := by rw [upd_ne (ne_of_none eF nk)]; exact eF
      have hpr4 := hpr.new (o := .lst [V.int 9, .int 2]) nk
      generalize L2.upd H3 k (.lst [V.int 9, .int 2]) = H4 at *
      refine ⟨_, rfl, p, 2, rfl, hp4, by decide, by decide, fun e H5 e0 e1 hp5 s5 => ?_⟩
      have pick : ∃ y : Int, 1 ≤ y ∧ y ≤ 9 ∧ atI [V.int 9, .int 2] e = some (.int y) := by
        have he : e = 0 ∨ e = 1 := by omega
        rcases he with rfl | rfl
        · exact ⟨9, by decide, by decide, atI_nat (j := 0) rfl⟩
        · exact ⟨2, by decide, by decide, atI_nat (j := 1) rfl⟩
      obtain ⟨y, y1, y9, ey⟩ := pick
      refine ⟨k, _, e, .int y, rfl, rfl, SqL.of (s5 _ _ nkp ek3), ey, p, y, rfl, hp5, by omega, by omega, fun g H6 g0 g1 hp6 s6 => ?_⟩
      refine ⟨_, _, rfl, rfl, by show 2 ≤ sizeLine; decide, fun t nt => ?_⟩
      have s456 := s5.trans s6
      have ntp := hp6.ne nt
      have en6 := s456 _ _ nnp en4
      have eF6 := s456 _ _ nFp eF4
      have hpr6 := hpr4.monoB hp4 s456
      have et := upd_same (H := H6) (a := t) (o := .tup [V.str z, .int (1 + g)])
      have hp7 := hp6.upd (o := .tup [V.str z, .int (1 + g)]) ntp
      have s7 := SameB.new (o := .tup [V.str z, .int (1 + g)]) ((s4.trans s456).none hp6 nt) (s4.trans s456)
      have en7 : L2.upd H6 t (.tup [V.str z, .int (1 + g)]) n = some (.lst (zs.map V.str)) := by rw [upd_ne (ne_of_none en6 nt)]; exact en6
      have eF7 : L2.upd H6 t (.tup [V.str z, .int (1 + g)]) F = some (.lst (ts.map V.ref)) := by rw [upd_ne (ne_of_none eF6 nt)]; exact eF6
      have hpr7 := (hpr6.new (o := .tup [V.str z, .int (1 + g)]) nt).snoc et
      generalize L2.upd H6 t (.tup [V.str z, .int (1 + g)]) = H7 at *
      have tl : ts.length = rs.length := Paired.length hpr
      have rl := congrArg List.length ek
      rw [List.length_map, List.length_take] at rl
      refine ⟨_, eF7, by rw [List.length_map]; exact small2k (by omega), hp7.upd nFp, SameB.new nF0 s7, by rw [upd_ne nnF]; exact en7, ts ++ [t], rs ++ [(z, 1 + g)], ?_, hpr7.upd eF7, ?_, ?_⟩
      · rw [upd_same, List.map_append]
        rfl
      · rw [List.map_append, ek, take_snoc hz]
        rfl
      · intro x hx
        rcases List.mem_append.mp hx with hx | hx
        · exact hb x hx
        · rw [List.mem_singleton.mp hx]
          exact ⟨by show 1 ≤ 1 + g; omega, by show 1 + g ≤ 9; omega⟩
    · rintro H3 ⟨hp3, s3, en3, ts, rs, eF, hpr, ek, hb⟩
      rw [List.length_map, List.take_length] at ek
      refine ⟨F, ts, sd rs, rfl, SqL.of eF, hpr.kv, fun r nr => ?_⟩
      rw [merge_nodup (by rw [ek]; exact hzs.nd)]
      have nrp := hp3.ne nr
      have nr0 := s3.none hp3 nr
      have er := upd_same (H := H3) (a := r) (o := .dK (sd rs))
      have hp4 := hp3.upd (o := .dK (sd rs)) nrp
      have s4 := SameB.new (o := .dK (sd rs)) nr0 s3
      have en4 : L2.upd H3 r (.dK (sd rs)) n = some (.lst (zs.map V.str)) := by rw [upd_ne (ne_of_none en3 nr)]; exact en3
      generalize L2.upd H3 r (.dK (sd rs)) = H4 at *
      refine ⟨_, rfl, _, rfl, p, 3, rfl, hp4, by decide, by decide, fun e H5 e0 e1 hp5 s5 => ?_⟩
      refine ⟨_, _, rfl, rfl, p, 1 + e, rfl, hp5, by omega, by omega, fun l ls H6 nl el hls hll hp6 s6 => ?_⟩
      have nlp := hp5.ne nl
      have s45 := s4.trans s5
      have nl0 := s45.none hp5 nl
      refine ⟨_, rfl, p, rfl, hp6, fun far H7 f0 f1 hp7 s7 => ?_⟩
      refine ⟨_, rfl, p, rfl, hp7, fun kn H8 k0 k1 hp8 s8 => ⟨_, _, rfl, ?_⟩⟩
      have s78 := s7.trans s8
      have s58 := s6.trans s78
      have s48 := s5.trans s58
      have s08 := s4.trans s48
      have en8 := s48 _ _ nnp en4
      have er8 := s48 _ _ nrp er
      have el8 := s78 _ _ nlp el
      refine fun P nP => ?_
      have nPp := hp8.ne nP
      have nP0 := s08.none hp8 nP
      have eP := upd_same (H := H8) (a := P) (o := .dK [])
      have hp9 := hp8.upd (o := .dK []) nPp
      have s9 := SameB.new (o := .dK []) nP0 s08
      have up9 : ∀ {c : Addr} {o : HO}, H8 c = some o → L2.upd H8 P (.dK []) c = some o := fun e => by rw [upd_ne (ne_of_none e nP)]; exact e
      have en9 := up9 en8
      have er9 := up9 er8
      have el9 := up9 el8
      generalize L2.upd H8 P (.dK []) = H9 at *
      refine ⟨_, rfl, _, rfl, _, rfl, _, rfl, _, rfl, by show 0 ≤ sizeLine; decide, fun la nla => ?_⟩
      have nlap := hp9.ne nla
      have nla0 := s9.none hp9 nla
      have ela := upd_same (H := H9) (a := la) (o := .lst [])
      have hpA := hp9.upd (o := .lst []) nlap
      have sA := SameB.new (o := .lst []) nla0 s9
      have upA : ∀ {c : Addr} {o : HO}, H9 c = some o → L2.upd H9 la (.lst []) c = some o := fun e => by rw [upd_ne (ne_of_none e nla)]; exact e
      have enA' := upA en9
      have erA := upA er9
      have elA := upA el9
      have ePA := upA eP
      generalize L2.upd H9 la (.lst []) = HA at *
      refine ⟨ePA, planK ⟨n, r, l, zs, rs, ls, far⟩ kn la, rfl, by show 6 ≤ 15; decide, ?_⟩
      rw [plan_merge]
      have nnP : n ≠ P := ne_of enA' ePA (by intro z; cases z)
      have nlP : l ≠ P := ne_of elA ePA (by intro z; cases z)
      have nlaP : la ≠ P := ne_of ela ePA (by intro z; cases z)
      have nrP : r ≠ P := fun z => by rw [z, nP] at er8; cases er8
      refine q P la ⟨n, r, l, zs, rs, ls, far⟩ kn _ nP0 ⟨hzs, hls, by show 0 < ls.length; omega, ek, ⟨by rw [ek]; exact hzs.nd, fun x hx => hzs.nm x.1 (by rw [← ek]; exact List.mem_map.mpr ⟨x, hx, rfl⟩), hb, ?_⟩, f0, f1, by show zs.length ≤ 30; omega, by show ls.length ≤ 3; omega⟩ k0 ⟨ho_in (fun h => nnP (List.mem_singleton.mp h)) (new_at nn0 ?_), ho_in (fun h => nrP (List.mem_singleton.mp h)) (new_at nr0 ?_), ho_in (fun h => nlP (List.mem_singleton.mp h)) (new_at nl0 ?_)⟩ (ho_in (fun h => nlaP (List.mem_singleton.mp h)) (new_at nla0 ?_)) upd_same (hpA.upd nPp) (SameB.new nP0 sA)
      · have := congrArg List.length ek
        rw [List.length_map] at this
        show rs.length ≤ 30
        omega
      · rw [upd_ne nnP]
        exact enA'
      · rw [upd_ne nrP]
        exact erA
      · rw [upd_ne nlP]
        exact elA
      · rw [upd_ne nlaP]
        exact ela
theorem sc__law_worth : FnScope ["_law_pot_here", "_law_kind", "_law_lamp"] ["_law_pot_here", "_law_kind", "_law_lamp"] (defScope s__law_worth) := ⟨rfl, rfl, rfl, by decide +kernel, rfl, by decide +kernel, by decide +kernel⟩
theorem ok__law_worth (D : All K P mg) : FnOk P w K mg base CX0 3 D.f__law_worth D.d__law_worth ["_law_pot_here", "_law_kind", "_law_lamp"] spWorth := by
  refine D.h__law_worth.fn.ok sc__law_worth (fun vs H Q E h => ?_) (fun cdv A outer s H vs Q E hr h => ?_)
  · first | (obtain ⟨_, rfl, _⟩ := h; rfl) | (obtain ⟨_, _, rfl, _⟩ := h; rfl) | (obtain ⟨_, _, _, rfl, _⟩ := h; rfl) | (obtain ⟨_, _, _, _, rfl, _⟩ := h; rfl) | (obtain ⟨_, _, _, _, _, rfl, _⟩ := h; rfl) | (obtain ⟨_, _, _, _, _, _, rfl, _⟩ := h; rfl) | (obtain ⟨_, _, _, _, _, _, _, rfl, _⟩ := h; rfl) | (obtain ⟨_, _, _, _, _, _, _, _, rfl, _⟩ := h; rfl) | (obtain ⟨_, _, _, _, _, _, _, _, _, rfl, _⟩ := h; rfl) | (obtain ⟨_, _, _, _, _, _, _, _, _, _, rfl, _⟩ := h; rfl) | (obtain ⟨_, _, _, _, _, _, _, _, _, _, _, rfl, _⟩ := h; rfl) | (obtain ⟨_, _, _, _, _, _, _, _, _, _, _, _, rfl, _⟩ := h; rfl) | (obtain ⟨_, _, _, _, _, _, _, _, _, _, _, _, _, rfl, _⟩ := h; rfl) | (obtain ⟨_, _, _, _, _, _, _, _, _, _, _, _, _, _, rfl, _⟩ := h; rfl) | (obtain ⟨_, _, _, _, _, _, _, _, _, _, _, _, _, _, _, rfl, _⟩ := h; rfl)
  · have T := D.T
    have nd := sc__law_worth.nd
    have hu := hr.units
    have hu1 := hu_of hr
    have hu0 := hr.units0
    obtain ⟨p, mv, z, rfl, hp, q⟩ := h
    refine ⟨_, pss_cons (ps_if (pt_cmpR op_eq (pv 1) pe_str (nomark _)) (pss_one (ps_ret (pe_ix ix_list (pe_lst (pa_cons pe_int (pa_cons (pe_call (ok__law_take D) (hr.mono (by decide)) (by rfl) D.h__law_take.gl D.h__law_take.fn.kp D.h__law_take.bd .nil pass0 (pa_cons (pv 0) (pa_cons pe_int pa_nil))) (pa_cons (pe_call (ok__law_far D) (hr.mono (by decide)) (by rfl) D.h__law_far.gl D.h__law_far.fn.kp D.h__law_far.bd .nil pass0 (pa_cons (pv 0) pa_nil)) pa_nil)))) (pe_call (ok__law_take D) (hr.mono (by decide)) (by rfl) D.h__law_take.gl D.h__law_take.fn.kp D.h__law_take.bd .nil pass0 (pa_cons (pv 0) (pa_cons pe_int pa_nil))) (fun _ _ => rfl)))) pss_nil)
      (pss_one (ps_ret (pe_ix ix_list (pe_lst (pa_cons (pv 2) (pa_cons (pv 2) (pa_cons (pv 2) (pa_cons pe_str (pa_cons pe_non pa_nil)))))) (pe_call (ok__law_take D) (hr.mono (by decide)) (by rfl) D.h__law_take.gl D.h__law_take.fn.kp D.h__law_take.bd .nil pass0 (pa_cons (pv 0) (pa_cons pe_int pa_nil))) (fun _ _ => rfl)))), ?_⟩
    refine ⟨_, rfl, rfl, _, rfl, ?_⟩
    rw [kind_land]
    cases mv with
    | false =>
      refine iteT ⟨_, rfl, p, 30, rfl, hp, by decide, by decide, fun d H1 d0 d1 hp1 s1 => ?_⟩
      refine ⟨_, rfl, p, rfl, hp1, fun far H2 f0 f1 hp2 s2 => ?_⟩
      refine ⟨by show 3 ≤ sizeLine; decide, fun k nk => ?_⟩
      have nkp := hp2.ne nk
      have ek := upd_same (H := H2) (a := k) (o := .lst [V.int 0, .int d, .int far])
      have hp3 := hp2.upd (o := .lst [V.int 0, .int d, .int far]) nkp
      have s3 := SameB.new (o := .lst [V.int 0, .int d, .int far]) ((s1.trans s2).none hp2 nk) (s1.trans s2)
      generalize L2.upd H2 k (.lst [V.int 0, .int d, .int far]) = H3 at *
      refine ⟨_, rfl, p, 3, rfl, hp3, by decide, by decide, fun e H4 e0 e1 hp4 s4 => ?_⟩
      obtain ⟨v, hv, ev⟩ := at_any (xs := [V.int 0, .int d, .int far]) e0 e1
      refine ⟨k, _, e, v, rfl, rfl, SqL.of (s4 _ _ nkp ek), ev, q v H4 (fun _ => ?_) nofun hp4 (s3.trans s4)⟩
      simp only [List.mem_cons, List.not_mem_nil, or_false] at hv
      rcases hv with rfl | rfl | rfl
      · exact ⟨0, rfl, by decide, by decide⟩
      · exact ⟨d, rfl, d0, by omega⟩
      · exact ⟨far, rfl, f0, by omega⟩
    | true =>
      refine iteF ⟨_, rfl, _, rfl, _, rfl, by show 5 ≤ sizeLine; decide, fun k nk => ?_⟩
      have nkp := hp.ne nk
      have ek := upd_same (H := H) (a := k) (o := .lst [V.str z, .str z, .str z, .str (Str.ofString ""), .non])
      have hp3 := hp.upd (o := .lst [V.str z, .str z, .str z, .str (Str.ofString ""), .non]) nkp
      have s3 : SameB p H _ := SameB.of (same_upd (o := .lst [V.str z, .str z, .str z, .str (Str.ofString ""), .non]) nk)
      generalize L2.upd H k (.lst [V.str z, .str z, .str z, .str (Str.ofString ""), .non]) = H3 at *
      refine ⟨_, rfl, p, 5, rfl, hp3, by decide, by decide, fun e H4 e0 e1 hp4 s4 => ?_⟩
      obtain ⟨v, hv, ev⟩ := at_any (xs := [V.str z, .str z, .str z, .str (Str.ofString ""), .non]) e0 e1
      refine ⟨k, _, e, v, rfl, rfl, SqL.of (s4 _ _ nkp ek), ev, q v H4 nofun (fun _ => ?_) hp4 (s3.trans s4)⟩
      simp only [List.mem_cons, List.not_mem_nil, or_false] at hv
      rcases hv with rfl | rfl | rfl | rfl | rfl
      · exact .inr ⟨z, rfl, .inl rfl⟩
      · exact .inr ⟨z, rfl, .inl rfl⟩
      · exact .inr ⟨z, rfl, .inl rfl⟩
      · exact .inr ⟨_, rfl, .inr rfl⟩
      · exact .inl rfl
end
end K80
set_option Elab.async false
set_option linter.all false
set_option maxRecDepth 100000
set_option maxHeartbeats 1600000
set_option pp.maxSteps 300
namespace K80
open PySem PySem.Spec PyProof.Rows L2 LT NdefX
section
variable {P : Program} {w : World} {K : PySem.W.Frag} {mg : Str → Option Value} {base : Heap}
def spEventS : Sp := fun vs H Q _ => ∃ (p P la : Addr) (D : PlanD) (kn : Int) (o : Option Evt), vs = [.ref p, .ref P] ∧ Pot H p ∧ H P = some (.dK (planK D kn la)) ∧ PlanI H D ∧ PlanG D ∧ 0 ≤ kn ∧ LastAt H la o ∧ (∀ e, o = some e → EvOK D.rk e) ∧
  ∀ (T la' : Addr) (e : Evt) (H' : Hp), kn ≤ e.kn → (EvOK D.rk e ∧ ∀ n, e.w = .int n → n < 10 ^ 55) → EvT (new H H') T e → LastAt (new H H') la' (some e) → H' P = some (.dK (planK D e.kn la')) → Pot H' p → SameL [p, P] H H' → Q (.ref T) H'
theorem sc__law_event : FnScope ["_law_pot_here", "_law_plan_here", "_law_lamp", "_law_on", "_law_kind", "_law_name", "_law_way", "_law_last"] ["_law_pot_here", "_law_plan_here"] (defScope s__law_event) := ⟨rfl, rfl, rfl, by decide +kernel, rfl, by decide +kernel, by decide +kernel⟩
theorem ok__law_event (D : All K P mg) : FnOk P w K mg base CX0 4 D.f__law_event D.d__law_event ["_law_pot_here", "_law_plan_here"] spEventS := by
  refine D.h__law_event.fn.ok sc__law_event (fun vs H Q E h => ?_) (fun cdv A outer s H vs Q E hr h => ?_)
  · first | (obtain ⟨_, rfl, _⟩ := h; rfl) | (obtain ⟨_, _, rfl, _⟩ := h; rfl) | (obtain ⟨_, _, _, rfl, _⟩ := h; rfl) | (obtain ⟨_, _, _, _, rfl, _⟩ := h; rfl) | (obtain ⟨_, _, _, _, _, rfl, _⟩ := h; rfl) | (obtain ⟨_, _, _, _, _, _, rfl, _⟩ := h; rfl) | (obtain ⟨_, _, _, _, _, _, _, rfl, _⟩ := h; rfl) | (obtain ⟨_, _, _, _, _, _, _, _, rfl, _⟩ := h; rfl) | (obtain ⟨_, _, _, _, _, _, _, _, _, rfl, _⟩ := h; rfl) | (obtain ⟨_, _, _, _, _, _, _, _, _, _, rfl, _⟩ := h; rfl) | (obtain ⟨_, _, _, _, _, _, _, _, _, _, _, rfl, _⟩ := h; rfl) | (obtain ⟨_, _, _, _, _, _, _, _, _, _, _, _, rfl, _⟩ := h; rfl) | (obtain ⟨_, _, _, _, _, _, _, _, _, _, _, _, _, rfl, _⟩ := h; rfl) | (obtain ⟨_, _, _, _, _, _, _, _, _, _, _, _, _, _, rfl, _⟩ := h; rfl) | (obtain ⟨_, _, _, _, _, _, _, _, _, _, _, _, _, _, _, rfl, _⟩ := h; rfl)
  · have T := D.T
    have nd := sc__law_event.nd
    have hu := hr.units
    have hu1 := hu_of hr
    have hu0 := hr.units0
    obtain ⟨p, P, la, D0, kn, o, rfl, hp, hP, hI, hG, k0, hla, hoe, q⟩ := h
    refine ⟨_, pss_cons (ps_dput hu1 (pv 1) pe_str (pe_op op_add (pe_dget hu1 (pv 1) pe_str (fun _ _ => rfl)) (pe_ix ix_list (pe_lst (pa_cons pe_int (pa_cons pe_int (pa_cons pe_int (pa_cons (pe_op op_add pe_int (pe_call (ok__law_take D) (hr.mono (by decide)) (by rfl) D.h__law_take.gl D.h__law_take.fn.kp D.h__law_take.bd .nil pass0 (pa_cons (pv 0) (pa_cons pe_int pa_nil)))) pa_nil))))) (pe_call (ok__law_take D) (hr.mono (by decide)) (by rfl) D.h__law_take.gl D.h__law_take.fn.kp D.h__law_take.bd .nil pass0 (pa_cons (pv 0) (pa_cons pe_int pa_nil))) (fun _ _ => rfl))) rfl)
      (pss_cons (ps_set (i := 2) nd rfl (.inl rfl) (pe_ix ix_list (pe_dget hu1 (pv 1) pe_str (fun _ _ => rfl)) (pe_call (ok__law_take D) (hr.mono (by decide)) (by rfl) D.h__law_take.gl D.h__law_take.fn.kp D.h__law_take.bd .nil pass0 (pa_cons (pv 0) (pa_cons (pe_callB call_len_seq (by rfl) T.len PySem.boot_len (pa_cons (pe_dget hu1 (pv 1) pe_str (fun _ _ => rfl)) pa_nil)) pa_nil))) (fun _ _ => rfl)))
      (pss_cons (ps_set (i := 3) nd rfl (.inl rfl) (pe_op op_add (pe_op op_mul (pe_dget hu1 (pv 1) pe_str (fun _ _ => rfl)) (pe_call (ok__law_take D) (hr.mono (by decide)) (by rfl) D.h__law_take.gl D.h__law_take.fn.kp D.h__law_take.bd .nil pass0 (pa_cons (pv 0) (pa_cons pe_int pa_nil)))) (pe_call (ok__law_take D) (hr.mono (by decide)) (by rfl) D.h__law_take.gl D.h__law_take.fn.kp D.h__law_take.bd .nil pass0 (pa_cons (pv 0) (pa_cons pe_int pa_nil)))))
      (pss_cons (ps_par (i := 4) (j := 5) (by rfl) nd rfl rfl (by decide) rfl rfl (pa_cons pe_str (pa_cons (pv 2) pa_nil)) (by rfl))
      (pss_cons (ps_if (PW.pt (pw_and (pt_cmpR (op_neNil hu) (pe_dget hu1 (pv 1) pe_str (fun _ _ => rfl)) (pe_lst pa_nil) (nomark _)) (pw_and1 (pt_cmpR op_gt (pe_call (ok__law_take D) (hr.mono (by decide)) (by rfl) D.h__law_take.gl D.h__law_take.fn.kp D.h__law_take.bd .nil pass0 (pa_cons (pv 0) (pa_cons pe_int pa_nil))) pe_int (nomark _))))) (pss_one (ps_par (i := 4) (j := 5) (by rfl) nd rfl rfl (by decide) rfl rfl (pa_cons pe_str (pa_cons (pe_ix ix_list (pe_dget hu1 (pv 1) pe_str (fun _ _ => rfl)) (pe_call (ok__law_take D) (hr.mono (by decide)) (by rfl) D.h__law_take.gl D.h__law_take.fn.kp D.h__law_take.bd .nil pass0 (pa_cons (pv 0) (pa_cons (pe_callB call_len_seq (by rfl) T.len PySem.boot_len (pa_cons (pe_dget hu1 (pv 1) pe_str (fun _ _ => rfl)) pa_nil)) pa_nil))) (fun _ _ => rfl)) pa_nil)) (by rfl))) pss_nil)
      (pss_cons (ps_set (i := 6) nd rfl (.inl rfl) (pe_call (ok__law_take D) (hr.mono (by decide)) (by rfl) D.h__law_take.gl D.h__law_take.fn.kp D.h__law_take.bd .nil pass0 (pa_cons (pv 0) (pa_cons pe_int pa_nil))))
      (pss_cons (ps_for PassesOwn.never rfl (pi_list (pe_dget hu1 (pv 1) pe_str (fun _ _ => rfl))) (pg_name (i := 7) nd rfl (Or.inl rfl)) (pss_one (ps_if (pt_cmpR op_eq (pv 6) pe_int (nomark _)) (pss_one (ps_asg (pv 7) (pg_tup rfl (pgs_cons (pg_name (i := 4) nd rfl (Or.inl rfl)) (pgs_cons (pg_name (i := 5) nd rfl (Or.inl rfl)) (pgs_cons (pg_name (i := 3) nd rfl (Or.inl rfl)) pgs_nil)))))) (pss_one (ps_if (pt_cmpR op_eq (pv 6) pe_int (nomark _)) (pss_one (ps_set (i := 3) nd rfl (.inl rfl) (pe_ix ix_tup (pv 7) pe_int (fun _ _ => rfl)))) pss_nil)))))
      (pss_cons (ps_dput hu1 (pv 1) pe_str (pe_lst (pa_cons (pe_tup (pa_cons (pv 4) (pa_cons (pv 5) (pa_cons (pv 3) pa_nil)))) pa_nil)) rfl)
      (pss_one (ps_ret (pe_tup (pa_cons (pv 4) (pa_cons (pe_dget hu1 (pv 1) pe_str (fun _ _ => rfl)) (pa_cons (pv 5) (pa_cons (pv 3) (pa_cons (pe_call (ok__law_worth D) (hr.mono (by decide)) (by rfl) D.h__law_worth.gl D.h__law_worth.fn.kp D.h__law_worth.bd .nil pass0 (pa_cons (pv 0) (pa_cons (pv 4) (pa_cons (pv 2) pa_nil)))) pa_nil))))))))))))))), ?_⟩
    have pPne : P ≠ p := ne_of_pot hp hP
    have mp : p ∈ [p, P] := List.mem_cons_self
    have mP : P ∈ [p, P] := List.mem_cons_of_mem _ List.mem_cons_self
    refine ⟨_, rfl, P, _, rfl, pg_known hP, ?_⟩
    refine ⟨_, rfl, p, 9, rfl, hp, by decide, by decide, fun a H1 a0 a1 hp1 s1 => ⟨_, _, rfl, rfl, by show 4 ≤ sizeLine; decide, fun k nk => ?_⟩⟩
    have nkp := hp1.ne nk
    have ek := upd_same (H := H1) (a := k) (o := .lst [V.int 0, .int 0, .int 1, .int (1 + a)])
    have hp2 := hp1.upd (o := .lst [V.int 0, .int 0, .int 1, .int (1 + a)]) nkp
    have s2 := SameB.new (o := .lst [V.int 0, .int 0, .int 1, .int (1 + a)]) (s1.none hp1 nk) s1
    generalize L2.upd H1 k (.lst [V.int 0, .int 0, .int 1, .int (1 + a)]) = H2 at *
    refine ⟨_, rfl, p, 4, rfl, hp2, by decide, by decide, fun d H3 d0 d1 hp3 s3 => ?_⟩
    have pick : ∃ y : Int, 0 ≤ y ∧ atI [V.int 0, .int 0, .int 1, .int (1 + a)] d = some (.int y) := by
      obtain ⟨v, hv, ev⟩ := at_any (xs := [V.int 0, .int 0, .int 1, .int (1 + a)]) d0 d1
      simp only [List.mem_cons, List.not_mem_nil, or_false] at hv
      rcases hv with rfl | rfl | rfl | rfl
      · exact ⟨0, by decide, ev⟩
      · exact ⟨0, by decide, ev⟩
      · exact ⟨1, by decide, ev⟩
      · exact ⟨1 + a, by omega, ev⟩
    obtain ⟨y, y0, ey⟩ := pick
    refine ⟨k, _, d, .int y, rfl, rfl, SqL.of (s3 _ _ nkp ek), ey, _, _, rfl, rfl, ?_⟩
    have s03 := s2.trans s3
    have hP3 := s03 _ _ pPne hP
    have hI3 := hI.monoB hp s03
    have hla3 := hla.monoB hp s03
    refine ⟨_, rfl, P, _, rfl, DPut.k (k := Sum.inr "known") hP3 (by show 6 < sizeLine; decide), ?_⟩
    rw [plan_put_known]
    generalize hkn : kn + y = kn'
    have kle : kn ≤ kn' := by omega
    have nP := ne_of hI3.hn hP3 (by intro z; cases z)
    have lP := ne_of hI3.hl hP3 (by intro z; cases z)
    have hP4 := upd_same (H := H3) (a := P) (o := .dK (planK D0 kn' la))
    have hp4 := hp3.upd (o := .dK (planK D0 kn' la)) pPne
    have s4 : SameL [p, P] H (L2.upd H3 P (.dK (planK D0 kn' la))) := SameL.upd mP (SameL.ofB mp s03)
    have hn4 : L2.upd H3 P (.dK (planK D0 kn' la)) D0.n = some (.lst (D0.zs.map V.str)) := by rw [upd_ne nP]; exact hI3.hn
    have hl4 : L2.upd H3 P (.dK (planK D0 kn' la)) D0.l = some (.lst (D0.ls.map V.str)) := by rw [upd_ne lP]; exact hI3.hl
    have hla4 : LastAt (L2.upd H3 P (.dK (planK D0 kn' la))) la o := by
      cases o with
      | none =>
        show L2.upd H3 P _ la = _
        rw [upd_ne (ne_of hla3 hP3 (by intro z; cases z))]
        exact hla3
      | some e =>
        obtain ⟨t, e1, e2⟩ := hla3
        exact ⟨t, by rw [upd_ne (ne_of e1 hP3 (by intro z; cases z))]; exact e1, by rw [upd_ne (ne_of e2 hP3 (by intro z; cases z))]; exact e2⟩
    clear hP3 hI3 hla3 s03 s3 s2 s1 ek
    generalize L2.upd H3 P (.dK (planK D0 kn' la)) = H4 at *
    have ll := hG.l0
    have l8 := hG.l8
    have z8 := hG.z8
    refine ⟨_, rfl, P, _, rfl, pg_lights hP4, _, rfl, _, rfl, P, _, rfl, pg_lights hP4, D0.l, _, rfl, .inl (SqL.of hl4), p, _, rfl, hp4, by rw [List.length_map]; omega, by rw [List.length_map]; omega, fun d H5 d0 d1 hp5 s5 => ?_⟩
    have hlp : D0.l ≠ p := ne_of_pot hp4 hl4 strs_no_pot
    have hl5 := s5 _ _ hlp hl4
    rw [List.length_map] at d1
    obtain ⟨lz, hlz, hlm, hla'⟩ := str_at d0 d1
    refine ⟨D0.l, _, d, .str lz, rfl, rfl, SqL.of hl5, hla', ?_⟩
    have lnm := hG.ls.nm lz hlm
    have hP5 := s5 _ _ pPne hP4
    have hn5 := s5 _ _ (ne_of_pot hp4 hn4 strs_no_pot) hn4
    have hla5 := hla4.monoB hp4 s5
    have sL5 := s4.trans (SameL.ofB mp s5)
    have f0 := hG.f0
    refine ⟨_, rfl, P, _, rfl, pg_far hP5, _, rfl, p, 2, rfl, hp5, by decide, by decide, fun e H6 e0 e1 hp6 s6 => ⟨_, _, rfl, rfl, .inr ⟨by omega, by omega⟩, _, rfl, p, 24, rfl, hp6, by decide, by decide, fun g H7 g0 g1 hp7 s7 => ⟨_, _, rfl, rfl, ?_⟩⟩⟩
    have day0 : 0 ≤ D0.far * e + g ∧ D0.far * e + g < 10 ^ 55 := by
      refine ⟨Int.add_nonneg (Int.mul_nonneg f0 e0) g0, ?_⟩
      have f1 := hG.f1
      have : e = 0 ∨ e = 1 := by omega
      rcases this with rfl | rfl <;> omega
    show gName 3 (V.int (D0.far * e + g)) _ _ _
    generalize D0.far * e + g = day at day0 ⊢
    have s67 := s6.trans s7
    have hP7 := s67 _ _ pPne hP5
    have hn7 := s67 _ _ (ne_of_pot hp5 hn5 strs_no_pot) hn5
    have hla7 := hla5.monoB hp5 s67
    have sL7 := sL5.trans (SameL.ofB mp s67)
    refine ⟨_, rfl, _, _, rfl, ?_⟩
    clear hP5 hn5 hla5 hP4 hn4 hla4 hl4 hl5
    apply joinA (α := Bool × Str) (J := fun a Hx => (a.1 = true → a.2 ∈ D0.zs) ∧ Nm a.2 ∧ Pot Hx p ∧ Hx P = some (.dK (planK D0 kn' la)) ∧ Hx D0.n = some (.lst (D0.zs.map V.str)) ∧ LastAt Hx la o ∧ SameL [p, P] H Hx)
      (sl := fun a => [some (.ref p), some (.ref P), some (.str lz), some (.int day), some (.str (kindS a.1)), some (.str a.2), none, none])
    · intro h
      refine ⟨_, rfl, P, _, rfl, pg_names hP7, by show 0 ≤ sizeLine; decide, fun k nk => ?_⟩
      have nkp := hp7.ne nk
      have ek8 := upd_same (H := H7) (a := k) (o := .lst [])
      have hp8 := hp7.upd (o := .lst []) nkp
      have up8 : ∀ {c : Addr} {o : HO}, H7 c = some o → L2.upd H7 k (.lst []) c = some o := fun e => by rw [upd_ne (ne_of_none e nk)]; exact e
      have hP8 := up8 hP7
      have hn8 := up8 hn7
      have hla8 := hla7.mono (same_upd (o := .lst []) nk)
      have sL8 := SameL.new (o := .lst []) nk sL7
      generalize L2.upd H7 k (.lst []) = H8 at *
      refine ⟨D0.n, k, _, rfl, rfl, hn8, ek8, _, rfl, ?_⟩
      by_cases hz : D0.zs = []
      · have e : (!(D0.zs.map V.str).isEmpty) = false := by rw [hz]; rfl
        rw [e]
        exact iteF (iteF (h (false, lz) H8 ⟨nofun, lnm, hp8, hP8, hn8, hla8, sL8⟩))
      · have e : (!(D0.zs.map V.str).isEmpty) = true := by
          rw [Bool.not_eq_true', List.isEmpty_eq_false_iff]
          intro e
          rw [List.map_eq_nil_iff] at e
          exact hz e
        rw [e]
        have zl : 0 < D0.zs.length := List.length_pos_iff.mpr hz
        refine iteT ⟨_, rfl, p, 4, rfl, hp8, by decide, by decide, fun e H9 e0 e1 hp9 s9 => ⟨_, _, rfl, rfl, _, rfl, ?_⟩⟩
        have hP9 := s9 _ _ pPne hP8
        have hnp : D0.n ≠ p := ne_of_pot hp8 hn8 strs_no_pot
        have hn9 := s9 _ _ hnp hn8
        have hla9 := hla8.monoB hp8 s9
        have sL9 := sL8.trans (SameL.ofB mp s9)
        refine ite2 (fun _ => ?_) (fun _ => h (false, lz) H9 ⟨nofun, lnm, hp9, hP9, hn9, hla9, sL9⟩)
        refine ⟨_, rfl, P, _, rfl, pg_names hP9, _, rfl, _, rfl, P, _, rfl, pg_names hP9, D0.n, _, rfl, .inl (SqL.of hn9), p, _, rfl, hp9, by rw [List.length_map]; omega, by rw [List.length_map]; omega, fun d H10 d0 d1 hp10 s10 => ?_⟩
        have hn10 := s10 _ _ hnp hn9
        rw [List.length_map] at d1
        obtain ⟨z, hz1, hz2, hz3⟩ := str_at d0 d1
        refine ⟨D0.n, _, d, .str z, rfl, rfl, SqL.of hn10, hz3, _, _, rfl, ?_⟩
        exact h (true, z) H10 ⟨fun _ => hz2, hG.zs.nm z hz2, hp10, s10 _ _ pPne hP9, hn10, hla9.monoB hp9 s10, sL9.trans (SameL.ofB mp s10)⟩
    rintro ⟨mv, z⟩ H8 ⟨hmz, hnm, hp8, hP8, hn8, hla8, sL8⟩
    refine ⟨_, rfl, p, 5, rfl, hp8, by decide, by decide, fun way H9 w0 w1 hp9 s9 => ?_⟩
    have hP9 := s9 _ _ pPne hP8
    have hla9 := hla8.monoB hp8 s9
    have sL9 := sL8.trans (SameL.ofB mp s9)
    have lst : ∃ xs : List V, H9 la = some (.lst xs) ∧ ∀ y ∈ xs, ∃ t e0, y = .ref t ∧ o = some e0 ∧ H9 t = some (.tup [.str (kindS e0.mv), .str e0.who, .int e0.day]) := by
      cases o with
      | none => exact ⟨[], hla9, nofun⟩
      | some e0 =>
        obtain ⟨t, e1, e2⟩ := hla9
        refine ⟨[.ref t], e1, fun y hy => ⟨t, e0, List.mem_singleton.mp hy, rfl, e2⟩⟩
    obtain ⟨xs, exs, hxs⟩ := lst
    refine ⟨_, rfl, P, _, rfl, pg_last hP9, la, rfl, ⟨_, SqL.of exs⟩, for_list (xs := xs) (fun i σ H' => H' = H9 ∧ ∃ (mv : Bool) (z : Str) (day : Int) (x7 : Option V), σ = [some (.ref p), some (.ref P), some (.str lz), some (.int day), some (.str (kindS mv)), some (.str z), some (.int way), x7] ∧ (mv = true → z ∈ D0.zs) ∧ Nm z ∧ (0 ≤ day ∧ day < 10 ^ 55))
      ⟨rfl, mv, z, day, none, rfl, hmz, hnm, day0⟩ (fun i σ H' _ ⟨e, _⟩ => by rw [e]; exact SqL.of exs) ?_ ?_⟩
    · rintro i y σ H' hy ⟨rfl, mv, z, day, x7, rfl, hmz, hnm, day0⟩
      obtain ⟨t, e0, rfl, ho, ht⟩ := hxs y (List.mem_of_getElem? hy)
      have ok0 := hoe e0 ho
      have hz0 : (e0.mv = true → e0.who ∈ D0.zs) ∧ Nm e0.who := by
        cases hm : e0.mv with
        | true =>
          have h1 := (ok0.mw hm).1
          rw [hG.zk] at h1
          exact ⟨fun _ => h1, hG.zs.nm _ h1⟩
        | false => exact ⟨nofun, (ok0.lw hm).1⟩
      refine ⟨_, rfl, rfl, _, rfl, ite2 (fun _ => ?_) (fun _ => ?_)⟩
      · refine ⟨_, rfl, t, _, rfl, SqT.of ht, rfl, _, _, rfl, _, _, rfl, _, _, rfl, rfl, ?_⟩
        exact ⟨rfl, e0.mv, e0.who, e0.day, _, rfl, hz0.1, hz0.2, ok0.d0, ok0.d1⟩
      · refine ⟨_, rfl, rfl, _, rfl, ite2 (fun _ => ?_) (fun _ => ?_)⟩
        · refine ⟨_, rfl, t, _, 2, _, rfl, rfl, SqT.of ht, atI_nat (j := 2) rfl, ?_⟩
          exact ⟨rfl, mv, z, e0.day, _, rfl, hmz, hnm, ok0.d0, ok0.d1⟩
        · exact ⟨rfl, mv, z, day, _, rfl, hmz, hnm, day0⟩
    · rintro σ H' ⟨rfl, mv, z, day, x7, rfl, hmz, hnm, day0⟩
      refine ⟨_, rfl, _, rfl, _, rfl, by show 3 ≤ sizeLine; decide, fun t nt => ?_⟩
      have ntp := hp9.ne nt
      have et := upd_same (H := H') (a := t) (o := .tup [V.str (kindS mv), .str z, .int day])
      have hp10 := hp9.upd (o := .tup [V.str (kindS mv), .str z, .int day]) ntp
      have sL10 := SameL.new (o := .tup [V.str (kindS mv), .str z, .int day]) nt sL9
      have hP10 : L2.upd H' t (.tup [V.str (kindS mv), .str z, .int day]) P = some (.dK (planK D0 kn' la)) := by rw [upd_ne (ne_of_none hP9 nt)]; exact hP9
      have nt0 : H t = none := sL9.free nt (by
        intro h
        rcases List.mem_cons.mp h with h | h
        · exact ntp h
        · rw [List.mem_singleton.mp h, hP9] at nt
          cases nt)
      generalize L2.upd H' t (.tup [V.str (kindS mv), .str z, .int day]) = H10 at *
      refine ⟨by show 1 ≤ sizeLine; decide, fun la' nla => ?_⟩
      have nlap := hp10.ne nla
      have ela := upd_same (H := H10) (a := la') (o := .lst [V.ref t])
      have hp11 := hp10.upd (o := .lst [V.ref t]) nlap
      have sL11 := SameL.new (o := .lst [V.ref t]) nla sL10
      have hP11 : L2.upd H10 la' (.lst [V.ref t]) P = some (.dK (planK D0 kn' la)) := by rw [upd_ne (ne_of_none hP10 nla)]; exact hP10
      have et11 : L2.upd H10 la' (.lst [V.ref t]) t = some (.tup [V.str (kindS mv), .str z, .int day]) := by rw [upd_ne (ne_of_none et nla)]; exact et
      have nlaP : la' ≠ P := fun z => by rw [z, hP10] at nla; cases nla
      have nla0 : H la' = none := sL10.free nla (by
        intro h
        rcases List.mem_cons.mp h with h | h
        · exact nlap h
        · exact nlaP (List.mem_singleton.mp h))
      generalize L2.upd H10 la' (.lst [V.ref t]) = H11 at *
      refine ⟨_, rfl, P, _, rfl, DPut.k (k := Sum.inr "last") hP11 (by show 6 < sizeLine; decide), ?_⟩
      rw [plan_put_last]
      have hP12 := upd_same (H := H11) (a := P) (o := .dK (planK D0 kn' la'))
      have hp12 := hp11.upd (o := .dK (planK D0 kn' la')) pPne
      have sL12 : SameL [p, P] H (L2.upd H11 P (.dK (planK D0 kn' la'))) := SameL.upd mP sL11
      have ntP : t ≠ P := ne_of et11 hP11 (by intro z; cases z)
      have et12 : L2.upd H11 P (.dK (planK D0 kn' la')) t = some (.tup [V.str (kindS mv), .str z, .int day]) := by rw [upd_ne ntP]; exact et11
      have ela12 : L2.upd H11 P (.dK (planK D0 kn' la')) la' = some (.lst [V.ref t]) := by rw [upd_ne nlaP]; exact ela
      generalize L2.upd H11 P (.dK (planK D0 kn' la')) = H12 at *
      refine ⟨_, rfl, _, rfl, P, _, rfl, pg_known hP12, _, rfl, _, rfl, _, rfl, _, rfl, _, rfl, p, mv, lz, rfl, hp12, fun w H13 wl wm hp13 s13 => ?_⟩
      refine ⟨by show 5 ≤ sizeLine; decide, fun T nT => ?_⟩
      have hP13 := s13 _ _ pPne hP12
      have et13 := s13 _ _ (ne_of_pot hp12 et12) et12
      have ela13 := s13 _ _ (ne_of_pot hp12 ela12) ela12
      have sL13 := sL12.trans (SameL.ofB mp s13)
      have nTp := hp13.ne nT
      have nTP : T ≠ P := fun z => by rw [z, hP13] at nT; cases nT
      have nT0 : H T = none := sL13.free nT (by
        intro h
        rcases List.mem_cons.mp h with h | h
        · exact nTp h
        · exact nTP (List.mem_singleton.mp h))
      have up : ∀ {c : Addr} {o o' : HO}, H13 c = some o → L2.upd H13 T o' c = some o := fun e => by rw [upd_ne (ne_of_none e nT)]; exact e
      refine q T la' ⟨mv, kn', z, day, w⟩ _ kle ⟨⟨by show 0 ≤ kn'; omega, day0.1, day0.2, fun hm => ⟨by rw [hG.zk]; exact hmz hm, ?_⟩, fun hm => ⟨hnm, (wl hm).imp fun n h => ⟨h.1, h.2.1, by have := h.2.2; omega⟩⟩⟩, fun n hn => ?_⟩ (new_at nT0 upd_same) ⟨t, new_at nla0 (up ela13), new_at nt0 (up et13)⟩ (up hP13) (hp13.upd nTp) (SameL.new nT sL13)
      · rcases wm hm with rfl | ⟨y, rfl, hy⟩
        · exact .inl rfl
        · refine .inr ⟨y, rfl, ?_⟩
          rcases hy with rfl | rfl
          · exact .inr lnm
          · exact .inl rfl
      · have hn : w = .int n := hn
        cases mv with
        | true => rcases wm rfl with h | ⟨y, h, _⟩ <;> (rw [h] at hn; cases hn)
        | false =>
          obtain ⟨m, h, _, hm⟩ := wl rfl
          rw [h] at hn
          cases hn
          exact hm
end
end K80
set_option Elab.async false
set_option linter.all false
set_option maxRecDepth 100000
set_option maxHeartbeats 1600000
set_option pp.maxSteps 300
namespace K80
open PySem PySem.Spec PyProof.Rows L2 LT NdefX
section
variable {P : Program} {w : World} {K : PySem.W.Frag} {mg : Str → Option Value} {base : Heap}
theorem sc__law_tell : FnScope ["_law_one", "_law_event_here", "_law_kind", "_law_asof", "_law_name", "_law_on", "_law_worth_here"] ["_law_one", "_law_event_here"] (defScope s__law_tell) := ⟨rfl, rfl, rfl, by decide +kernel, rfl, by decide +kernel, by decide +kernel⟩
theorem ok__law_tell (D : All K P mg) : FnOk P w K mg base CX0 6 D.f__law_tell D.d__law_tell ["_law_one", "_law_event_here"] (spTellE D.C_Book D.C_History (.bl true)) := by
  refine D.h__law_tell.fn.ok sc__law_tell (fun vs H Q E h => ?_) (fun cdv A outer s H vs Q E hr h => ?_)
  · first | (obtain ⟨_, rfl, _⟩ := h; rfl) | (obtain ⟨_, _, rfl, _⟩ := h; rfl) | (obtain ⟨_, _, _, rfl, _⟩ := h; rfl) | (obtain ⟨_, _, _, _, rfl, _⟩ := h; rfl) | (obtain ⟨_, _, _, _, _, rfl, _⟩ := h; rfl) | (obtain ⟨_, _, _, _, _, _, rfl, _⟩ := h; rfl) | (obtain ⟨_, _, _, _, _, _, _, rfl, _⟩ := h; rfl) | (obtain ⟨_, _, _, _, _, _, _, _, rfl, _⟩ := h; rfl) | (obtain ⟨_, _, _, _, _, _, _, _, _, rfl, _⟩ := h; rfl) | (obtain ⟨_, _, _, _, _, _, _, _, _, _, rfl, _⟩ := h; rfl) | (obtain ⟨_, _, _, _, _, _, _, _, _, _, _, rfl, _⟩ := h; rfl) | (obtain ⟨_, _, _, _, _, _, _, _, _, _, _, _, rfl, _⟩ := h; rfl) | (obtain ⟨_, _, _, _, _, _, _, _, _, _, _, _, _, rfl, _⟩ := h; rfl) | (obtain ⟨_, _, _, _, _, _, _, _, _, _, _, _, _, _, rfl, _⟩ := h; rfl) | (obtain ⟨_, _, _, _, _, _, _, _, _, _, _, _, _, _, _, rfl, _⟩ := h; rfl)
  · have T := D.T
    have nd := sc__law_tell.nd
    have hu := hr.units
    have hu1 := hu_of hr
    have hu0 := hr.units0
    obtain ⟨b, T, rk, es, fp, e, rfl, W, hT, ok, hk, hl, q⟩ := h
    refine ⟨_, pss_cons (ps_asg (pv 1) (pg_tup rfl (pgs_cons (pg_name (i := 2) nd rfl (Or.inl rfl)) (pgs_cons (pg_name (i := 3) nd rfl (Or.inl rfl)) (pgs_cons (pg_name (i := 4) nd rfl (Or.inl rfl)) (pgs_cons (pg_name (i := 5) nd rfl (Or.inl rfl)) (pgs_cons (pg_name (i := 6) nd rfl (Or.inl rfl)) pgs_nil)))))))
      (pss_cons (ps_if (pt_cmpR op_eq (pv 2) pe_str (nomark _)) (pss_one (ps_ret (pe_cmpR op_isN (pe_meth (pv 0) D.Z_Book.cl D.h_Book_tell.me (ok_Book_tell D) (hr.mono (by decide)) D.h_Book_tell.bd .nil pass0 (pa_cons (pv 3) (pa_cons (pv 4) (pa_cons (pv 5) (pa_cons (pv 6) pa_nil))))) pe_non (nomark _)))) pss_nil)
      (pss_one (ps_ret (pe_cmpR op_isN (pe_meth (pv 0) D.Z_Book.cl D.h_Book_land.me (ok_Book_land D) (hr.mono (by decide)) D.h_Book_land.bd .nil pass0 (pa_cons (pv 3) (pa_cons (pv 4) (pa_cons (pv 5) (pa_cons (pv 6) pa_nil))))) pe_non (nomark _))))), ?_⟩
    have W0 := W
    obtain ⟨B, rfl, rfl, rfl, rfl, bh, bp, bl⟩ := W0
    refine ⟨_, rfl, T, _, rfl, SqT.of hT, rfl, _, _, rfl, _, _, rfl, _, _, rfl, _, _, rfl, _, _, rfl, rfl, ?_⟩
    refine ⟨_, rfl, rfl, _, rfl, ?_⟩
    rw [kind_move]
    obtain ⟨mv, kn, z, d, w⟩ := e
    cases mv with
    | true =>
      refine iteT ⟨_, rfl, B.b, B.dx, _, rfl, bh.ix, rfl, _, rfl, _, rfl, _, rfl, _, rfl, B.b, B.rk, B.es, B.fp, kn, d, z, w, rfl, W, ok, hk, hl, fun fp' H' W' fr s => ⟨rfl, q fp' H' W' fr s⟩⟩
    | false =>
      refine iteF ⟨_, rfl, B.b, B.dx, _, rfl, bh.ix, rfl, _, rfl, _, rfl, _, rfl, _, rfl, B.b, B.rk, B.es, B.fp, kn, d, z, w, rfl, W, ok, hk, hl, fun fp' H' W' fr s => ⟨rfl, q fp' H' W' fr s⟩⟩
end
end K80
set_option Elab.async false
set_option linter.all false
set_option maxRecDepth 100000
set_option maxHeartbeats 1600000
/-! Own layer: things that stay apart from some lists show so. -/
namespace LT
open PySem PySem.Spec PyProof.Rows L2 NdefX
theorem ShV.keep {CS : Addr} {H H' : Hp} {n : Nat} {as : List Addr} {v : V} {t : Str} (h : ShV CS (spSRepr CS) H n as v t) (inst : ∀ a dx fs, H a = some (.ins CS dx fs) → H' a = some (.ins CS dx fs)) (ls : ∀ a ∈ as, ∀ o, H a = some o → H' a = some o) : ShV CS (spSRepr CS) H' n as v t := by
  induction h with
  | int j h => exact .int j h
  | str z h => exact .str z h
  | non => exact .non
  | own ha hsp =>
    refine .own (inst _ _ _ ha) fun g => ?_
    obtain ⟨x, f, la, e, ⟨dx, hx⟩, s1, s2, u, eu, e2, _⟩ := hsp g
    exact ⟨x, f, la, e, ⟨dx, inst _ _ _ hx⟩, s1, s2, u, eu, e2, rfl⟩
  | lst hl hlen hna each ih => exact .lst (ls _ List.mem_cons_self _ hl) hlen hna fun i v t h1 h2 => ih i v t h1 h2 fun a ha => ls a (List.mem_cons_of_mem _ ha)
  | tup hl hlen hna each ih => exact .tup (ls _ List.mem_cons_self _ hl) hlen hna fun i v t h1 h2 => ih i v t h1 h2 fun a ha => ls a (List.mem_cons_of_mem _ ha)
  | more h hn hs ih => exact .more (ih fun a ha => ls a (hs a ha)) hn hs
/-- shows so, and is made of things that stand apart from S -/
def ShF (CS : Addr) (H : Hp) (S : List Addr) (v : V) (t : Str) : Prop := ∃ as, ShV CS (spSRepr CS) H 4 as v t ∧ (∀ a ∈ as, a ∉ S ∧ ∃ o, H a = some o) ∧ t.length ≤ 1100000
theorem ShF.it {CS : Addr} {H : Hp} {S : List Addr} {F : Addr} {v : V} {t : Str} (h : ShF CS H S v t) (hF : F ∈ S) : It CS H F v t := by
  obtain ⟨as, h1, h2, h3⟩ := h
  exact ⟨as, h1, fun hm => (h2 F hm).1 hF, h3⟩
theorem ShF.keep {CS : Addr} {H H' : Hp} {S : List Addr} {F : Addr} {xs : List V} {v : V} {t : Str} (h : ShF CS H S v t) (hF : F ∈ S) (e : H F = some (.lst xs)) (s : SameB F H H') : ShF CS H' S v t := by
  obtain ⟨as, h1, h2, h3⟩ := h
  refine ⟨as, h1.keep (fun a dx fs k => s _ _ (ne_of k e (by intro z; cases z)) k) (fun a ha o k => s _ _ (fun z => (h2 a ha).1 (by rw [z]; exact hF)) k), fun a ha => ⟨(h2 a ha).1, ?_⟩, h3⟩
  obtain ⟨o, k⟩ := (h2 a ha).2
  exact ⟨o, s _ _ (fun z => (h2 a ha).1 (by rw [z]; exact hF)) k⟩
theorem ShF.mono {CS : Addr} {H H' : Hp} {S : List Addr} {v : V} {t : Str} (h : ShF CS H S v t) (s : Same H H') : ShF CS H' S v t := by
  obtain ⟨as, h1, h2, h3⟩ := h
  refine ⟨as, h1.keep (fun a dx fs k => s _ _ k) (fun a ha o k => s _ _ k), fun a ha => ⟨(h2 a ha).1, ?_⟩, h3⟩
  obtain ⟨o, k⟩ := (h2 a ha).2
  exact ⟨o, s _ _ k⟩
theorem ShF.snoc {CS : Addr} {H : Hp} {S : List Addr} {F : Addr} {v : V} {t : Str} (h : ShF CS H S v t) (hF : H F = none) : ShF CS H (F :: S) v t := by
  obtain ⟨as, h1, h2, h3⟩ := h
  refine ⟨as, h1, fun a ha => ⟨fun hm => ?_, (h2 a ha).2⟩, h3⟩
  rcases List.mem_cons.mp hm with z | z
  · obtain ⟨o, k⟩ := (h2 a ha).2
    rw [z, hF] at k
    cases k
  · exact (h2 a ha).1 z
theorem lgBig {i : Int} (h : i.natAbs ≤ 10 ^ 220) : i.natAbs.log2 < 740 := by
  rcases Nat.eq_zero_or_pos i.natAbs with z | z
  · rw [z]; decide
  · rw [Nat.log2_lt (by omega)]
    exact Nat.lt_of_le_of_lt h (by decide)
theorem tlenBig {i : Int} (h : i.natAbs ≤ 10 ^ 220) : (Str.ofString (toString i)).length ≤ 741 := by
  rw [PySem.ofString_length]
  exact int_text_length_le (k := 740) (by decide) (lgBig h)
theorem shf_int {CS : Addr} {H : Hp} {S : List Addr} {n : Int} (h : n.natAbs ≤ 10 ^ 220) : ShF CS H S (.int n) (toString n) :=
  ⟨[], .int n (Nat.lt_trans (lgBig h) (by decide)), nofun, by have : (Str.ofString (toString n)).length ≤ 741 := tlenBig h; omega⟩
theorem shf_non {CS : Addr} {H : Hp} {S : List Addr} : ShF CS H S .non "None" := ⟨[], .non, nofun, by decide +kernel⟩
/-- a number or None -/
def NumT : V → Str → Prop
  | .int n, t => n.natAbs ≤ 10 ^ 220 ∧ t = Str.ofString (toString n)
  | .non, t => t = Str.ofString "None"
  | _, _ => False
theorem NumT.sh {CS : Addr} {H : Hp} {v : V} {t : Str} (h : NumT v t) : ShV CS (spSRepr CS) H 0 [] v t ∧ t.length ≤ 741 := by
  cases v with
  | int n =>
    obtain ⟨h1, rfl⟩ := h
    exact ⟨.int n (Nat.lt_trans (lgBig h1) (by decide)), tlenBig h1⟩
  | non =>
    have h : t = _ := h
    subst h
    exact ⟨.non, by decide +kernel⟩
  | _ => exact h.elim
theorem shf_tup {CS : Addr} {H : Hp} {S : List Addr} {t : Addr} {vs : List V} {ts : List Str} (e : H t = some (.tup vs)) (h : Paired NumT vs ts) (hl : ts.length ≤ 4) (hS : ∀ F ∈ S, ∃ xs, H F = some (.lst xs)) : ShF CS H S (.ref t) (tupleText ts) := by
  refine ⟨[t], .more (.tup (n := 0) (as := []) e (Paired.length h).symm nofun fun i v t' hv ht => ?_) (show 1 ≤ 4 by omega) fun a ha => ha, fun a ha => ?_, ?_⟩
  · obtain ⟨t2, h1, h2⟩ := paired_get h hv
    rw [ht] at h1
    cases h1
    exact h2.sh.1
  · rw [List.mem_singleton.mp ha]
    refine ⟨fun hm => ?_, _, e⟩
    obtain ⟨xs, k⟩ := hS t hm
    rw [e] at k
    cases k
  · have h1 := tupleText_len_le ts
    have h2 : ∀ {vs : List V} {ts : List Str}, Paired NumT vs ts → (ts.map (·.length)).sum ≤ 741 * ts.length := fun {vs ts} h => by
      induction h with
      | nil => exact Nat.le_refl _
      | cons a _ ih =>
        have := (a.sh (CS := CS) (H := H)).2
        simp only [List.map_cons, List.sum_cons, List.length_cons]
        omega
    have h3 := h2 h
    omega
theorem shf_runs {CS : Addr} {H : Hp} {S : List Addr} {l : Addr} {rs : List Run} (h : RunsAt CS H l rs) (sm : ∀ r ∈ rs, RunSm r) (hl : rs.length ≤ 62) (n : l ∉ S) (hS : ∀ F ∈ S, ∃ xs, H F = some (.lst xs)) : ShF CS H S (.ref l) (listText (rs.map shR)) := by
  obtain ⟨ts, el, hts⟩ := h
  have tup : ∀ t ∈ ts, ∃ vs, H t = some (.tup vs) := fun t ht => by
    obtain ⟨r, _, x, h1, _⟩ := paired_in hts ht
    exact ⟨_, h1⟩
  have no : ∀ {a : Addr} {zs : List V}, H a = some (.lst zs) → a ∉ ts := fun {a zs} e hm => by
    obtain ⟨vs, h⟩ := tup a hm
    rw [e] at h
    cases h
  refine ⟨l :: ts, .more (.lst (n := 1) (as := ts) el (by rw [List.length_map, List.length_map, Paired.length hts]) (no el) fun i v t hv ht => ?_) (show 2 ≤ 4 by omega) fun a ha => ha, fun a ha => ?_, ?_⟩
  · obtain ⟨a, r, rfl, hr, hrt⟩ := pick_at hts hv
    rw [List.getElem?_map, hr] at ht
    cases ht
    rw [List.getElem?_map, Option.map_eq_some_iff] at hv
    obtain ⟨a', e, e2⟩ := hv
    cases e2
    exact .more (run_sh hrt (sm r (List.mem_of_getElem? hr))) (Nat.le_refl _) fun b hb => by
      rw [List.mem_singleton.mp hb]
      exact List.mem_of_getElem? e
  · rcases List.mem_cons.mp ha with z | z
    · rw [z]
      exact ⟨n, _, el⟩
    · obtain ⟨vs, k⟩ := tup a z
      refine ⟨fun hm => ?_, _, k⟩
      obtain ⟨xs, k2⟩ := hS a hm
      rw [k] at k2
      cases k2
  · have h1 := listText_le (rs.map shR)
    have h2 := piled_le 1000 (rs.map shR) fun t ht => by
      obtain ⟨r, hr, rfl⟩ := List.mem_map.mp ht
      exact shR_len (sm r hr)
    rw [List.length_map] at h2
    have h3 : (1000 + 2) * rs.length ≤ (1000 + 2) * 62 := Nat.mul_le_mul_left _ hl
    omega
/-! ### the texts -/
def unfT : Option (Int × Int) → Str
  | none => "None"
  | some (d, n) => tupleText [Str.ofString (toString d), Str.ofString (toString n)]
def knT : Option Int → Str
  | none => "None"
  | some d => Str.ofString (toString d)
theorem left_big {s : Shop} {rk : List (Str × Int)} (ok : s.OK rk) {d : Int} (h0 : 0 ≤ d) (h1 : d < 10 ^ 150) : (s.left d).natAbs ≤ 10 ^ 220 := by
  have := ok.leftB (d := d) (by omega)
  omega
theorem shf_unf {CS : Addr} {H : Hp} {S : List Addr} {s : Shop} {rk : List (Str × Int)} {v : V} {o : Option (Int × Int)} (ok : s.OK rk) (h : UnfO s o) (a : UnfAt H v o) (hS : ∀ F ∈ S, ∃ xs, H F = some (.lst xs)) : ShF CS H S v (unfT o) := by
  cases o with
  | none =>
    have a : v = .non := a
    subst a
    exact shf_non
  | some p =>
    obtain ⟨d, n⟩ := p
    obtain ⟨t, rfl, e⟩ := a
    obtain ⟨h1, h2, h3, h4, _⟩ := h
    have := left_big ok h1 (by omega)
    exact shf_tup e (.cons ⟨by omega, rfl⟩ (.cons ⟨by omega, rfl⟩ .nil)) (by show 2 ≤ 4; omega) hS
theorem shf_want {CS : Addr} {H : Hp} {S : List Addr} {t : Addr} {least : Int} {day : Option Int} (e : H t = some (.tup [.int (-least), knV day])) (h1 : least.natAbs ≤ 10 ^ 220) (h2 : ∀ d, day = some d → d.natAbs ≤ 10 ^ 220) (hS : ∀ F ∈ S, ∃ xs, H F = some (.lst xs)) : ShF CS H S (.ref t) (tupleText [Str.ofString (toString (-least)), knT day]) := by
  refine shf_tup e (.cons ⟨by omega, rfl⟩ (.cons ?_ .nil)) (by show 2 ≤ 4; omega) hS
  cases day with
  | none => exact rfl
  | some d => exact ⟨h2 d rfl, rfl⟩
/-! ### two lists that grow -/
structure FD (CS : Addr) (H6 H : Hp) (F D : Addr) (vF vD : List V) (tF tD : List Str) : Prop where
  S : Same H6 H
  nF : H6 F = none
  eF : H F = some (.lst vF)
  eD : H D = some (.lst vD)
  ne : D ≠ F
  PF : Paired (ShF CS H [F]) vF tF
  PD : Paired (ShF CS H [F]) vD tD
theorem FD.hS {CS : Addr} {H6 H H1 : Hp} {F D : Addr} {vF vD : List V} {tF tD : List Str} (h : FD CS H6 H F D vF vD tF tD) (s : Same H H1) : ∀ G ∈ [F], ∃ xs, H1 G = some (.lst xs) := fun G hG => by
  rw [List.mem_singleton.mp hG]
  exact ⟨_, s _ _ h.eF⟩
theorem FD.app {CS : Addr} {H6 H H1 : Hp} {F D : Addr} {vF vD : List V} {tF tD : List Str} {v : V} {t : Str} (h : FD CS H6 H F D vF vD tF tD) (s : Same H H1) (sh : ShF CS H1 [F] v t) : FD CS H6 (upd H1 F (.lst (vF ++ [v]))) F D (vF ++ [v]) vD (tF ++ [t]) tD := by
  have e1 := s _ _ h.eF
  have sb : SameB F H1 (upd H1 F (.lst (vF ++ [v]))) := SameB.upd (SameB.of (Same.refl _))
  have kp : ∀ {v : V} {t : Str}, ShF CS H [F] v t → ShF CS (upd H1 F (.lst (vF ++ [_]))) [F] v t := fun k => (k.mono s).keep List.mem_cons_self e1 sb
  exact ⟨same_put h.nF (h.S.trans s), h.nF, upd_same, sb _ _ h.ne (s _ _ h.eD), h.ne, paired_snoc' (paired_imp (fun _ _ k => kp k) h.PF) (sh.keep List.mem_cons_self e1 sb), paired_imp (fun _ _ k => kp k) h.PD⟩
theorem FD.cat {CS : Addr} {H6 H H1 : Hp} {F D D2 : Addr} {vF vD vs : List V} {tF tD ts : List Str} (h : FD CS H6 H F D vF vD tF tD) (s : Same H H1) (sh : Paired (ShF CS H1 [F]) vs ts) (nD : H1 D2 = none) : FD CS H6 (upd H1 D2 (.lst (vD ++ vs))) F D2 vF (vD ++ vs) tF (tD ++ ts) :=
  have s2 : Same H1 (upd H1 D2 (.lst (vD ++ vs))) := same_upd nD
  ⟨h.S.trans (s.trans s2), h.nF, s2 _ _ (s _ _ h.eF), upd_same, ne_of_none' nD (s _ _ h.eF), paired_imp (fun _ _ k => (k.mono s).mono s2) h.PF, paired_imp (fun _ _ k => k.mono s2) (paired_app (paired_imp (fun _ _ k => k.mono s) h.PD) sh)⟩
theorem FD.ends {CS : Addr} {H6 H H1 : Hp} {F D D2 : Addr} {vF vD vs : List V} {tF tD ts : List Str} (h : FD CS H6 H F D vF vD tF tD) (s : Same H H1) (sh : Paired (ShF CS H1 [F]) vs ts) (nD : H1 D2 = none) : Paired (It CS (upd H1 D2 (.lst (vD ++ vs))) F) vF tF ∧ Paired (It CS (upd H1 D2 (.lst (vD ++ vs))) D2) (vD ++ vs) (tD ++ ts) :=
  have s2 : Same H1 (upd H1 D2 (.lst (vD ++ vs))) := same_upd nD
  ⟨paired_imp (fun _ _ k => ((k.mono s).mono s2).it List.mem_cons_self) h.PF, paired_imp (fun _ _ k => ((k.snoc nD).mono s2).it List.mem_cons_self) (paired_app (paired_imp (fun _ _ k => k.mono s) h.PD) sh)⟩
end LT
set_option Elab.async false
set_option linter.all false
set_option maxRecDepth 100000
set_option maxHeartbeats 1600000
/-! Own layer: calls by keywords alone, in any order, defaults among the rest. -/
namespace LT
open PySem PySem.Spec PyProof.Rows L2
/-- those at these places -/
def pick {α : Type} (is : List Nat) (l : List α) : List α := is.filterMap (l[·]?)
theorem vals_get : ∀ {vs : List V} {us : List Value}, Vals vs us → ∀ i : Nat, (vs[i]? = none ∧ us[i]? = none) ∨ ∃ v u, vs[i]? = some v ∧ us[i]? = some u ∧ RelV v u
  | _, _, .nil, i => .inl ⟨rfl, rfl⟩
  | _, _, .cons h _, 0 => .inr ⟨_, _, rfl, rfl, h⟩
  | _, _, .cons _ t, i + 1 => vals_get t i
theorem pick_vals {vs : List V} {us : List Value} (h : Vals vs us) : ∀ is : List Nat, Vals (pick is vs) (pick is us)
  | [] => .nil
  | i :: is => by
    have ih := pick_vals h is
    unfold pick at ih ⊢
    rcases vals_get h i with ⟨a, b⟩ | ⟨v, u, a, b, r⟩
    · rw [List.filterMap_cons, List.filterMap_cons, a, b]
      exact ih
    · rw [List.filterMap_cons, List.filterMap_cons, a, b]
      exact .cons r ih
section
variable {X : Cx} {CX : CXT} {k : Nat} {f C : Addr} {fd : FuncData} {ps ks : List Str} {sp : Sp} {E : XK} {m x : Str} {apos pos p : Pos} {o : Expr} {kws : List Keyword} {ta : TE} {tk : TA}
  {g : List Value → List Value → List Value} {gV : List V → List V → List V}
def tCallKn (j : Nat) (sp : Sp) (gV : List V → List V → List V) (E : XK) (tk : TA) : TE := fun σ H Q => tk σ H fun zs H1 => zs.length = j ∧ sp (gV [] zs) H1 Q E
theorem pe_callKn (F : FnOk X.prog X.w X.K X.mg X.base CX k f fd ps sp) (hr : Room k X.A) (hg : Gl X x) (hm : X.mg x = some (.ref f))
    (hk : PySem.W.keepIn X.K (.ref f) = true) (hb : KBn X.K fd ps 0 ks g gV) (hx : Passes CX X E) (hkw : PK X kws tk)
    (hall : (backToKw pos (keywordEach kws X.env)).all (·.1.isSome) = true := by rfl)
    (hks : (backToKw pos (keywordEach kws X.env)).filterMap (·.1) = ks := by rfl)
    (hdb : (x == ("__debug__" : Str)) = false := by decide)
    (hpl : ((backTo pos (starEach [] X.env)).any (·.1) || (backToKw pos (keywordEach kws X.env)).any (·.1.isNone)) = false := by rfl) :
    PE X (.Call (.Name x p) [] kws pos) (tCallKn ks.length sp gV E tk) := by
  refine ⟨fun pins s σ H Q I h => wpAny_Call_Name_kw (ld_glob I hg hm ?_ hdb)⟩
  refine PySem.W.callWith_KW0 (h₀ := X.base) I.ok.mod.kin hk hall ?_ hpl
  refine thn (hkw.run pos pins s σ H _ I h) fun ws s2 ⟨zs, H2, I2, rz, l2, q2⟩ => ⟨I2.kIn, ?_⟩
  rw [hks]
  exact run_fnN (us := []) (vs := []) F hr hb hx I2 .nil rz rfl l2 q2
end
end LT
set_option Elab.async false
set_option linter.all false
set_option maxRecDepth 100000
set_option maxHeartbeats 16000000
set_option pp.maxSteps 300
namespace K80
open PySem PySem.Spec PyProof.Rows L2 LT NdefX
section
variable {P : Program} {w : World} {K : PySem.W.Frag} {mg : Str → Option Value} {base : Heap}
def spLooks8 (CB CH CT : Addr) : Sp := fun vs H Q _ => ∃ (p x : Addr) (c : PbD), vs = [.ref p, .ref c.b, .ref x, .ref c.P] ∧ Pb CB CH H p c ∧ BtL CT H x 2 300 80 ∧ c.es.length ≤ 30 ∧ ∀ H', Pot H' p → SameB p H H' → Q (.bl true) H'
theorem sc__law_looks_right : FnScope ["_law_pot_here", "_law_one", "_law_craft", "_law_plan_here", "_law_lamp", "_law_eaten", "_law_asof", "_law_on", "_law_found", "_law_due"] ["_law_pot_here", "_law_one", "_law_craft", "_law_plan_here"] (defScope s__law_looks_right) := ⟨rfl, rfl, rfl, by decide +kernel, rfl, by decide +kernel, by decide +kernel⟩
theorem ok__law_looks_right (D : All K P mg) : FnG P w K mg base CX0 14 D.f__law_looks_right D.d__law_looks_right ["_law_pot_here", "_law_one", "_law_craft", "_law_plan_here"] (spLooks8 D.C_Book D.C_History D.C_Boat) := by
  refine okG D.h__law_looks_right.fn sc__law_looks_right (fun h => ?_) (fun cdv A outer s H vs Q E hG hr h => ?_)
  · first | (obtain ⟨_, rfl, _⟩ := h; rfl) | (obtain ⟨_, _, rfl, _⟩ := h; rfl) | (obtain ⟨_, _, _, rfl, _⟩ := h; rfl) | (obtain ⟨_, _, _, _, rfl, _⟩ := h; rfl) | (obtain ⟨_, _, _, _, _, rfl, _⟩ := h; rfl) | (obtain ⟨_, _, _, _, _, _, rfl, _⟩ := h; rfl) | (obtain ⟨_, _, _, _, _, _, _, rfl, _⟩ := h; rfl) | (obtain ⟨_, _, _, _, _, _, _, _, rfl, _⟩ := h; rfl) | (obtain ⟨_, _, _, _, _, _, _, _, _, rfl, _⟩ := h; rfl) | (obtain ⟨_, _, _, _, _, _, _, _, _, _, rfl, _⟩ := h; rfl) | (obtain ⟨_, _, _, _, _, _, _, _, _, _, _, rfl, _⟩ := h; rfl) | (obtain ⟨_, _, _, _, _, _, _, _, _, _, _, _, rfl, _⟩ := h; rfl) | (obtain ⟨_, _, _, _, _, _, _, _, _, _, _, _, _, rfl, _⟩ := h; rfl) | (obtain ⟨_, _, _, _, _, _, _, _, _, _, _, _, _, _, rfl, _⟩ := h; rfl) | (obtain ⟨_, _, _, _, _, _, _, _, _, _, _, _, _, _, _, rfl, _⟩ := h; rfl)
  · have T := D.T
    have nd := sc__law_looks_right.nd
    have hu := hr.units
    have hu1 := hu_of hr
    have hu0 := hr.units0
    have hG2 : (cxOf CX0 P w K mg base ["_law_pot_here", "_law_one", "_law_craft", "_law_plan_here", "_law_lamp", "_law_eaten", "_law_asof", "_law_on", "_law_found", "_law_due"] "_law_looks_right" (defScope s__law_looks_right) D.f__law_looks_right cdv A outer s H E).nox.A.guards = some [] := hG
    obtain ⟨p, x, c, rfl, W, B, hl, q⟩ := h
    obtain ⟨_, kw0_heads_known_light_book⟩ := D.q_heads.kbindsD (ps := ["book", "light", "known"]) 0 ["known", "light", "book"] (fun us its ws => us ++ pick [2, 1, 0] ws) (by simp) (fun r1 r2 r3 => (r1).append (pick_vals r3 [2, 1, 0])) (fun _ _ _ _ _ _ _ us its ws h1 h2 h3 => match us, its, ws, h1, h2, h3 with | [], [_], [_, _, _], _, _, _ => ⟨_, rfl, rfl⟩)
    obtain ⟨_, kw0_heads_light_book⟩ := D.q_heads.kbindsD (ps := ["book", "light", "known"]) 0 ["light", "book"] (fun us its ws => us ++ pick [1, 0] ws ++ pick [0] its) (by simp) (fun r1 r2 r3 => ((r1).append (pick_vals r3 [1, 0])).append (pick_vals r2 [0])) (fun _ _ _ _ _ _ _ us its ws h1 h2 h3 => match us, its, ws, h1, h2, h3 with | [], [_], [_, _], _, _, _ => ⟨_, rfl, rfl⟩)
    obtain ⟨_, kw0_left_over_day_ration_light_known_book⟩ := D.q_left_over.kbindsD (ps := ["book", "light", "ration", "day", "known"]) 0 ["day", "ration", "light", "known", "book"] (fun us its ws => us ++ pick [4, 2, 1, 0, 3] ws) (by simp) (fun r1 r2 r3 => (r1).append (pick_vals r3 [4, 2, 1, 0, 3])) (fun _ _ _ _ _ _ _ us its ws h1 h2 h3 => match us, its, ws, h1, h2, h3 with | [], [_], [_, _, _, _, _], _, _, _ => ⟨_, rfl, rfl⟩)
    obtain ⟨_, kw0_left_over_day_ration_light_book⟩ := D.q_left_over.kbindsD (ps := ["book", "light", "ration", "day", "known"]) 0 ["day", "ration", "light", "book"] (fun us its ws => us ++ pick [3, 2, 1, 0] ws ++ pick [0] its) (by simp) (fun r1 r2 r3 => ((r1).append (pick_vals r3 [3, 2, 1, 0])).append (pick_vals r2 [0])) (fun _ _ _ _ _ _ _ us its ws h1 h2 h3 => match us, its, ws, h1, h2, h3 with | [], [_], [_, _, _, _], _, _, _ => ⟨_, rfl, rfl⟩)
    obtain ⟨_, kw0_unfed_known_ration_light_book⟩ := D.q_unfed.kbindsD (ps := ["book", "light", "ration", "known"]) 0 ["known", "ration", "light", "book"] (fun us its ws => us ++ pick [3, 2, 1, 0] ws) (by simp) (fun r1 r2 r3 => (r1).append (pick_vals r3 [3, 2, 1, 0])) (fun _ _ _ _ _ _ _ us its ws h1 h2 h3 => match us, its, ws, h1, h2, h3 with | [], [_], [_, _, _, _], _, _, _ => ⟨_, rfl, rfl⟩)
    obtain ⟨_, kw0_unfed_ration_light_book⟩ := D.q_unfed.kbindsD (ps := ["book", "light", "ration", "known"]) 0 ["ration", "light", "book"] (fun us its ws => us ++ pick [2, 1, 0] ws ++ pick [0] its) (by simp) (fun r1 r2 r3 => ((r1).append (pick_vals r3 [2, 1, 0])).append (pick_vals r2 [0])) (fun _ _ _ _ _ _ _ us its ws h1 h2 h3 => match us, its, ws, h1, h2, h3 with | [], [_], [_, _, _], _, _, _ => ⟨_, rfl, rfl⟩)
    obtain ⟨_, kw0_weight_wanted_till_known_ration_light_book⟩ := D.q_weight_wanted.kbindsD (ps := ["book", "light", "ration", "till", "known"]) 0 ["till", "known", "ration", "light", "book"] (fun us its ws => us ++ pick [4, 3, 2, 0, 1] ws) (by simp) (fun r1 r2 r3 => (r1).append (pick_vals r3 [4, 3, 2, 0, 1])) (fun _ _ _ _ _ _ _ us its ws h1 h2 h3 => match us, its, ws, h1, h2, h3 with | [], [_], [_, _, _, _, _], _, _, _ => ⟨_, rfl, rfl⟩)
    obtain ⟨_, kw0_weight_wanted_till_ration_light_book⟩ := D.q_weight_wanted.kbindsD (ps := ["book", "light", "ration", "till", "known"]) 0 ["till", "ration", "light", "book"] (fun us its ws => us ++ pick [3, 2, 1, 0] ws ++ pick [0] its) (by simp) (fun r1 r2 r3 => ((r1).append (pick_vals r3 [3, 2, 1, 0])).append (pick_vals r2 [0])) (fun _ _ _ _ _ _ _ us its ws h1 h2 h3 => match us, its, ws, h1, h2, h3 with | [], [_], [_, _, _, _], _, _, _ => ⟨_, rfl, rfl⟩)
    obtain ⟨_, kw0_landing_day_known_light_boat_book⟩ := D.q_landing.kbindsD (ps := ["book", "boat", "light", "day", "known"]) 0 ["day", "known", "light", "boat", "book"] (fun us its ws => us ++ pick [4, 3, 2, 0, 1] ws) (by simp) (fun r1 r2 r3 => (r1).append (pick_vals r3 [4, 3, 2, 0, 1])) (fun _ _ _ _ _ _ _ us its ws h1 h2 h3 => match us, its, ws, h1, h2, h3 with | [], [_], [_, _, _, _, _], _, _, _ => ⟨_, rfl, rfl⟩)
    obtain ⟨_, kw0_landing_day_light_boat_book⟩ := D.q_landing.kbindsD (ps := ["book", "boat", "light", "day", "known"]) 0 ["day", "light", "boat", "book"] (fun us its ws => us ++ pick [3, 2, 1, 0] ws ++ pick [0] its) (by simp) (fun r1 r2 r3 => ((r1).append (pick_vals r3 [3, 2, 1, 0])).append (pick_vals r2 [0])) (fun _ _ _ _ _ _ _ us its ws h1 h2 h3 => match us, its, ws, h1, h2, h3 with | [], [_], [_, _, _, _], _, _, _ => ⟨_, rfl, rfl⟩)
    obtain ⟨_, v3_heads, b3_heads⟩ := D.q_heads.binds1 (ps := ["book", "light", "known"]) 3 1 (by simp) (by rfl) (fun _ _ _ _ _ _ _ us its h1 h2 => match us, its, h1, h2 with | [_, _, _], [_], _, _ => ⟨_, rfl, rfl⟩)
    obtain ⟨_, v2_heads, b2_heads⟩ := D.q_heads.binds1 (ps := ["book", "light", "known"]) 2 0 (by simp) (by rfl) (fun _ _ _ _ _ _ _ us its h1 h2 => match us, its, h1, h2 with | [_, _], [_], _, _ => ⟨_, rfl, rfl⟩)
    obtain ⟨_, v5_left_over, b5_left_over⟩ := D.q_left_over.binds1 (ps := ["book", "light", "ration", "day", "known"]) 5 1 (by simp) (by rfl) (fun _ _ _ _ _ _ _ us its h1 h2 => match us, its, h1, h2 with | [_, _, _, _, _], [_], _, _ => ⟨_, rfl, rfl⟩)
    obtain ⟨_, v4_left_over, b4_left_over⟩ := D.q_left_over.binds1 (ps := ["book", "light", "ration", "day", "known"]) 4 0 (by simp) (by rfl) (fun _ _ _ _ _ _ _ us its h1 h2 => match us, its, h1, h2 with | [_, _, _, _], [_], _, _ => ⟨_, rfl, rfl⟩)
    obtain ⟨_, v4_unfed, b4_unfed⟩ := D.q_unfed.binds1 (ps := ["book", "light", "ration", "known"]) 4 1 (by simp) (by rfl) (fun _ _ _ _ _ _ _ us its h1 h2 => match us, its, h1, h2 with | [_, _, _, _], [_], _, _ => ⟨_, rfl, rfl⟩)
    obtain ⟨_, v3_unfed, b3_unfed⟩ := D.q_unfed.binds1 (ps := ["book", "light", "ration", "known"]) 3 0 (by simp) (by rfl) (fun _ _ _ _ _ _ _ us its h1 h2 => match us, its, h1, h2 with | [_, _, _], [_], _, _ => ⟨_, rfl, rfl⟩)
    obtain ⟨_, v5_weight_wanted, b5_weight_wanted⟩ := D.q_weight_wanted.binds1 (ps := ["book", "light", "ration", "till", "known"]) 5 1 (by simp) (by rfl) (fun _ _ _ _ _ _ _ us its h1 h2 => match us, its, h1, h2 with | [_, _, _, _, _], [_], _, _ => ⟨_, rfl, rfl⟩)
    obtain ⟨_, v4_weight_wanted, b4_weight_wanted⟩ := D.q_weight_wanted.binds1 (ps := ["book", "light", "ration", "till", "known"]) 4 0 (by simp) (by rfl) (fun _ _ _ _ _ _ _ us its h1 h2 => match us, its, h1, h2 with | [_, _, _, _], [_], _, _ => ⟨_, rfl, rfl⟩)
    obtain ⟨_, v5_landing, b5_landing⟩ := D.q_landing.binds1 (ps := ["book", "boat", "light", "day", "known"]) 5 1 (by simp) (by rfl) (fun _ _ _ _ _ _ _ us its h1 h2 => match us, its, h1, h2 with | [_, _, _, _, _], [_], _, _ => ⟨_, rfl, rfl⟩)
    obtain ⟨_, v4_landing, b4_landing⟩ := D.q_landing.binds1 (ps := ["book", "boat", "light", "day", "known"]) 4 0 (by simp) (by rfl) (fun _ _ _ _ _ _ _ us its h1 h2 => match us, its, h1, h2 with | [_, _, _, _], [_], _, _ => ⟨_, rfl, rfl⟩)
    refine ⟨_, pss_cons (ps_set (i := 4) nd rfl (.inl rfl) (pe_ix ix_list (pe_dget hu1 (pv 3) pe_str (fun _ _ => rfl)) (pe_call (ok__law_take D) (hr.mono (by decide)) (by rfl) D.h__law_take.gl D.h__law_take.fn.kp D.h__law_take.bd .nil pass0 (pa_cons (pv 0) (pa_cons (pe_callB call_len_seq (by rfl) T.len PySem.boot_len (pa_cons (pe_dget hu1 (pv 3) pe_str (fun _ _ => rfl)) pa_nil)) pa_nil))) (fun _ _ => rfl)))
      (pss_cons (ps_set (i := 5) nd rfl (.inl rfl) (pe_op op_add pe_int (pe_call (ok__law_take D) (hr.mono (by decide)) (by rfl) D.h__law_take.gl D.h__law_take.fn.kp D.h__law_take.bd .nil pass0 (pa_cons (pv 0) (pa_cons pe_int pa_nil)))))
      (pss_cons (ps_set (i := 6) nd rfl (.inl rfl) (pe_callB (call_max2 rfl) (by rfl) T.max (by decide +kernel) (pa_cons pe_int (pa_cons (pe_op op_sub (pe_dget hu1 (pv 3) pe_str (fun _ _ => rfl)) (pe_call (ok__law_take D) (hr.mono (by decide)) (by rfl) D.h__law_take.gl D.h__law_take.fn.kp D.h__law_take.bd .nil pass0 (pa_cons (pv 0) (pa_cons pe_int pa_nil)))) pa_nil))))
      (pss_cons (ps_set (i := 7) nd rfl (.inl rfl) (pe_op op_add (pe_op op_mul (pe_dget hu1 (pv 3) pe_str (fun _ _ => rfl)) (pe_call (ok__law_take D) (hr.mono (by decide)) (by rfl) D.h__law_take.gl D.h__law_take.fn.kp D.h__law_take.bd .nil pass0 (pa_cons (pv 0) (pa_cons pe_int pa_nil)))) (pe_call (ok__law_take D) (hr.mono (by decide)) (by rfl) D.h__law_take.gl D.h__law_take.fn.kp D.h__law_take.bd .nil pass0 (pa_cons (pv 0) (pa_cons pe_int pa_nil)))))
      (pss_cons (ps_set (i := 8) nd rfl (.inl rfl) (pe_lst (pa_cons (pe_callKn (ok_heads D) (hr.mono (by decide)) (by rfl) D.gl_heads D.kp_heads kw0_heads_known_light_book pass0 (pk_cons (pv 6) (pk_cons (pv 4) (pk_cons (pv 1) pk_nil)))) (pa_cons (pe_callKn (ok_heads D) (hr.mono (by decide)) (by rfl) D.gl_heads D.kp_heads kw0_heads_light_book pass0 (pk_cons (pv 4) (pk_cons (pv 1) pk_nil))) pa_nil))))
      (pss_cons (ps_set (i := 9) nd rfl (.inl rfl) (pe_lst (pa_cons (pe_call (ok_heads D) (hr.mono (by decide)) (by rfl) D.gl_heads D.kp_heads b3_heads v3_heads pass0 (pa_cons (pv 1) (pa_cons (pv 4) (pa_cons (pv 6) pa_nil)))) (pa_cons (pe_call (ok_heads D) (hr.mono (by decide)) (by rfl) D.gl_heads D.kp_heads b2_heads v2_heads pass0 (pa_cons (pv 1) (pa_cons (pv 4) pa_nil))) pa_nil))))
      (pss_cons (ps_expr (pe_bm PySem.F.plainAttrs_list PySem.F.slot_list_append PySem.F.type_list_append mt_append (pv 8) (pa_cons (pe_callKn (ok_left_over D) (hr.mono (by decide)) (by rfl) D.gl_left_over D.kp_left_over kw0_left_over_day_ration_light_known_book pass0 (pk_cons (pv 7) (pk_cons (pv 5) (pk_cons (pv 4) (pk_cons (pv 6) (pk_cons (pv 1) pk_nil)))))) pa_nil)))
      (pss_cons (ps_expr (pe_bm PySem.F.plainAttrs_list PySem.F.slot_list_append PySem.F.type_list_append mt_append (pv 8) (pa_cons (pe_callKn (ok_left_over D) (hr.mono (by decide)) (by rfl) D.gl_left_over D.kp_left_over kw0_left_over_day_ration_light_book pass0 (pk_cons (pv 7) (pk_cons (pv 5) (pk_cons (pv 4) (pk_cons (pv 1) pk_nil))))) pa_nil)))
      (pss_cons (ps_set (i := 9) nd rfl (.inl rfl) (pe_op op_cat (pv 9) (pe_lst (pa_cons (pe_call (ok_left_over D) (hr.mono (by decide)) (by rfl) D.gl_left_over D.kp_left_over b5_left_over v5_left_over pass0 (pa_cons (pv 1) (pa_cons (pv 4) (pa_cons (pv 5) (pa_cons (pv 7) (pa_cons (pv 6) pa_nil)))))) (pa_cons (pe_call (ok_left_over D) (hr.mono (by decide)) (by rfl) D.gl_left_over D.kp_left_over b4_left_over v4_left_over pass0 (pa_cons (pv 1) (pa_cons (pv 4) (pa_cons (pv 5) (pa_cons (pv 7) pa_nil))))) pa_nil)))))
      (pss_cons (ps_expr (pe_bm PySem.F.plainAttrs_list PySem.F.slot_list_append PySem.F.type_list_append mt_append (pv 8) (pa_cons (pe_callKn (ok_unfed D) (hr.mono (by decide)) (by rfl) D.gl_unfed D.kp_unfed kw0_unfed_known_ration_light_book pass0 (pk_cons (pv 6) (pk_cons (pv 5) (pk_cons (pv 4) (pk_cons (pv 1) pk_nil))))) pa_nil)))
      (pss_cons (ps_expr (pe_bm PySem.F.plainAttrs_list PySem.F.slot_list_append PySem.F.type_list_append mt_append (pv 8) (pa_cons (pe_callKn (ok_unfed D) (hr.mono (by decide)) (by rfl) D.gl_unfed D.kp_unfed kw0_unfed_ration_light_book pass0 (pk_cons (pv 5) (pk_cons (pv 4) (pk_cons (pv 1) pk_nil)))) pa_nil)))
      (pss_cons (ps_set (i := 9) nd rfl (.inl rfl) (pe_op op_cat (pv 9) (pe_lst (pa_cons (pe_call (ok_unfed D) (hr.mono (by decide)) (by rfl) D.gl_unfed D.kp_unfed b4_unfed v4_unfed pass0 (pa_cons (pv 1) (pa_cons (pv 4) (pa_cons (pv 5) (pa_cons (pv 6) pa_nil))))) (pa_cons (pe_call (ok_unfed D) (hr.mono (by decide)) (by rfl) D.gl_unfed D.kp_unfed b3_unfed v3_unfed pass0 (pa_cons (pv 1) (pa_cons (pv 4) (pa_cons (pv 5) pa_nil)))) pa_nil)))))
      (pss_cons (ps_expr (pe_bm PySem.F.plainAttrs_list PySem.F.slot_list_append PySem.F.type_list_append mt_append (pv 8) (pa_cons (pe_callKn (ok_weight_wanted D) (hr.mono (by decide)) (by rfl) D.gl_weight_wanted D.kp_weight_wanted kw0_weight_wanted_till_known_ration_light_book pass0 (pk_cons (pv 7) (pk_cons (pv 6) (pk_cons (pv 5) (pk_cons (pv 4) (pk_cons (pv 1) pk_nil)))))) pa_nil)))
      (pss_cons (ps_expr (pe_bm PySem.F.plainAttrs_list PySem.F.slot_list_append PySem.F.type_list_append mt_append (pv 8) (pa_cons (pe_callKn (ok_weight_wanted D) (hr.mono (by decide)) (by rfl) D.gl_weight_wanted D.kp_weight_wanted kw0_weight_wanted_till_ration_light_book pass0 (pk_cons (pv 7) (pk_cons (pv 5) (pk_cons (pv 4) (pk_cons (pv 1) pk_nil))))) pa_nil)))
      (pss_cons (ps_set (i := 9) nd rfl (.inl rfl) (pe_op op_cat (pv 9) (pe_lst (pa_cons (pe_call (ok_weight_wanted D) (hr.mono (by decide)) (by rfl) D.gl_weight_wanted D.kp_weight_wanted b5_weight_wanted v5_weight_wanted pass0 (pa_cons (pv 1) (pa_cons (pv 4) (pa_cons (pv 5) (pa_cons (pv 7) (pa_cons (pv 6) pa_nil)))))) (pa_cons (pe_call (ok_weight_wanted D) (hr.mono (by decide)) (by rfl) D.gl_weight_wanted D.kp_weight_wanted b4_weight_wanted v4_weight_wanted pass0 (pa_cons (pv 1) (pa_cons (pv 4) (pa_cons (pv 5) (pa_cons (pv 7) pa_nil))))) pa_nil)))))
      (pss_cons (ps_expr (pe_bm PySem.F.plainAttrs_list PySem.F.slot_list_append PySem.F.type_list_append mt_append (pv 8) (pa_cons (pe_callKn (ok_landing D) (hr.mono (by decide)) (by rfl) D.gl_landing D.kp_landing kw0_landing_day_known_light_boat_book pass0 (pk_cons (pv 7) (pk_cons (pv 6) (pk_cons (pv 4) (pk_cons (pv 2) (pk_cons (pv 1) pk_nil)))))) pa_nil)))
      (pss_cons (ps_expr (pe_bm PySem.F.plainAttrs_list PySem.F.slot_list_append PySem.F.type_list_append mt_append (pv 8) (pa_cons (pe_callKn (ok_landing D) (hr.mono (by decide)) (by rfl) D.gl_landing D.kp_landing kw0_landing_day_light_boat_book pass0 (pk_cons (pv 7) (pk_cons (pv 4) (pk_cons (pv 2) (pk_cons (pv 1) pk_nil))))) pa_nil)))
      (pss_cons (ps_set (i := 9) nd rfl (.inl rfl) (pe_op op_cat (pv 9) (pe_lst (pa_cons (pe_call (ok_landing D) (hr.mono (by decide)) (by rfl) D.gl_landing D.kp_landing b5_landing v5_landing pass0 (pa_cons (pv 1) (pa_cons (pv 2) (pa_cons (pv 4) (pa_cons (pv 7) (pa_cons (pv 6) pa_nil)))))) (pa_cons (pe_call (ok_landing D) (hr.mono (by decide)) (by rfl) D.gl_landing D.kp_landing b4_landing v4_landing pass0 (pa_cons (pv 1) (pa_cons (pv 2) (pa_cons (pv 4) (pa_cons (pv 7) pa_nil))))) pa_nil)))))
      (pss_one (ps_ret (pe_cmpR op_eq (pe_callB (call_reprS (C := D.C_Stretch) (sp := spSRepr D.C_Stretch) (N := 4) D.h_Stretch___repr__.me.at_ D.h_Stretch___repr__.me.fn (ok_Stretch___repr__ D) hG2 (hr.mono (by decide)) D.h_Stretch___repr__.bd) (by rfl) T.repr (by decide +kernel) (pa_cons (pv 8) pa_nil)) (pe_callB (call_reprS (C := D.C_Stretch) (sp := spSRepr D.C_Stretch) (N := 4) D.h_Stretch___repr__.me.at_ D.h_Stretch___repr__.me.fn (ok_Stretch___repr__ D) hG2 (hr.mono (by decide)) D.h_Stretch___repr__.bd) (by rfl) T.repr (by decide +kernel) (pa_cons (pv 9) pa_nil)) (nomark _))))))))))))))))))))), ?_⟩
    have G := W.hG
    have l0 := G.l0
    have l8 := G.l8
    refine ⟨_, rfl, c.P, _, rfl, pg_lights W.hP, _, rfl, _, rfl, c.P, _, rfl, pg_lights W.hP, c.D.l, _, rfl, .inl (SqL.of W.hl), p, _, rfl, W.pot, by rw [List.length_map]; omega, by rw [List.length_map]; omega, fun g2 H2 gc gd hp2 s2 => ?_⟩
    rw [List.length_map] at gd
    have W2 := W.look hp2 s2
    obtain ⟨y, hy, _, hat2⟩ := str_at gc gd
    refine ⟨c.D.l, _, g2, .str y, rfl, rfl, SqL.of W2.hl, hat2, ?_⟩
    have ny := G.ls.nm y (by assumption)
    refine ⟨_, rfl, p, 9, rfl, W2.pot, by decide, by decide, fun e1 H3 a0 a1 hp3 s3 => ⟨_, _, rfl, rfl, ?_⟩⟩
    have W3 := W2.look hp3 s3
    refine ⟨_, rfl, c.P, _, rfl, pg_known W3.hP, _, rfl, p, 12, rfl, W3.pot, by decide, by decide, fun e3 H4 e0 e1' hp4 s4 => ⟨_, _, rfl, rfl, 0, _, rfl, ?_⟩⟩
    have W4 := W3.look hp4 s4
    obtain ⟨kb, ekb⟩ : ∃ kb : Int, (if c.kn - e3 > 0 then c.kn - e3 else 0) = kb := ⟨_, rfl⟩
    rw [ekb]
    have k0 := W.k0
    have kb0 : 0 ≤ kb := by rw [← ekb]; split <;> omega
    refine ⟨_, rfl, c.P, _, rfl, pg_far W4.hP, _, rfl, p, 2, rfl, W4.pot, by decide, by decide, fun e4 H5 f0 f1 hp5 s5 => ⟨_, _, rfl, rfl, .inr ⟨by omega, by omega⟩, _, rfl, p, 25, rfl, hp5, by decide, by decide, fun e5 H6 g0 g1' hp6 s6 => ⟨_, _, rfl, rfl, ?_⟩⟩⟩
    have W6 := (W4.look hp5 s5).look hp6 s6
    have F0 := G.f0
    have F1 := G.f1
    dsimp only
    generalize eR : 1 + e1 = R
    have R1 : 1 ≤ R := by omega
    have R2 : R < 10 ^ 56 := by omega
    generalize ed : c.D.far * e4 + e5 = d
    have d0 : 0 ≤ d := by
      rw [← ed]
      have := Int.mul_nonneg F0 f0
      omega
    have d1 : d < 10 ^ 150 := by
      rw [← ed]
      have : c.D.far * e4 ≤ c.D.far * 1 := Int.mul_le_mul_of_nonneg_left (by omega) F0
      omega
    have s06 : SameB p H H6 := ((((s2.trans s3).trans s4).trans s5).trans s6)
    have B6 := B.B W.pot s06
    have kok : knOK (some kb) := fun k hk => by cases hk; exact kb0
    have non : knOK none := fun k hk => nomatch hk
    have hl60 : c.es.length ≤ 60 := by omega
    have bk := W6.bk
    have evok := bk.ev.2.2
    have zl : (c.D.rk.map (·.1)).length ≤ 30 := by rw [List.length_map]; exact bk.ev.1.ln
    have ok1 : (shopOf c.es c.D.rk y (some kb) R).OK c.D.rk := ⟨evok, zl, by show 0 ≤ R; omega, R2⟩
    have ok2 : (shopOf c.es c.D.rk y none R).OK c.D.rk := ⟨evok, zl, by show 0 ≤ R; omega, R2⟩
    have rm : 1 ≤ roomL 2 300 80 := by decide
    refine ⟨_, rfl, _, rfl, _, rfl, rfl, c.b, c.D.rk, c.es, c.fp, y, some kb, rfl, bk, ny, hl60, kok, fun t1 r1 H7 n1 ra1 hd1 ln1 im1 s7 => ?_⟩
    refine ⟨_, rfl, _, rfl, rfl, c.b, c.D.rk, c.es, c.fp, y, none, rfl, bk.mono s7, ny, hl60, non, fun t2 r2 H8 n2 ra2 hd2 ln2 im2 s8 => ?_⟩
    refine ⟨by show 2 ≤ sizeLine; decide, fun F nF => ?_⟩
    have s9 := same_upd (o := .lst [V.ref t1, V.ref t2]) nF
    have eF := upd_same (H := H8) (a := F) (o := .lst [V.ref t1, V.ref t2])
    generalize upd H8 F (.lst [V.ref t1, V.ref t2]) = H9 at *
    have s69 := s7.trans (s8.trans s9)
    refine ⟨_, rfl, _, rfl, _, rfl, c.b, c.D.rk, c.es, c.fp, y, some kb, rfl, bk.mono s69, ny, hl60, kok, fun u1 r1' H10 n3 ra3 hd3 ln3 im3 s10 => ?_⟩
    refine ⟨_, rfl, _, rfl, c.b, c.D.rk, c.es, c.fp, y, none, rfl, bk.mono (s69.trans s10), ny, hl60, non, fun u2 r2' H11 n4 ra4 hd4 ln4 im4 s11 => ?_⟩
    obtain rfl : r1 = r1' := runs_uniq hd1 hd3
    obtain rfl : r2 = r2' := runs_uniq hd2 hd4
    refine ⟨by show 2 ≤ sizeLine; decide, fun D0 nD0 => ?_⟩
    have s12 := same_upd (o := .lst [V.ref u1, V.ref u2]) nD0
    have eD := upd_same (H := H11) (a := D0) (o := .lst [V.ref u1, V.ref u2])
    generalize upd H11 D0 (.lst [V.ref u1, V.ref u2]) = H12 at *
    have sm1 := heads_sm evok zl hd1
    have sm2 := heads_sm evok zl hd2
    have noS : ∀ {Hx : Hp}, ∀ G ∈ ([] : List Addr), ∃ xs, Hx G = some (.lst xs) := fun G hG => nomatch hG
    have fd : FD D.C_Stretch H6 H12 F D0 [V.ref t1, V.ref t2] [V.ref u1, V.ref u2] [listText (r1.map shR), listText (r2.map shR)] [listText (r1.map shR), listText (r2.map shR)] := by
      have s912 := s10.trans (s11.trans s12)
      have hF : ∀ {Hx : Hp}, Same H9 Hx → ∀ G ∈ [F], ∃ xs, Hx G = some (.lst xs) := fun {Hx} sx G hG => by
        rw [List.mem_singleton.mp hG]
        exact ⟨_, sx _ _ eF⟩
      refine ⟨s69.trans s912, (s7.trans s8).free nF, s912 _ _ eF, eD, ne_of_none' nD0 ((s10.trans s11) _ _ eF), ?_, ?_⟩
      · exact .cons ((((shf_runs ra1 sm1 ln1 List.not_mem_nil noS).mono s8).snoc nF).mono (s9.trans s912)) (.cons (((shf_runs ra2 sm2 ln2 List.not_mem_nil noS).snoc nF).mono (s9.trans s912)) .nil)
      · exact .cons ((shf_runs ra3 sm1 ln3 (fun h => ne_of_none' n3 eF (List.mem_singleton.mp h)) (hF s10)).mono (s11.trans s12)) (.cons ((shf_runs ra4 sm2 ln4 (fun h => ne_of_none' n4 (s10 _ _ eF) (List.mem_singleton.mp h)) (hF (s10.trans s11))).mono s12) .nil)
    clear ra1 ra2 ra3 ra4
    refine ⟨_, rfl, .inl ⟨rfl, _, SqL.of fd.eF⟩, _, rfl, _, rfl, _, rfl, _, rfl, _, rfl, rfl, c.b, c.D.rk, c.es, c.fp, y, R, d, some kb, rfl, bk.mono fd.S, ny, hl60, kok, R1, R2, d0, d1, fun H13 s13 => ?_⟩
    refine ⟨F, _, _, rfl, rfl, s13 _ _ fd.eF, by show 2 < sizeLine; decide, ?_⟩
    replace fd := fd.app s13 (shf_int (left_big ok1 d0 d1))
    refine ⟨_, rfl, .inl ⟨rfl, _, SqL.of fd.eF⟩, _, rfl, _, rfl, _, rfl, _, rfl, rfl, c.b, c.D.rk, c.es, c.fp, y, R, d, none, rfl, bk.mono fd.S, ny, hl60, non, R1, R2, d0, d1, fun H15 s15 => ?_⟩
    refine ⟨F, _, _, rfl, rfl, s15 _ _ fd.eF, by show 3 < sizeLine; decide, ?_⟩
    replace fd := fd.app s15 (shf_int (left_big ok2 d0 d1))
    refine ⟨_, rfl, _, rfl, _, rfl, _, rfl, _, rfl, _, rfl, c.b, c.D.rk, c.es, c.fp, y, R, d, some kb, rfl, bk.mono fd.S, ny, hl60, kok, R1, R2, d0, d1, fun H17 s17 => ?_⟩
    refine ⟨_, rfl, _, rfl, _, rfl, _, rfl, c.b, c.D.rk, c.es, c.fp, y, R, d, none, rfl, bk.mono (fd.S.trans s17), ny, hl60, non, R1, R2, d0, d1, fun H18 s18 => ?_⟩
    refine ⟨by show 2 ≤ sizeLine; decide, fun T1 nT1 => ?_⟩
    refine ⟨_, T1, _, _, rfl, rfl, (s17.trans (s18.trans (same_upd nT1))) _ _ fd.eD, upd_same, by show 2 + 2 ≤ sizeLine; decide, fun D1 nD1 => ?_⟩
    replace fd := fd.cat (s17.trans (s18.trans (same_upd nT1))) (.cons (shf_int (left_big ok1 d0 d1)) (.cons (shf_int (left_big ok2 d0 d1)) .nil)) nD1
    refine ⟨_, rfl, .inl ⟨rfl, _, SqL.of fd.eF⟩, _, rfl, _, rfl, _, rfl, _, rfl, rfl, c.b, c.D.rk, c.es, c.fp, y, R, some kb, rfl, bk.mono fd.S, ny, hl60, kok, R1, R2, fun v1 H20 hv1 s20 => ?_⟩
    obtain ⟨o1, ou1, oa1⟩ := hv1.o
    refine ⟨F, _, _, rfl, rfl, s20 _ _ fd.eF, by show 4 < sizeLine; decide, ?_⟩
    replace fd := fd.app s20 (shf_unf ok1 ou1 oa1 (fd.hS s20))
    refine ⟨_, rfl, .inl ⟨rfl, _, SqL.of fd.eF⟩, _, rfl, _, rfl, _, rfl, rfl, c.b, c.D.rk, c.es, c.fp, y, R, none, rfl, bk.mono fd.S, ny, hl60, non, R1, R2, fun v2 H22 hv2 s22 => ?_⟩
    obtain ⟨o2, ou2, oa2⟩ := hv2.o
    refine ⟨F, _, _, rfl, rfl, s22 _ _ fd.eF, by show 5 < sizeLine; decide, ?_⟩
    replace fd := fd.app s22 (shf_unf ok2 ou2 oa2 (fd.hS s22))
    refine ⟨_, rfl, _, rfl, _, rfl, _, rfl, _, rfl, c.b, c.D.rk, c.es, c.fp, y, R, some kb, rfl, bk.mono fd.S, ny, hl60, kok, R1, R2, fun v3 H24 hv3 s24 => ?_⟩
    refine ⟨_, rfl, _, rfl, _, rfl, c.b, c.D.rk, c.es, c.fp, y, R, none, rfl, bk.mono (fd.S.trans s24), ny, hl60, non, R1, R2, fun v4 H25 hv4 s25 => ?_⟩
    obtain ⟨o3, ou3, oa3⟩ := hv3.o
    obtain ⟨o4, ou4, oa4⟩ := hv4.o
    obtain rfl : o1 = o3 := ou1.uniq ou3
    obtain rfl : o2 = o4 := ou2.uniq ou4
    refine ⟨by show 2 ≤ sizeLine; decide, fun T2 nT2 => ?_⟩
    refine ⟨_, T2, _, _, rfl, rfl, (s24.trans (s25.trans (same_upd nT2))) _ _ fd.eD, upd_same, by show 4 + 2 ≤ sizeLine; decide, fun D2 nD2 => ?_⟩
    replace fd := fd.cat (s24.trans (s25.trans (same_upd nT2))) (.cons ((shf_unf ok1 ou3 oa3 (fd.hS s24)).mono (s25.trans (same_upd nT2))) (.cons ((shf_unf ok2 ou4 oa4 (fd.hS (s24.trans s25))).mono (same_upd nT2)) .nil)) nD2
    refine ⟨_, rfl, .inl ⟨rfl, _, SqL.of fd.eF⟩, _, rfl, _, rfl, _, rfl, _, rfl, _, rfl, rfl, c.b, c.D.rk, c.es, c.fp, y, R, d, some kb, rfl, bk.mono fd.S, ny, hl60, kok, R1, R2, d0, d1, fun w1 l1 y1 H27 nw1 ew1 hw1 s27 => ?_⟩
    have wb : ∀ {s : Shop} {l : Int} {dy : Option Int}, s.OK c.D.rk → Want s d (fun _ => True) l dy → l.natAbs ≤ 10 ^ 220 ∧ ∀ e, dy = some e → e.natAbs ≤ 10 ^ 220 := fun {s l dy} ok w => by
      rcases w.is with ⟨h, h'⟩ | ⟨x, h, _, x0, x1, hx, _⟩
      · rw [h, h']
        exact ⟨by decide, nofun⟩
      · have := left_big ok x0 (by omega)
        rw [h]
        exact ⟨by omega, fun e he => by cases he; omega⟩
    refine ⟨F, _, _, rfl, rfl, s27 _ _ fd.eF, by show 6 < sizeLine; decide, ?_⟩
    replace fd := fd.app s27 (shf_want ew1 (wb ok1 hw1).1 (wb ok1 hw1).2 (fd.hS s27))
    refine ⟨_, rfl, .inl ⟨rfl, _, SqL.of fd.eF⟩, _, rfl, _, rfl, _, rfl, _, rfl, rfl, c.b, c.D.rk, c.es, c.fp, y, R, d, none, rfl, bk.mono fd.S, ny, hl60, non, R1, R2, d0, d1, fun w2 l2 y2 H29 nw2 ew2 hw2 s29 => ?_⟩
    refine ⟨F, _, _, rfl, rfl, s29 _ _ fd.eF, by show 7 < sizeLine; decide, ?_⟩
    replace fd := fd.app s29 (shf_want ew2 (wb ok2 hw2).1 (wb ok2 hw2).2 (fd.hS s29))
    refine ⟨_, rfl, _, rfl, _, rfl, _, rfl, _, rfl, _, rfl, c.b, c.D.rk, c.es, c.fp, y, R, d, some kb, rfl, bk.mono fd.S, ny, hl60, kok, R1, R2, d0, d1, fun w3 l3 y3 H31 nw3 ew3 hw3 s31 => ?_⟩
    refine ⟨_, rfl, _, rfl, _, rfl, _, rfl, c.b, c.D.rk, c.es, c.fp, y, R, d, none, rfl, bk.mono (fd.S.trans s31), ny, hl60, non, R1, R2, d0, d1, fun w4 l4 y4 H32 nw4 ew4 hw4 s32 => ?_⟩
    obtain ⟨rfl, rfl⟩ := hw1.uniq hw3
    obtain ⟨rfl, rfl⟩ := hw2.uniq hw4
    refine ⟨by show 2 ≤ sizeLine; decide, fun T3 nT3 => ?_⟩
    refine ⟨_, T3, _, _, rfl, rfl, (s31.trans (s32.trans (same_upd nT3))) _ _ fd.eD, upd_same, by show 6 + 2 ≤ sizeLine; decide, fun D3 nD3 => ?_⟩
    replace fd := fd.cat (s31.trans (s32.trans (same_upd nT3))) (.cons ((shf_want ew3 (wb ok1 hw3).1 (wb ok1 hw3).2 (fd.hS s31)).mono (s32.trans (same_upd nT3))) (.cons ((shf_want ew4 (wb ok2 hw4).1 (wb ok2 hw4).2 (fd.hS (s31.trans s32))).mono (same_upd nT3)) .nil)) nD3
    have lnd : ∀ {Hx : Hp} {t : Addr} {a b e f : Int}, (∀ n ∈ [a, b, e, f], n.natAbs ≤ 10 ^ 220) → Hx t = some (.tup [.int a, .int b, .int e, .int f]) → (∀ G ∈ [F], ∃ xs, Hx G = some (.lst xs)) → ShF D.C_Stretch Hx [F] (.ref t) (tupleText [Str.ofString (toString a), Str.ofString (toString b), Str.ofString (toString e), Str.ofString (toString f)]) := fun h e hS =>
      shf_tup e (.cons ⟨h _ (by simp), rfl⟩ (.cons ⟨h _ (by simp), rfl⟩ (.cons ⟨h _ (by simp), rfl⟩ (.cons ⟨h _ (by simp), rfl⟩ .nil)))) (by show 4 ≤ 4; omega) hS
    refine ⟨_, rfl, .inl ⟨rfl, _, SqL.of fd.eF⟩, _, rfl, _, rfl, _, rfl, _, rfl, _, rfl, rfl, c.b, x, c.D.rk, c.es, c.fp, 2, 300, 80, y, d, some kb, rfl, bk.mono fd.S, B6.mono fd.S, rm, ny, hl60, d0, kok, fun g1 H34 gb1 ng1 eg1 s34 => ?_⟩
    refine ⟨F, _, _, rfl, rfl, s34 _ _ fd.eF, by show 8 < sizeLine; decide, ?_⟩
    replace fd := fd.app s34 (lnd gb1 eg1 (fd.hS s34))
    refine ⟨_, rfl, .inl ⟨rfl, _, SqL.of fd.eF⟩, _, rfl, _, rfl, _, rfl, _, rfl, rfl, c.b, x, c.D.rk, c.es, c.fp, 2, 300, 80, y, d, none, rfl, bk.mono fd.S, B6.mono fd.S, rm, ny, hl60, d0, non, fun g2 H36 gb2 ng2 eg2 s36 => ?_⟩
    refine ⟨F, _, _, rfl, rfl, s36 _ _ fd.eF, by show 9 < sizeLine; decide, ?_⟩
    replace fd := fd.app s36 (lnd gb2 eg2 (fd.hS s36))
    refine ⟨_, rfl, _, rfl, _, rfl, _, rfl, _, rfl, _, rfl, c.b, x, c.D.rk, c.es, c.fp, 2, 300, 80, y, d, some kb, rfl, bk.mono fd.S, B6.mono fd.S, rm, ny, hl60, d0, kok, fun g3 H38 gb3 ng3 eg3 s38 => ?_⟩
    refine ⟨_, rfl, _, rfl, _, rfl, _, rfl, c.b, x, c.D.rk, c.es, c.fp, 2, 300, 80, y, d, none, rfl, bk.mono (fd.S.trans s38), B6.mono (fd.S.trans s38), rm, ny, hl60, d0, non, fun g4 H39 gb4 ng4 eg4 s39 => ?_⟩
    refine ⟨by show 2 ≤ sizeLine; decide, fun T4 nT4 => ?_⟩
    refine ⟨_, T4, _, _, rfl, rfl, (s38.trans (s39.trans (same_upd nT4))) _ _ fd.eD, upd_same, by show 8 + 2 ≤ sizeLine; decide, fun D4 nD4 => ?_⟩
    have sh4 : Paired (ShF D.C_Stretch (upd H39 T4 (.lst [V.ref g3, V.ref g4])) [F]) [V.ref g3, V.ref g4] [_, _] := Paired.cons ((lnd gb3 eg3 (fd.hS s38)).mono (s39.trans (same_upd nT4))) (Paired.cons ((lnd gb4 eg4 (fd.hS (s38.trans s39))).mono (same_upd nT4)) .nil)
    obtain ⟨PF, PD⟩ := fd.ends (s38.trans (s39.trans (same_upd nT4))) sh4 nD4
    replace fd := fd.cat (s38.trans (s39.trans (same_upd nT4))) sh4 nD4
    obtain ⟨as1, nas1, each1⟩ := its_all PF
    obtain ⟨as2, nas2, each2⟩ := its_all PD
    have z1 := its_size PF (by show 10 ≤ 10; omega)
    have z2 := its_size PD (by show 10 ≤ 10; omega)
    have t1l := (Paired.length PF).symm
    have t2l := (Paired.length PD).symm
    refine ⟨_, rfl, F, as1, _, _, rfl, fd.eF, t1l, nas1, each1, z1, ?_⟩
    refine ⟨_, rfl, _, as2, _, _, rfl, fd.eD, t2l, nas2, each2, z2, rfl, ?_⟩
    have fin := q _ (W6.pot.mono fd.S) (s06.trans (SameB.of fd.S))
    have key : ∀ (T : Str) (Hx : Hp), Q (.bl true) Hx → Q (.bl (decide (V.str T = V.str T))) Hx := fun T Hx h => by
      rw [decide_eq_true (rfl : V.str T = V.str T)]
      exact h
    exact key _ _ fin
end
end K80
set_option Elab.async false
set_option linter.all false
set_option maxRecDepth 100000
set_option maxHeartbeats 1600000
set_option pp.maxSteps 300
namespace K80
open PySem PySem.Spec PyProof.Rows L2 LT NdefX
section
variable {P : Program} {w : World} {K : PySem.W.Frag} {mg : Str → Option Value} {base : Heap}
def spLaw (K : PySem.W.Frag) : Sp := fun vs H Q _ => ∃ (a : Addr) (ns : List Int), vs = [.ref a] ∧ SqL K H a (ns.map V.int) ∧ ns.length ≤ 63 ∧ ∀ H', Q (.bl true) H'
theorem sc_law : FnScope ["_law_script", "_law_k", "_law_pot_here", "_law_plan_here", "_law_one", "_law_craft", "_law_step", "_law_turn"] ["_law_script"] (defScope s_law) := ⟨rfl, rfl, rfl, by decide +kernel, rfl, by decide +kernel, by decide +kernel⟩
theorem ok_law (D : All K P mg) {f : Addr} {fd : FuncData} (F : Fun K "law" "law" s_law f fd) : FnG P w K mg base CX0 15 f fd ["_law_script"] (spLaw K) := by
  refine okG F sc_law (fun h => ?_) (fun cdv A outer s H vs Q E hG hr h => ?_)
  · first | (obtain ⟨_, rfl, _⟩ := h; rfl) | (obtain ⟨_, _, rfl, _⟩ := h; rfl) | (obtain ⟨_, _, _, rfl, _⟩ := h; rfl) | (obtain ⟨_, _, _, _, rfl, _⟩ := h; rfl) | (obtain ⟨_, _, _, _, _, rfl, _⟩ := h; rfl) | (obtain ⟨_, _, _, _, _, _, rfl, _⟩ := h; rfl) | (obtain ⟨_, _, _, _, _, _, _, rfl, _⟩ := h; rfl) | (obtain ⟨_, _, _, _, _, _, _, _, rfl, _⟩ := h; rfl) | (obtain ⟨_, _, _, _, _, _, _, _, _, rfl, _⟩ := h; rfl) | (obtain ⟨_, _, _, _, _, _, _, _, _, _, rfl, _⟩ := h; rfl) | (obtain ⟨_, _, _, _, _, _, _, _, _, _, _, rfl, _⟩ := h; rfl) | (obtain ⟨_, _, _, _, _, _, _, _, _, _, _, _, rfl, _⟩ := h; rfl) | (obtain ⟨_, _, _, _, _, _, _, _, _, _, _, _, _, rfl, _⟩ := h; rfl) | (obtain ⟨_, _, _, _, _, _, _, _, _, _, _, _, _, _, rfl, _⟩ := h; rfl) | (obtain ⟨_, _, _, _, _, _, _, _, _, _, _, _, _, _, _, rfl, _⟩ := h; rfl)
  · have T := D.T
    have nd := sc_law.nd
    have hu := hr.units
    have hu1 := hu_of hr
    have hu0 := hr.units0
    have hG2 : (cxOf CX0 P w K mg base ["_law_script", "_law_k", "_law_pot_here", "_law_plan_here", "_law_one", "_law_craft", "_law_step", "_law_turn"] "law" (defScope s_law) f cdv A outer s H E).nox.A.guards = some [] := hG
    obtain ⟨sc, ss, rfl, hS, hl, q⟩ := h
    refine ⟨_, pss_cons (ps_for PassesOwn.never rfl (pi_range1 (by rfl) T.range (pa_cons (pe_callB (call_max2 rfl) (by rfl) T.max (by decide +kernel) (pa_cons pe_int (pa_cons (pe_callB (call_min2 rfl) (by rfl) T.min (by decide +kernel) (pa_cons (pe_callB call_len_seq (by rfl) T.len PySem.boot_len (pa_cons (pv 0) pa_nil)) (pa_cons pe_int pa_nil))) pa_nil))) pa_nil)) (pg_name (i := 1) nd rfl (Or.inl rfl)) (pss_cons (ps_set (i := 2) nd rfl (.inl rfl) (pe_call (ok__law_pot D) (hr.mono (by decide)) (by rfl) D.h__law_pot.gl D.h__law_pot.fn.kp D.h__law_pot.bd .nil pass0 (pa_cons (pv 0) (pa_cons (pv 1) pa_nil))))
      (pss_cons (ps_set (i := 3) nd rfl (.inl rfl) (pe_call (ok__law_plan D) (hr.mono (by decide)) (by rfl) D.h__law_plan.gl D.h__law_plan.fn.kp D.h__law_plan.bd .nil pass0 (pa_cons (pv 2) (pa_cons pe_int pa_nil))))
      (pss_cons (ps_par (i := 4) (j := 5) (by rfl) nd rfl rfl (by decide) rfl rfl (pa_cons (pe_make D.M_Book (ok_Book___init__ D) (hr.mono (by decide)) (by rfl) D.Z_Book.gl D.h_Book___init__.bd .nil pass0 (pa_cons (pe_dget hu1 (pv 3) pe_str (fun _ _ => rfl)) pa_nil)) (pa_cons (pe_make D.M_Boat (ok_Boat___init__ D) (hr.mono (by decide)) (by rfl) D.Z_Boat.gl D.h_Boat___init__.bd .nil pass0 (pa_cons pe_int (pa_cons pe_int (pa_cons pe_int pa_nil)))) pa_nil)) (by rfl))
      (pss_cons (ps_for PassesOwn.never rfl (pi_range1 (by rfl) T.range (pa_cons (pe_op op_add pe_int (pe_call (ok__law_take D) (hr.mono (by decide)) (by rfl) D.h__law_take.gl D.h__law_take.fn.kp D.h__law_take.bd .nil pass0 (pa_cons (pv 2) (pa_cons pe_int pa_nil)))) pa_nil)) (pg_name (i := 6) nd rfl (Or.inl rfl)) (pss_one (ps_expr (pe_call (ok__law_tell D) (hr.mono (by decide)) (by rfl) D.h__law_tell.gl D.h__law_tell.fn.kp D.h__law_tell.bd .nil pass0 (pa_cons (pv 4) (pa_cons (pe_call (ok__law_event D) (hr.mono (by decide)) (by rfl) D.h__law_event.gl D.h__law_event.fn.kp D.h__law_event.bd .nil pass0 (pa_cons (pv 2) (pa_cons (pv 3) pa_nil))) pa_nil))))))
      (pss_one (ps_for PassesOwn.never rfl (pi_range1 (by rfl) T.range (pa_cons pe_int pa_nil)) (pg_name (i := 7) nd rfl (Or.inl rfl)) (pss_one (ps_if (pt_not (pt_val (pe_callG (ok__law_looks_right D) hG2 (hr.mono (by decide)) (by rfl) D.h__law_looks_right.gl D.h__law_looks_right.fn.kp D.h__law_looks_right.bd .nil pass0 (pa_cons (pv 2) (pa_cons (pv 4) (pa_cons (pv 5) (pa_cons (pv 3) pa_nil))))))) (pss_one (ps_ret pe_bl)) pss_nil)))))))))
      (pss_one (ps_ret pe_bl)), ?_⟩
    refine ⟨_, rfl, sc, _, rfl, .inl hS, _, _, rfl, _, _, rfl, ?_⟩
    generalize hN : (if (if (2 : Int) < (((ss.map V.int).length : Nat) : Int) then (2 : Int) else (((ss.map V.int).length : Nat) : Int)) > 1 then (if (2 : Int) < (((ss.map V.int).length : Nat) : Int) then (2 : Int) else (((ss.map V.int).length : Nat) : Int)) else 1) = N
    have hN6 : 1 ≤ N ∧ N ≤ 2 := by
      rw [← hN]
      split <;> (try split) <;> omega
    refine ⟨N, rfl, by omega, by omega, for_range (lo := 0) (n := N.toNat) (fun i σ H' => (∃ x1 x2 x3 x4 x5 x6 x7, σ = [some (.ref sc), x1, x2, x3, x4, x5, x6, x7]) ∧ Same H H')
      ⟨⟨none, none, none, none, none, none, none, rfl⟩, Same.refl _⟩ ?_ ?_⟩
    · rintro i σ H0 hi ⟨⟨x1, x2, x3, x4, x5, x6, x7, rfl⟩, sm0⟩
      refine ⟨_, rfl, _, rfl, sc, ss, i, (by rw [Int.zero_add]; rfl), sm0.seq hS, by omega, fun p H1 np s1 hp1 => ?_⟩
      refine ⟨_, rfl, p, 4, rfl, hp1, by decide, by decide, fun P0 la0 D0 k0 H2 nP0 G0 k00 I0 L0 eP0 hp2 s2 => ?_⟩
      have exp : ∀ {Hx : Hp}, Pot Hx p → ∃ o, Hx p = some o := fun ⟨x, y, e, _⟩ => ⟨_, e⟩
      have er0 : H2 D0.r = some (.dK (sd D0.rk)) := (new_iff.mp (ho_iff.mp I0.hr).2).2
      refine ⟨_, rfl, P0, _, rfl, pg_ranks eP0, fun b dx nb ndb nex => ?_⟩
      have sm := same_made (C := D.C_Book) (o := .ins D.C_Book dx []) nb ndb
      refine ⟨b, dx, D0.r, D0.rk, rfl, upd_same, sm _ _ er0, G0.rk, fun fp H3 bk fr sb => ⟨rfl, ?_⟩⟩
      have s23 := sameB_new nb sm sb
      refine fun x dx2 nx ndx nex2 => ?_
      have s34 : Same H3 (upd (upd (upd H3 dx2 (.own x)) x (.ins D.C_Boat dx2 [])) x (.ins D.C_Boat dx2 [("many_seats", .int 2), ("most_weight", .int 300), ("man_weight", .int 80)])) := by
        rw [upd_upd]
        exact same_made (C := D.C_Boat) (o := .ins D.C_Boat dx2 [("many_seats", .int 2), ("most_weight", .int 300), ("man_weight", .int 80)]) nx ndx
      refine ⟨x, dx2, 2, 300, 80, rfl, upd_same, by decide, by decide, by decide, ⟨rfl, ?_⟩⟩
      have eX := upd_same (H := upd (upd H3 dx2 (.own x)) x (.ins D.C_Boat dx2 [])) (a := x) (o := .ins D.C_Boat dx2 [("many_seats", .int 2), ("most_weight", .int 300), ("man_weight", .int 80)])
      generalize upd (upd (upd H3 dx2 (.own x)) x (.ins D.C_Boat dx2 [])) x (.ins D.C_Boat dx2 [("many_seats", .int 2), ("most_weight", .int 300), ("man_weight", .int 80)]) = H4 at *
      have B4 : BtL D.C_Boat H4 x 2 300 80 := ⟨⟨dx2, eX⟩, by decide, by decide, by decide, by decide, by decide, by decide⟩
      refine ⟨_, _, rfl, ?_⟩
      have frN : ∀ a ∈ fp, H2 a = none := fun a ha => by
        rcases fr a ha with h | h
        · rw [h]; exact nb
        · exact sm.free h
      have nP0p : P0 ≠ p := ne_of_pot hp2 eP0
      have hp3 := hp2.mono s23
      obtain ⟨c0, hc0⟩ : ∃ c : PbD, c = ⟨P0, b, la0, D0, k0, [], fp⟩ := ⟨_, rfl⟩
      have sI : Same (Ho [P0] (new H1 H2)) (Ho (p :: c0.m) H3) := fun a o e => by
        obtain ⟨e1, e2⟩ := ho_iff.mp e
        obtain ⟨e3, e4⟩ := new_iff.mp e2
        refine ho_in (fun h => ?_) (s23 _ _ e4)
        rw [hc0] at h
        rcases List.mem_cons.mp h with h | h
        · obtain ⟨o', ho⟩ := exp hp1
          rw [h, ho] at e3
          cases e3
        rcases List.mem_cons.mp h with h | h
        · exact e1 (by rw [h]; exact List.mem_cons_self)
        · rw [frN a h] at e4
          cases e4
      have W3 : Pb D.C_Book D.C_History H3 p c0 := by
        rw [hc0] at sI ⊢
        refine ⟨hp3, s23 _ _ eP0, I0.mono sI, G0, k00, ⟨none, L0.mono sI, nofun⟩, bk, nofun, nofun, Ne.symm nP0p, fun h => ?_, fun h => ?_⟩
        · obtain ⟨o', ho⟩ := exp hp2
          rw [frN p h] at ho
          cases ho
        · rw [frN _ h] at eP0
          cases eP0
      have x0 : x ∉ p :: c0.m := fun h => by
        obtain ⟨o, e⟩ := W3.ex x h
        rw [nx] at e
        cases e
      have W4 := W3.mono s34
      have sB04 : SameB p H0 H4 := (SameB.of s1).trans (s2.trans (SameB.of (s23.trans s34)))
      have s04 : Same H0 H4 := fun b o e => sB04 b o (ne_of_none e np) e
      have sB02 : SameB p H0 H2 := (SameB.of s1).trans s2
      have s02 : Same H0 H2 := fun b o e => sB02 b o (ne_of_none e np) e
      have nw : ∀ a ∈ p :: c0.m, H0 a = none := fun a ha => by
        rw [hc0] at ha
        rcases List.mem_cons.mp ha with h | h
        · rw [h]; exact np
        rcases List.mem_cons.mp h with h | h
        · rw [h]; exact s1.free nP0
        · exact s02.free (frN a h)
      have q3 : c0.P = P0 ∧ c0.b = b ∧ c0.es.length ≤ 0 := by rw [hc0]; exact ⟨rfl, rfl, Nat.le_refl _⟩
      clear hc0 sI
      have hp4 := W4.pot
      refine ⟨_, rfl, p, 14, rfl, hp4, by decide, by decide, fun d H5 d0 d1 hp5 s5 => ⟨2, d, rfl, rfl, 2 + d, rfl, by omega, by omega, ?_⟩⟩
      refine for_range (lo := 0) (n := (2 + d).toNat) (fun t σ H' => (∃ x6 x7, σ = [some (.ref sc), some (.int (0 + (i : Nat))), some (.ref p), some (.ref P0), some (.ref b), some (.ref x), x6, x7]) ∧ ∃ c : PbD, Pb D.C_Book D.C_History H' p c ∧ c.P = P0 ∧ c.b = b ∧ c.es.length ≤ t ∧ (∀ a ∈ p :: c.m, H0 a = none) ∧ x ∉ p :: c.m ∧ BtL D.C_Boat H' x 2 300 80 ∧ Same H0 H')
        ⟨⟨_, _, rfl⟩, c0, W4.look hp5 s5, q3.1, q3.2.1, q3.2.2, nw, x0, B4.B hp4 s5, fun b o e => s5 b o (ne_of_none e np) (s04 b o e)⟩ ?_ ?_
      · rintro t σ H6 ht ⟨⟨x6, x7, rfl⟩, c, W, rfl, rfl, lc, nw, xn, B6, e06⟩
        obtain ⟨lo, hlo, hlk⟩ := W.la
        refine ⟨_, rfl, _, rfl, _, rfl, p, c.P, c.la, c.D, c.kn, lo, rfl, W.pot, W.hP, W.hI.mono ho_le, W.hG, W.k0, hlo.mono ho_le, hlk, fun T la' e H7 kle ⟨ok, sw⟩ hT hla hP2 hp2 s7 => ?_⟩
        have bk7 := W.bk.monoL s7 fun x hx h => by
          rcases List.mem_cons.mp h with h | h
          · exact W.pf (by rw [← h]; exact hx)
          · exact W.Pf (by rw [← List.mem_singleton.mp h]; exact hx)
        refine ⟨c.b, T, c.D.rk, c.es, c.fp, e, rfl, bk7, (new_iff.mp hT).2, ok, fun x hx => Int.le_trans (W.kl x hx) kle, by omega, fun fp' H8 bk8 fr8 s8 => ?_⟩
        obtain ⟨W8, s68, fr0⟩ := W.told s7 hla ok hP2 hp2 kle sw bk8 fr8 s8
        obtain ⟨dxx, eXx⟩ := B6.at_
        refine ⟨⟨_, _, rfl⟩, _, W8, rfl, rfl, by show (c.es ++ [e]).length ≤ _; rw [List.length_append]; exact Nat.succ_le_succ lc, fun a ha => ?_, fun h => ?_, ⟨⟨dxx, s68 _ _ xn eXx⟩, B6.s1, B6.c1, B6.m1, B6.s2, B6.c2, B6.m2⟩, fun a o h => s68 a o (fun m => ?_) (e06 a o h)⟩
        · rcases List.mem_cons.mp ha with h | h
          · exact nw a (by rw [h]; exact List.mem_cons_self)
          rcases List.mem_cons.mp h with h | h
          · exact nw a (by rw [h]; exact List.mem_cons_of_mem _ List.mem_cons_self)
          · rcases fr0 a h with h | h
            · exact nw a h
            · exact e06.free h
        · rcases List.mem_cons.mp h with h | h
          · exact xn (by rw [h]; exact List.mem_cons_self)
          rcases List.mem_cons.mp h with h | h
          · exact xn (by rw [h]; exact List.mem_cons_of_mem _ List.mem_cons_self)
          · rcases fr0 x h with h | h
            · exact xn h
            · rw [eXx] at h
              cases h
        · rw [nw a m] at h
          cases h
      rintro σ H6 ⟨⟨x6, x7, rfl⟩, c, W, rfl, rfl, lc, nw, xn, B6, e06⟩
      refine ⟨3, rfl, by decide, by decide, for_range (lo := 0) (n := 3) (fun t σ H' => (∃ y7, σ = [some (.ref sc), some (.int (0 + (i : Nat))), some (.ref p), some (.ref c.P), some (.ref c.b), some (.ref x), x6, y7]) ∧ Pb D.C_Book D.C_History H' p c ∧ BtL D.C_Boat H' x 2 300 80 ∧ Same H0 H')
        ⟨⟨_, rfl⟩, W, B6, e06⟩ ?_ ?_⟩
      · rintro t σ H7 ht ⟨⟨y7, rfl⟩, W7, B7, e07⟩
        refine ⟨_, rfl, _, rfl, _, rfl, _, rfl, p, x, c, rfl, W7, B7, by omega, fun H8 hp8 s8 => ⟨_, rfl, iteF ⟨⟨_, rfl⟩, W7.look hp8 s8, B7.B W7.pot s8, fun a o h => s8 a o (ne_of_none h np) (e07 a o h)⟩⟩⟩
      · rintro σ H7 ⟨⟨y7, rfl⟩, W7, B7, e07⟩
        exact ⟨⟨_, _, _, _, _, _, _, rfl⟩, sm0.trans e07⟩
    · rintro σ H' ⟨⟨x1, x2, x3, x4, x5, x6, x7, rfl⟩, _⟩
      exact q H'
end
end K80
set_option Elab.async false
set_option linter.all false
set_option maxRecDepth 100000
set_option maxHeartbeats 3200000
namespace K80
open PySem PySem.Spec PyProof.Rows L2 LT NdefX
structure LeftC (K : PySem.W.Frag) (C_Boat C_Stretch C_History C_Book : Addr) : Prop where
  n_Boat : PySem.W.nsIn K mainGlobals "Boat" = some (some (.ref C_Boat))
  n_Stretch : PySem.W.nsIn K mainGlobals "Stretch" = some (some (.ref C_Stretch))
  n_History : PySem.W.nsIn K mainGlobals "History" = some (some (.ref C_History))
  n_Book : PySem.W.nsIn K mainGlobals "Book" = some (some (.ref C_Book))
  pg_Boat : PySem.W.plainGet K C_Boat Str.empty = true
  hd_Boat : PySem.W.hasDictIn K C_Boat = true
  po_Boat : PySem.W.plainOver K C_Boat = true
  sa_Boat : PySem.W.findIn K (.ref C_Boat) "__setattr__" = some (some (.builtin "object.__setattr__"))
  kC_Boat : PySem.W.keepIn K (.ref C_Boat) = true
  mk_Boat : PySem.W.makesIn K C_Boat = true
  f_Boat_many_seats : PySem.W.findIn K (.ref C_Boat) "many_seats" = some none
  f_Boat_most_weight : PySem.W.findIn K (.ref C_Boat) "most_weight" = some none
  f_Boat_man_weight : PySem.W.findIn K (.ref C_Boat) "man_weight" = some none
  pg_Stretch : PySem.W.plainGet K C_Stretch Str.empty = true
  hd_Stretch : PySem.W.hasDictIn K C_Stretch = true
  po_Stretch : PySem.W.plainOver K C_Stretch = true
  sa_Stretch : PySem.W.findIn K (.ref C_Stretch) "__setattr__" = some (some (.builtin "object.__setattr__"))
  kC_Stretch : PySem.W.keepIn K (.ref C_Stretch) = true
  mk_Stretch : PySem.W.makesIn K C_Stretch = true
  f_Stretch_first_day : PySem.W.findIn K (.ref C_Stretch) "first_day" = some none
  f_Stretch_last_day : PySem.W.findIn K (.ref C_Stretch) "last_day" = some none
  pg_History : PySem.W.plainGet K C_History Str.empty = true
  hd_History : PySem.W.hasDictIn K C_History = true
  po_History : PySem.W.plainOver K C_History = true
  sa_History : PySem.W.findIn K (.ref C_History) "__setattr__" = some (some (.builtin "object.__setattr__"))
  kC_History : PySem.W.keepIn K (.ref C_History) = true
  mk_History : PySem.W.makesIn K C_History = true
  f_History_by_day : PySem.W.findIn K (.ref C_History) "by_day" = some none
  pg_Book : PySem.W.plainGet K C_Book Str.empty = true
  hd_Book : PySem.W.hasDictIn K C_Book = true
  po_Book : PySem.W.plainOver K C_Book = true
  sa_Book : PySem.W.findIn K (.ref C_Book) "__setattr__" = some (some (.builtin "object.__setattr__"))
  kC_Book : PySem.W.keepIn K (.ref C_Book) = true
  mk_Book : PySem.W.makesIn K C_Book = true
  f_Book_rank_of : PySem.W.findIn K (.ref C_Book) "rank_of" = some none
  f_Book_moves : PySem.W.findIn K (.ref C_Book) "moves" = some none
  f_Book_landings : PySem.W.findIn K (.ref C_Book) "landings" = some none
  f_Book_latest_known : PySem.W.findIn K (.ref C_Book) "latest_known" = some none
theorem all_mk {l : PySem.W.OpenLaw} {w : World} {K : PySem.W.Frag} {h : Heap} {mg : Str → Option Value} {fa : Addr} (X : K.In h) (G : h.Ns mainGlobals mg) (hfa : mg "law" = some (.ref fa))
    {C_Boat C_Stretch C_History C_Book : Addr} (D : LeftC K C_Boat C_Stretch C_History C_Book)
    {fBoat___init__ : Addr} {ocBoat___init__ : Value} {odBoat___init__ anBoat___init__ : Option Addr} {kVBoat___init__ dcBoat___init__ pmBoat___init__ cdBoat___init__ ctBoat___init__ : Value} {slBoat___init__ : Array (Option Value)} (F_Boat___init__ : LeftM K C_Boat "__init__" "Boat.__init__" s_Boat___init__ fBoat___init__ ocBoat___init__ odBoat___init__ anBoat___init__ kVBoat___init__ dcBoat___init__ pmBoat___init__ cdBoat___init__ ctBoat___init__ slBoat___init__)
    {fBoat_seats : Addr} {ocBoat_seats : Value} {odBoat_seats anBoat_seats : Option Addr} {kVBoat_seats dcBoat_seats pmBoat_seats cdBoat_seats ctBoat_seats : Value} {slBoat_seats : Array (Option Value)} (F_Boat_seats : LeftM K C_Boat "seats" "Boat.seats" s_Boat_seats fBoat_seats ocBoat_seats odBoat_seats anBoat_seats kVBoat_seats dcBoat_seats pmBoat_seats cdBoat_seats ctBoat_seats slBoat_seats)
    {fBoat_carries : Addr} {ocBoat_carries : Value} {odBoat_carries anBoat_carries : Option Addr} {kVBoat_carries dcBoat_carries pmBoat_carries cdBoat_carries ctBoat_carries : Value} {slBoat_carries : Array (Option Value)} (F_Boat_carries : LeftM K C_Boat "carries" "Boat.carries" s_Boat_carries fBoat_carries ocBoat_carries odBoat_carries anBoat_carries kVBoat_carries dcBoat_carries pmBoat_carries cdBoat_carries ctBoat_carries slBoat_carries)
    {fBoat_man : Addr} {ocBoat_man : Value} {odBoat_man anBoat_man : Option Addr} {kVBoat_man dcBoat_man pmBoat_man cdBoat_man ctBoat_man : Value} {slBoat_man : Array (Option Value)} (F_Boat_man : LeftM K C_Boat "man" "Boat.man" s_Boat_man fBoat_man ocBoat_man odBoat_man anBoat_man kVBoat_man dcBoat_man pmBoat_man cdBoat_man ctBoat_man slBoat_man)
    {fStretch_first : Addr} {ocStretch_first : Value} {odStretch_first anStretch_first : Option Addr} {kVStretch_first dcStretch_first pmStretch_first cdStretch_first ctStretch_first : Value} {slStretch_first : Array (Option Value)} (F_Stretch_first : LeftM K C_Stretch "first" "Stretch.first" s_Stretch_first fStretch_first ocStretch_first odStretch_first anStretch_first kVStretch_first dcStretch_first pmStretch_first cdStretch_first ctStretch_first slStretch_first)
    {fStretch_last : Addr} {ocStretch_last : Value} {odStretch_last anStretch_last : Option Addr} {kVStretch_last dcStretch_last pmStretch_last cdStretch_last ctStretch_last : Value} {slStretch_last : Array (Option Value)} (F_Stretch_last : LeftM K C_Stretch "last" "Stretch.last" s_Stretch_last fStretch_last ocStretch_last odStretch_last anStretch_last kVStretch_last dcStretch_last pmStretch_last cdStretch_last ctStretch_last slStretch_last)
    {fStretch_has : Addr} {ocStretch_has : Value} {odStretch_has anStretch_has : Option Addr} {kVStretch_has dcStretch_has pmStretch_has cdStretch_has ctStretch_has : Value} {slStretch_has : Array (Option Value)} (F_Stretch_has : LeftM K C_Stretch "has" "Stretch.has" s_Stretch_has fStretch_has ocStretch_has odStretch_has anStretch_has kVStretch_has dcStretch_has pmStretch_has cdStretch_has ctStretch_has slStretch_has)
    {fStretch___repr__ : Addr} {ocStretch___repr__ : Value} {odStretch___repr__ anStretch___repr__ : Option Addr} {kVStretch___repr__ dcStretch___repr__ pmStretch___repr__ cdStretch___repr__ ctStretch___repr__ : Value} {slStretch___repr__ : Array (Option Value)} (F_Stretch___repr__ : LeftM K C_Stretch "__repr__" "Stretch.__repr__" s_Stretch___repr__ fStretch___repr__ ocStretch___repr__ odStretch___repr__ anStretch___repr__ kVStretch___repr__ dcStretch___repr__ pmStretch___repr__ cdStretch___repr__ ctStretch___repr__ slStretch___repr__)
    {fHistory___init__ : Addr} {ocHistory___init__ : Value} {odHistory___init__ anHistory___init__ : Option Addr} {kVHistory___init__ dcHistory___init__ pmHistory___init__ cdHistory___init__ ctHistory___init__ : Value} {slHistory___init__ : Array (Option Value)} (F_History___init__ : LeftM K C_History "__init__" "History.__init__" s_History___init__ fHistory___init__ ocHistory___init__ odHistory___init__ anHistory___init__ kVHistory___init__ dcHistory___init__ pmHistory___init__ cdHistory___init__ ctHistory___init__ slHistory___init__)
    {fHistory_note : Addr} {ocHistory_note : Value} {odHistory_note anHistory_note : Option Addr} {kVHistory_note dcHistory_note pmHistory_note cdHistory_note ctHistory_note : Value} {slHistory_note : Array (Option Value)} (F_History_note : LeftM K C_History "note" "History.note" s_History_note fHistory_note ocHistory_note odHistory_note anHistory_note kVHistory_note dcHistory_note pmHistory_note cdHistory_note ctHistory_note slHistory_note)
    {fHistory_told_last : Addr} {ocHistory_told_last : Value} {odHistory_told_last anHistory_told_last : Option Addr} {kVHistory_told_last dcHistory_told_last pmHistory_told_last cdHistory_told_last ctHistory_told_last : Value} {slHistory_told_last : Array (Option Value)} (F_History_told_last : LeftM K C_History "told_last" "History.told_last" s_History_told_last fHistory_told_last ocHistory_told_last odHistory_told_last anHistory_told_last kVHistory_told_last dcHistory_told_last pmHistory_told_last cdHistory_told_last ctHistory_told_last slHistory_told_last)
    {fHistory_holding : Addr} {ocHistory_holding : Value} {odHistory_holding anHistory_holding : Option Addr} {kVHistory_holding dcHistory_holding pmHistory_holding cdHistory_holding ctHistory_holding : Value} {slHistory_holding : Array (Option Value)} (F_History_holding : LeftM K C_History "holding" "History.holding" s_History_holding fHistory_holding ocHistory_holding odHistory_holding anHistory_holding kVHistory_holding dcHistory_holding pmHistory_holding cdHistory_holding ctHistory_holding slHistory_holding)
    {fBook___init__ : Addr} {ocBook___init__ : Value} {odBook___init__ anBook___init__ : Option Addr} {kVBook___init__ dcBook___init__ pmBook___init__ cdBook___init__ ctBook___init__ : Value} {slBook___init__ : Array (Option Value)} (F_Book___init__ : LeftM K C_Book "__init__" "Book.__init__" s_Book___init__ fBook___init__ ocBook___init__ odBook___init__ anBook___init__ kVBook___init__ dcBook___init__ pmBook___init__ cdBook___init__ ctBook___init__ slBook___init__)
    {fBook_ranks : Addr} {ocBook_ranks : Value} {odBook_ranks anBook_ranks : Option Addr} {kVBook_ranks dcBook_ranks pmBook_ranks cdBook_ranks ctBook_ranks : Value} {slBook_ranks : Array (Option Value)} (F_Book_ranks : LeftM K C_Book "ranks" "Book.ranks" s_Book_ranks fBook_ranks ocBook_ranks odBook_ranks anBook_ranks kVBook_ranks dcBook_ranks pmBook_ranks cdBook_ranks ctBook_ranks slBook_ranks)
    {fBook_tell : Addr} {ocBook_tell : Value} {odBook_tell anBook_tell : Option Addr} {kVBook_tell dcBook_tell pmBook_tell cdBook_tell ctBook_tell : Value} {slBook_tell : Array (Option Value)} (F_Book_tell : LeftM K C_Book "tell" "Book.tell" s_Book_tell fBook_tell ocBook_tell odBook_tell anBook_tell kVBook_tell dcBook_tell pmBook_tell cdBook_tell ctBook_tell slBook_tell)
    {fBook_land : Addr} {ocBook_land : Value} {odBook_land anBook_land : Option Addr} {kVBook_land dcBook_land pmBook_land cdBook_land ctBook_land : Value} {slBook_land : Array (Option Value)} (F_Book_land : LeftM K C_Book "land" "Book.land" s_Book_land fBook_land ocBook_land odBook_land anBook_land kVBook_land dcBook_land pmBook_land cdBook_land ctBook_land slBook_land)
    {fBook_moves_known : Addr} {ocBook_moves_known : Value} {odBook_moves_known anBook_moves_known : Option Addr} {kVBook_moves_known dcBook_moves_known pmBook_moves_known cdBook_moves_known ctBook_moves_known : Value} {slBook_moves_known : Array (Option Value)} (F_Book_moves_known : LeftM K C_Book "moves_known" "Book.moves_known" s_Book_moves_known fBook_moves_known ocBook_moves_known odBook_moves_known anBook_moves_known kVBook_moves_known dcBook_moves_known pmBook_moves_known cdBook_moves_known ctBook_moves_known slBook_moves_known)
    {fBook_landings_known : Addr} {ocBook_landings_known : Value} {odBook_landings_known anBook_landings_known : Option Addr} {kVBook_landings_known dcBook_landings_known pmBook_landings_known cdBook_landings_known ctBook_landings_known : Value} {slBook_landings_known : Array (Option Value)} (F_Book_landings_known : LeftM K C_Book "landings_known" "Book.landings_known" s_Book_landings_known fBook_landings_known ocBook_landings_known odBook_landings_known anBook_landings_known kVBook_landings_known dcBook_landings_known pmBook_landings_known cdBook_landings_known ctBook_landings_known slBook_landings_known)
    {fStretch___init__ TStretch___init__ : Addr} {ocStretch___init__ : Value} {odStretch___init__ anStretch___init__ : Option Addr} {kVStretch___init__ dcStretch___init__ pmStretch___init__ cdStretch___init__ ctStretch___init__ : Value} {slStretch___init__ : Array (Option Value)} {oTStretch___init__ : Value} {dTStretch___init__ : Option Addr} {nTStretch___init__ : Nat} {sTStretch___init__ : Array (Option Value)} (F_Stretch___init__ : LeftMD K C_Stretch "__init__" "Stretch.__init__" s_Stretch___init__ #[.none] fStretch___init__ TStretch___init__ ocStretch___init__ odStretch___init__ anStretch___init__ kVStretch___init__ dcStretch___init__ pmStretch___init__ cdStretch___init__ ctStretch___init__ slStretch___init__ oTStretch___init__ dTStretch___init__ nTStretch___init__ sTStretch___init__)
    {fBook_where TBook_where : Addr} {ocBook_where : Value} {odBook_where anBook_where : Option Addr} {kVBook_where dcBook_where pmBook_where cdBook_where ctBook_where : Value} {slBook_where : Array (Option Value)} {oTBook_where : Value} {dTBook_where : Option Addr} {nTBook_where : Nat} {sTBook_where : Array (Option Value)} (F_Book_where : LeftMD K C_Book "where" "Book.where" s_Book_where #[.none] fBook_where TBook_where ocBook_where odBook_where anBook_where kVBook_where dcBook_where pmBook_where cdBook_where ctBook_where slBook_where oTBook_where dTBook_where nTBook_where sTBook_where)
    {fBook_landed TBook_landed : Addr} {ocBook_landed : Value} {odBook_landed anBook_landed : Option Addr} {kVBook_landed dcBook_landed pmBook_landed cdBook_landed ctBook_landed : Value} {slBook_landed : Array (Option Value)} {oTBook_landed : Value} {dTBook_landed : Option Addr} {nTBook_landed : Nat} {sTBook_landed : Array (Option Value)} (F_Book_landed : LeftMD K C_Book "landed" "Book.landed" s_Book_landed #[.none] fBook_landed TBook_landed ocBook_landed odBook_landed anBook_landed kVBook_landed dcBook_landed pmBook_landed cdBook_landed ctBook_landed slBook_landed oTBook_landed dTBook_landed nTBook_landed sTBook_landed)
    {ffewest Tfewest : Addr} {ocfewest : Value} {odfewest anfewest : Option Addr} {kVfewest dcfewest pmfewest cdfewest ctfewest : Value} {slfewest : Array (Option Value)} {oTfewest : Value} {dTfewest : Option Addr} {nTfewest : Nat} {sTfewest : Array (Option Value)} {t0fewest : Tok} (F_fewest : LeftD K "fewest" s_fewest #[.int 0 t0fewest, .none] ffewest Tfewest ocfewest odfewest anfewest kVfewest dcfewest pmfewest cdfewest ctfewest slfewest oTfewest dTfewest nTfewest sTfewest)
    {fturns Tturns : Addr} {octurns : Value} {odturns anturns : Option Addr} {kVturns dcturns pmturns cdturns ctturns : Value} {slturns : Array (Option Value)} {oTturns : Value} {dTturns : Option Addr} {nTturns : Nat} {sTturns : Array (Option Value)} (F_turns : LeftD K "turns" s_turns #[.none] fturns Tturns octurns odturns anturns kVturns dcturns pmturns cdturns ctturns slturns oTturns dTturns nTturns sTturns)
    {fcame Tcame : Addr} {occame : Value} {odcame ancame : Option Addr} {kVcame dccame pmcame cdcame ctcame : Value} {slcame : Array (Option Value)} {oTcame : Value} {dTcame : Option Addr} {nTcame : Nat} {sTcame : Array (Option Value)} (F_came : LeftD K "came" s_came #[.none] fcame Tcame occame odcame ancame kVcame dccame pmcame cdcame ctcame slcame oTcame dTcame nTcame sTcame)
    {fwent Twent : Addr} {ocwent : Value} {odwent anwent : Option Addr} {kVwent dcwent pmwent cdwent ctwent : Value} {slwent : Array (Option Value)} {oTwent : Value} {dTwent : Option Addr} {nTwent : Nat} {sTwent : Array (Option Value)} (F_went : LeftD K "went" s_went #[.none] fwent Twent ocwent odwent anwent kVwent dcwent pmwent cdwent ctwent slwent oTwent dTwent nTwent sTwent)
    {fheads Theads : Addr} {ocheads : Value} {odheads anheads : Option Addr} {kVheads dcheads pmheads cdheads ctheads : Value} {slheads : Array (Option Value)} {oTheads : Value} {dTheads : Option Addr} {nTheads : Nat} {sTheads : Array (Option Value)} (F_heads : LeftD K "heads" s_heads #[.none] fheads Theads ocheads odheads anheads kVheads dcheads pmheads cdheads ctheads slheads oTheads dTheads nTheads sTheads)
    {fleft_over Tleft_over : Addr} {ocleft_over : Value} {odleft_over anleft_over : Option Addr} {kVleft_over dcleft_over pmleft_over cdleft_over ctleft_over : Value} {slleft_over : Array (Option Value)} {oTleft_over : Value} {dTleft_over : Option Addr} {nTleft_over : Nat} {sTleft_over : Array (Option Value)} (F_left_over : LeftD K "left_over" s_left_over #[.none] fleft_over Tleft_over ocleft_over odleft_over anleft_over kVleft_over dcleft_over pmleft_over cdleft_over ctleft_over slleft_over oTleft_over dTleft_over nTleft_over sTleft_over)
    {funfed Tunfed : Addr} {ocunfed : Value} {odunfed anunfed : Option Addr} {kVunfed dcunfed pmunfed cdunfed ctunfed : Value} {slunfed : Array (Option Value)} {oTunfed : Value} {dTunfed : Option Addr} {nTunfed : Nat} {sTunfed : Array (Option Value)} (F_unfed : LeftD K "unfed" s_unfed #[.none] funfed Tunfed ocunfed odunfed anunfed kVunfed dcunfed pmunfed cdunfed ctunfed slunfed oTunfed dTunfed nTunfed sTunfed)
    {fweight_wanted Tweight_wanted : Addr} {ocweight_wanted : Value} {odweight_wanted anweight_wanted : Option Addr} {kVweight_wanted dcweight_wanted pmweight_wanted cdweight_wanted ctweight_wanted : Value} {slweight_wanted : Array (Option Value)} {oTweight_wanted : Value} {dTweight_wanted : Option Addr} {nTweight_wanted : Nat} {sTweight_wanted : Array (Option Value)} (F_weight_wanted : LeftD K "weight_wanted" s_weight_wanted #[.none] fweight_wanted Tweight_wanted ocweight_wanted odweight_wanted anweight_wanted kVweight_wanted dcweight_wanted pmweight_wanted cdweight_wanted ctweight_wanted slweight_wanted oTweight_wanted dTweight_wanted nTweight_wanted sTweight_wanted)
    {flanding Tlanding : Addr} {oclanding : Value} {odlanding anlanding : Option Addr} {kVlanding dclanding pmlanding cdlanding ctlanding : Value} {sllanding : Array (Option Value)} {oTlanding : Value} {dTlanding : Option Addr} {nTlanding : Nat} {sTlanding : Array (Option Value)} (F_landing : LeftD K "landing" s_landing #[.none] flanding Tlanding oclanding odlanding anlanding kVlanding dclanding pmlanding cdlanding ctlanding sllanding oTlanding dTlanding nTlanding sTlanding)
    {fis_name : Addr} {ocis_name : Value} {odis_name anis_name : Option Addr} {kVis_name dcis_name pmis_name cdis_name ctis_name : Value} {slis_name : Array (Option Value)} (F_is_name : Left K "is_name" s_is_name fis_name ocis_name odis_name anis_name kVis_name dcis_name pmis_name cdis_name ctis_name slis_name)
    {fis_whole : Addr} {ocis_whole : Value} {odis_whole anis_whole : Option Addr} {kVis_whole dcis_whole pmis_whole cdis_whole ctis_whole : Value} {slis_whole : Array (Option Value)} (F_is_whole : Left K "is_whole" s_is_whole fis_whole ocis_whole odis_whole anis_whole kVis_whole dcis_whole pmis_whole cdis_whole ctis_whole slis_whole)
    {fis_from : Addr} {ocis_from : Value} {odis_from anis_from : Option Addr} {kVis_from dcis_from pmis_from cdis_from ctis_from : Value} {slis_from : Array (Option Value)} (F_is_from : Left K "is_from" s_is_from fis_from ocis_from odis_from anis_from kVis_from dcis_from pmis_from cdis_from ctis_from slis_from)
    {fis_within : Addr} {ocis_within : Value} {odis_within anis_within : Option Addr} {kVis_within dcis_within pmis_within cdis_within ctis_within : Value} {slis_within : Array (Option Value)} (F_is_within : Left K "is_within" s_is_within fis_within ocis_within odis_within anis_within kVis_within dcis_within pmis_within cdis_within ctis_within slis_within)
    {fis_day : Addr} {ocis_day : Value} {odis_day anis_day : Option Addr} {kVis_day dcis_day pmis_day cdis_day ctis_day : Value} {slis_day : Array (Option Value)} (F_is_day : Left K "is_day" s_is_day fis_day ocis_day odis_day anis_day kVis_day dcis_day pmis_day cdis_day ctis_day slis_day)
    {fparts_for : Addr} {ocparts_for : Value} {odparts_for anparts_for : Option Addr} {kVparts_for dcparts_for pmparts_for cdparts_for ctparts_for : Value} {slparts_for : Array (Option Value)} (F_parts_for : Left K "parts_for" s_parts_for fparts_for ocparts_for odparts_for anparts_for kVparts_for dcparts_for pmparts_for cdparts_for ctparts_for slparts_for)
    {froom_of : Addr} {ocroom_of : Value} {odroom_of anroom_of : Option Addr} {kVroom_of dcroom_of pmroom_of cdroom_of ctroom_of : Value} {slroom_of : Array (Option Value)} (F_room_of : Left K "room_of" s_room_of froom_of ocroom_of odroom_of anroom_of kVroom_of dcroom_of pmroom_of cdroom_of ctroom_of slroom_of)
    {fweight_out : Addr} {ocweight_out : Value} {odweight_out anweight_out : Option Addr} {kVweight_out dcweight_out pmweight_out cdweight_out ctweight_out : Value} {slweight_out : Array (Option Value)} (F_weight_out : Left K "weight_out" s_weight_out fweight_out ocweight_out odweight_out anweight_out kVweight_out dcweight_out pmweight_out cdweight_out ctweight_out slweight_out)
    {fcheck_wanted : Addr} {occheck_wanted : Value} {odcheck_wanted ancheck_wanted : Option Addr} {kVcheck_wanted dccheck_wanted pmcheck_wanted cdcheck_wanted ctcheck_wanted : Value} {slcheck_wanted : Array (Option Value)} (F_check_wanted : Left K "check_wanted" s_check_wanted fcheck_wanted occheck_wanted odcheck_wanted ancheck_wanted kVcheck_wanted dccheck_wanted pmcheck_wanted cdcheck_wanted ctcheck_wanted slcheck_wanted)
    {fare_stores : Addr} {ocare_stores : Value} {odare_stores anare_stores : Option Addr} {kVare_stores dcare_stores pmare_stores cdare_stores ctare_stores : Value} {slare_stores : Array (Option Value)} (F_are_stores : Left K "are_stores" s_are_stores fare_stores ocare_stores odare_stores anare_stores kVare_stores dcare_stores pmare_stores cdare_stores ctare_stores slare_stores)
    {fis_place : Addr} {ocis_place : Value} {odis_place anis_place : Option Addr} {kVis_place dcis_place pmis_place cdis_place ctis_place : Value} {slis_place : Array (Option Value)} (F_is_place : Left K "is_place" s_is_place fis_place ocis_place odis_place anis_place kVis_place dcis_place pmis_place cdis_place ctis_place slis_place)
    {fcheck_day : Addr} {occheck_day : Value} {odcheck_day ancheck_day : Option Addr} {kVcheck_day dccheck_day pmcheck_day cdcheck_day ctcheck_day : Value} {slcheck_day : Array (Option Value)} (F_check_day : Left K "check_day" s_check_day fcheck_day occheck_day odcheck_day ancheck_day kVcheck_day dccheck_day pmcheck_day cdcheck_day ctcheck_day slcheck_day)
    {fcheck_known : Addr} {occheck_known : Value} {odcheck_known ancheck_known : Option Addr} {kVcheck_known dccheck_known pmcheck_known cdcheck_known ctcheck_known : Value} {slcheck_known : Array (Option Value)} (F_check_known : Left K "check_known" s_check_known fcheck_known occheck_known odcheck_known ancheck_known kVcheck_known dccheck_known pmcheck_known cdcheck_known ctcheck_known slcheck_known)
    {fcheck_days : Addr} {occheck_days : Value} {odcheck_days ancheck_days : Option Addr} {kVcheck_days dccheck_days pmcheck_days cdcheck_days ctcheck_days : Value} {slcheck_days : Array (Option Value)} (F_check_days : Left K "check_days" s_check_days fcheck_days occheck_days odcheck_days ancheck_days kVcheck_days dccheck_days pmcheck_days cdcheck_days ctcheck_days slcheck_days)
    {fcheck_light : Addr} {occheck_light : Value} {odcheck_light ancheck_light : Option Addr} {kVcheck_light dccheck_light pmcheck_light cdcheck_light ctcheck_light : Value} {slcheck_light : Array (Option Value)} (F_check_light : Left K "check_light" s_check_light fcheck_light occheck_light odcheck_light ancheck_light kVcheck_light dccheck_light pmcheck_light cdcheck_light ctcheck_light slcheck_light)
    {fcheck_place : Addr} {occheck_place : Value} {odcheck_place ancheck_place : Option Addr} {kVcheck_place dccheck_place pmcheck_place cdcheck_place ctcheck_place : Value} {slcheck_place : Array (Option Value)} (F_check_place : Left K "check_place" s_check_place fcheck_place occheck_place odcheck_place ancheck_place kVcheck_place dccheck_place pmcheck_place cdcheck_place ctcheck_place slcheck_place)
    {fcheck_number : Addr} {occheck_number : Value} {odcheck_number ancheck_number : Option Addr} {kVcheck_number dccheck_number pmcheck_number cdcheck_number ctcheck_number : Value} {slcheck_number : Array (Option Value)} (F_check_number : Left K "check_number" s_check_number fcheck_number occheck_number odcheck_number ancheck_number kVcheck_number dccheck_number pmcheck_number cdcheck_number ctcheck_number slcheck_number)
    {fearlier_end : Addr} {ocearlier_end : Value} {odearlier_end anearlier_end : Option Addr} {kVearlier_end dcearlier_end pmearlier_end cdearlier_end ctearlier_end : Value} {slearlier_end : Array (Option Value)} (F_earlier_end : Left K "earlier_end" s_earlier_end fearlier_end ocearlier_end odearlier_end anearlier_end kVearlier_end dcearlier_end pmearlier_end cdearlier_end ctearlier_end slearlier_end)
    {fruns_of : Addr} {ocruns_of : Value} {odruns_of anruns_of : Option Addr} {kVruns_of dcruns_of pmruns_of cdruns_of ctruns_of : Value} {slruns_of : Array (Option Value)} (F_runs_of : Left K "runs_of" s_runs_of fruns_of ocruns_of odruns_of anruns_of kVruns_of dcruns_of pmruns_of cdruns_of ctruns_of slruns_of)
    {fcheck_keeper : Addr} {occheck_keeper : Value} {odcheck_keeper ancheck_keeper : Option Addr} {kVcheck_keeper dccheck_keeper pmcheck_keeper cdcheck_keeper ctcheck_keeper : Value} {slcheck_keeper : Array (Option Value)} (F_check_keeper : Left K "check_keeper" s_check_keeper fcheck_keeper occheck_keeper odcheck_keeper ancheck_keeper kVcheck_keeper dccheck_keeper pmcheck_keeper cdcheck_keeper ctcheck_keeper slcheck_keeper)
    {fcheck_not_early : Addr} {occheck_not_early : Value} {odcheck_not_early ancheck_not_early : Option Addr} {kVcheck_not_early dccheck_not_early pmcheck_not_early cdcheck_not_early ctcheck_not_early : Value} {slcheck_not_early : Array (Option Value)} (F_check_not_early : Left K "check_not_early" s_check_not_early fcheck_not_early occheck_not_early odcheck_not_early ancheck_not_early kVcheck_not_early dccheck_not_early pmcheck_not_early cdcheck_not_early ctcheck_not_early slcheck_not_early)
    {fare_ranks : Addr} {ocare_ranks : Value} {odare_ranks anare_ranks : Option Addr} {kVare_ranks dcare_ranks pmare_ranks cdare_ranks ctare_ranks : Value} {slare_ranks : Array (Option Value)} (F_are_ranks : Left K "are_ranks" s_are_ranks fare_ranks ocare_ranks odare_ranks anare_ranks kVare_ranks dcare_ranks pmare_ranks cdare_ranks ctare_ranks slare_ranks)
    {fnames_at : Addr} {ocnames_at : Value} {odnames_at annames_at : Option Addr} {kVnames_at dcnames_at pmnames_at cdnames_at ctnames_at : Value} {slnames_at : Array (Option Value)} (F_names_at : Left K "names_at" s_names_at fnames_at ocnames_at odnames_at annames_at kVnames_at dcnames_at pmnames_at cdnames_at ctnames_at slnames_at)
    {fnames_before : Addr} {ocnames_before : Value} {odnames_before annames_before : Option Addr} {kVnames_before dcnames_before pmnames_before cdnames_before ctnames_before : Value} {slnames_before : Array (Option Value)} (F_names_before : Left K "names_before" s_names_before fnames_before ocnames_before odnames_before annames_before kVnames_before dcnames_before pmnames_before cdnames_before ctnames_before slnames_before)
    {fput_steps : Addr} {ocput_steps : Value} {odput_steps anput_steps : Option Addr} {kVput_steps dcput_steps pmput_steps cdput_steps ctput_steps : Value} {slput_steps : Array (Option Value)} (F_put_steps : Left K "put_steps" s_put_steps fput_steps ocput_steps odput_steps anput_steps kVput_steps dcput_steps pmput_steps cdput_steps ctput_steps slput_steps)
    {fsupplies : Addr} {ocsupplies : Value} {odsupplies ansupplies : Option Addr} {kVsupplies dcsupplies pmsupplies cdsupplies ctsupplies : Value} {slsupplies : Array (Option Value)} (F_supplies : Left K "supplies" s_supplies fsupplies ocsupplies odsupplies ansupplies kVsupplies dcsupplies pmsupplies cdsupplies ctsupplies slsupplies)
    {fcut_at : Addr} {occut_at : Value} {odcut_at ancut_at : Option Addr} {kVcut_at dccut_at pmcut_at cdcut_at ctcut_at : Value} {slcut_at : Array (Option Value)} (F_cut_at : Left K "cut_at" s_cut_at fcut_at occut_at odcut_at ancut_at kVcut_at dccut_at pmcut_at cdcut_at ctcut_at slcut_at)
    {fleft_on : Addr} {ocleft_on : Value} {odleft_on anleft_on : Option Addr} {kVleft_on dcleft_on pmleft_on cdleft_on ctleft_on : Value} {slleft_on : Array (Option Value)} (F_left_on : Left K "left_on" s_left_on fleft_on ocleft_on odleft_on anleft_on kVleft_on dcleft_on pmleft_on cdleft_on ctleft_on slleft_on)
    {f_law_pot : Addr} {oc_law_pot : Value} {od_law_pot an_law_pot : Option Addr} {kV_law_pot dc_law_pot pm_law_pot cd_law_pot ct_law_pot : Value} {sl_law_pot : Array (Option Value)} (F__law_pot : Left K "_law_pot" s__law_pot f_law_pot oc_law_pot od_law_pot an_law_pot kV_law_pot dc_law_pot pm_law_pot cd_law_pot ct_law_pot sl_law_pot)
    {f_law_take : Addr} {oc_law_take : Value} {od_law_take an_law_take : Option Addr} {kV_law_take dc_law_take pm_law_take cd_law_take ct_law_take : Value} {sl_law_take : Array (Option Value)} (F__law_take : Left K "_law_take" s__law_take f_law_take oc_law_take od_law_take an_law_take kV_law_take dc_law_take pm_law_take cd_law_take ct_law_take sl_law_take)
    {f_law_far : Addr} {oc_law_far : Value} {od_law_far an_law_far : Option Addr} {kV_law_far dc_law_far pm_law_far cd_law_far ct_law_far : Value} {sl_law_far : Array (Option Value)} (F__law_far : Left K "_law_far" s__law_far f_law_far oc_law_far od_law_far an_law_far kV_law_far dc_law_far pm_law_far cd_law_far ct_law_far sl_law_far)
    {f_law_names : Addr} {oc_law_names : Value} {od_law_names an_law_names : Option Addr} {kV_law_names dc_law_names pm_law_names cd_law_names ct_law_names : Value} {sl_law_names : Array (Option Value)} (F__law_names : Left K "_law_names" s__law_names f_law_names oc_law_names od_law_names an_law_names kV_law_names dc_law_names pm_law_names cd_law_names ct_law_names sl_law_names)
    {f_law_plan : Addr} {oc_law_plan : Value} {od_law_plan an_law_plan : Option Addr} {kV_law_plan dc_law_plan pm_law_plan cd_law_plan ct_law_plan : Value} {sl_law_plan : Array (Option Value)} (F__law_plan : Left K "_law_plan" s__law_plan f_law_plan oc_law_plan od_law_plan an_law_plan kV_law_plan dc_law_plan pm_law_plan cd_law_plan ct_law_plan sl_law_plan)
    {f_law_worth : Addr} {oc_law_worth : Value} {od_law_worth an_law_worth : Option Addr} {kV_law_worth dc_law_worth pm_law_worth cd_law_worth ct_law_worth : Value} {sl_law_worth : Array (Option Value)} (F__law_worth : Left K "_law_worth" s__law_worth f_law_worth oc_law_worth od_law_worth an_law_worth kV_law_worth dc_law_worth pm_law_worth cd_law_worth ct_law_worth sl_law_worth)
    {f_law_event : Addr} {oc_law_event : Value} {od_law_event an_law_event : Option Addr} {kV_law_event dc_law_event pm_law_event cd_law_event ct_law_event : Value} {sl_law_event : Array (Option Value)} (F__law_event : Left K "_law_event" s__law_event f_law_event oc_law_event od_law_event an_law_event kV_law_event dc_law_event pm_law_event cd_law_event ct_law_event sl_law_event)
    {f_law_tell : Addr} {oc_law_tell : Value} {od_law_tell an_law_tell : Option Addr} {kV_law_tell dc_law_tell pm_law_tell cd_law_tell ct_law_tell : Value} {sl_law_tell : Array (Option Value)} (F__law_tell : Left K "_law_tell" s__law_tell f_law_tell oc_law_tell od_law_tell an_law_tell kV_law_tell dc_law_tell pm_law_tell cd_law_tell ct_law_tell sl_law_tell)
    {f_law_looks_right : Addr} {oc_law_looks_right : Value} {od_law_looks_right an_law_looks_right : Option Addr} {kV_law_looks_right dc_law_looks_right pm_law_looks_right cd_law_looks_right ct_law_looks_right : Value} {sl_law_looks_right : Array (Option Value)} (F__law_looks_right : Left K "_law_looks_right" s__law_looks_right f_law_looks_right oc_law_looks_right od_law_looks_right an_law_looks_right kV_law_looks_right dc_law_looks_right pm_law_looks_right cd_law_looks_right ct_law_looks_right sl_law_looks_right)
    {flaw : Addr} {oclaw : Value} {odlaw anlaw : Option Addr} {kVlaw dclaw pmlaw cdlaw ctlaw : Value} {sllaw : Array (Option Value)} (F_law : Left K "law" s_law flaw oclaw odlaw anlaw kVlaw dclaw pmlaw cdlaw ctlaw sllaw)
    {t_SMALL_LETTERS : Tok} (y_SMALL_LETTERS : PySem.W.nsIn K mainGlobals "SMALL_LETTERS" = some (some (.str (Str.ofString "abcdefghijklmnopqrstuvwxyz") t_SMALL_LETTERS)))
    {t_LONGEST_NAME : Tok} (y_LONGEST_NAME : PySem.W.nsIn K mainGlobals "LONGEST_NAME" = some (some (.int (8) t_LONGEST_NAME)))
    {t_MOST_THINGS : Tok} (y_MOST_THINGS : PySem.W.nsIn K mainGlobals "MOST_THINGS" = some (some (.int (8) t_MOST_THINGS)))
    {t_ASHORE : Tok} (y_ASHORE : PySem.W.nsIn K mainGlobals "ASHORE" = some (some (.str (Str.ofString "") t_ASHORE)))
    {t_MOST_KEEPERS : Tok} (y_MOST_KEEPERS : PySem.W.nsIn K mainGlobals "MOST_KEEPERS" = some (some (.int (30) t_MOST_KEEPERS)))
    {t_HIGHEST_RANK : Tok} (y_HIGHEST_RANK : PySem.W.nsIn K mainGlobals "HIGHEST_RANK" = some (some (.int (1) t_HIGHEST_RANK)))
    {t_LOWEST_RANK : Tok} (y_LOWEST_RANK : PySem.W.nsIn K mainGlobals "LOWEST_RANK" = some (some (.int (9) t_LOWEST_RANK)))
    (z_isinstance : PySem.W.nsIn K mainGlobals "isinstance" = some none)
    (z_int : PySem.W.nsIn K mainGlobals "int" = some none)
    (z_bool : PySem.W.nsIn K mainGlobals "bool" = some none)
    (z_len : PySem.W.nsIn K mainGlobals "len" = some none)
    (z_abs : PySem.W.nsIn K mainGlobals "abs" = some none)
    (z_max : PySem.W.nsIn K mainGlobals "max" = some none)
    (z_min : PySem.W.nsIn K mainGlobals "min" = some none)
    (z_divmod : PySem.W.nsIn K mainGlobals "divmod" = some none)
    (z_range : PySem.W.nsIn K mainGlobals "range" = some none)
    (z_repr : PySem.W.nsIn K mainGlobals "repr" = some none)
    (z_zip : PySem.W.nsIn K mainGlobals "zip" = some none)
    (z_ValueError : PySem.W.nsIn K mainGlobals "ValueError" = some none)
    (z_all : PySem.W.nsIn K mainGlobals "all" = some none)
    (z_any : PySem.W.nsIn K mainGlobals "any" = some none)
    (z_sum : PySem.W.nsIn K mainGlobals "sum" = some none)
    (z_sorted : PySem.W.nsIn K mainGlobals "sorted" = some none)
    (z_list : PySem.W.nsIn K mainGlobals "list" = some none)
    (z_tuple : PySem.W.nsIn K mainGlobals "tuple" = some none)
    (z_dict : PySem.W.nsIn K mainGlobals "dict" = some none)
    (z_enumerate : PySem.W.nsIn K mainGlobals "enumerate" = some none)
    (z_reversed : PySem.W.nsIn K mainGlobals "reversed" = some none)
    (z_str : PySem.W.nsIn K mainGlobals "str" = some none)
    (z_set : PySem.W.nsIn K mainGlobals "set" = some none)
    : ∃ fd : FuncData, (∀ (s : Shared) (v : Value), BindsTo s fd ⟨[v], []⟩ [("_law_script", v)]) ∧
      ∀ base : Heap, K.In base → base.Ns mainGlobals mg → FnG l.prog w K mg base CX0 15 fa fd ["_law_script"] (spLaw K) := by
  have e := hfa.symm.trans (PySem.W.mg_of X G F_law.ns)
  cases e
  have N : ∀ {x : Str}, PySem.W.nsIn K mainGlobals x = some none → mg x = none := fun z => PySem.W.mg_none_of X G z
  have D_Stretch___init__ : FunD K "__init__" "Stretch.__init__" (defArgs s_Stretch___init__) (defBody s_Stretch___init__) (defScope s_Stretch___init__) [.non] [] _ _ := ⟨⟨ocStretch___init__, odStretch___init__, .ref TStretch___init__, kVStretch___init__, dcStretch___init__, pmStretch___init__, anStretch___init__, cdStretch___init__, ctStretch___init__, slStretch___init__, rfl, F_Stretch___init__.lk, F_Stretch___init__.cd, .inr ⟨nofun, TStretch___init__, _, [.none], nTStretch___init__, rfl, F_Stretch___init__.lT, rfl, (.cons rfl .nil)⟩, .inl rfl⟩, F_Stretch___init__.kp⟩
  have D_Book_where : FunD K "where" "Book.where" (defArgs s_Book_where) (defBody s_Book_where) (defScope s_Book_where) [.non] [] _ _ := ⟨⟨ocBook_where, odBook_where, .ref TBook_where, kVBook_where, dcBook_where, pmBook_where, anBook_where, cdBook_where, ctBook_where, slBook_where, rfl, F_Book_where.lk, F_Book_where.cd, .inr ⟨nofun, TBook_where, _, [.none], nTBook_where, rfl, F_Book_where.lT, rfl, (.cons rfl .nil)⟩, .inl rfl⟩, F_Book_where.kp⟩
  have D_Book_landed : FunD K "landed" "Book.landed" (defArgs s_Book_landed) (defBody s_Book_landed) (defScope s_Book_landed) [.non] [] _ _ := ⟨⟨ocBook_landed, odBook_landed, .ref TBook_landed, kVBook_landed, dcBook_landed, pmBook_landed, anBook_landed, cdBook_landed, ctBook_landed, slBook_landed, rfl, F_Book_landed.lk, F_Book_landed.cd, .inr ⟨nofun, TBook_landed, _, [.none], nTBook_landed, rfl, F_Book_landed.lT, rfl, (.cons rfl .nil)⟩, .inl rfl⟩, F_Book_landed.kp⟩
  have D_fewest : FunD K "fewest" "fewest" (defArgs s_fewest) (defBody s_fewest) (defScope s_fewest) [.int 0, .non] [] _ _ := ⟨⟨ocfewest, odfewest, .ref Tfewest, kVfewest, dcfewest, pmfewest, anfewest, cdfewest, ctfewest, slfewest, rfl, F_fewest.lk, F_fewest.cd, .inr ⟨nofun, Tfewest, _, [.int 0 t0fewest, .none], nTfewest, rfl, F_fewest.lT, rfl, (.cons ⟨_, rfl⟩ (.cons rfl .nil))⟩, .inl rfl⟩, F_fewest.kp⟩
  have D_turns : FunD K "turns" "turns" (defArgs s_turns) (defBody s_turns) (defScope s_turns) [.non] [] _ _ := ⟨⟨octurns, odturns, .ref Tturns, kVturns, dcturns, pmturns, anturns, cdturns, ctturns, slturns, rfl, F_turns.lk, F_turns.cd, .inr ⟨nofun, Tturns, _, [.none], nTturns, rfl, F_turns.lT, rfl, (.cons rfl .nil)⟩, .inl rfl⟩, F_turns.kp⟩
  have D_came : FunD K "came" "came" (defArgs s_came) (defBody s_came) (defScope s_came) [.non] [] _ _ := ⟨⟨occame, odcame, .ref Tcame, kVcame, dccame, pmcame, ancame, cdcame, ctcame, slcame, rfl, F_came.lk, F_came.cd, .inr ⟨nofun, Tcame, _, [.none], nTcame, rfl, F_came.lT, rfl, (.cons rfl .nil)⟩, .inl rfl⟩, F_came.kp⟩
  have D_went : FunD K "went" "went" (defArgs s_went) (defBody s_went) (defScope s_went) [.non] [] _ _ := ⟨⟨ocwent, odwent, .ref Twent, kVwent, dcwent, pmwent, anwent, cdwent, ctwent, slwent, rfl, F_went.lk, F_went.cd, .inr ⟨nofun, Twent, _, [.none], nTwent, rfl, F_went.lT, rfl, (.cons rfl .nil)⟩, .inl rfl⟩, F_went.kp⟩
  have D_heads : FunD K "heads" "heads" (defArgs s_heads) (defBody s_heads) (defScope s_heads) [.non] [] _ _ := ⟨⟨ocheads, odheads, .ref Theads, kVheads, dcheads, pmheads, anheads, cdheads, ctheads, slheads, rfl, F_heads.lk, F_heads.cd, .inr ⟨nofun, Theads, _, [.none], nTheads, rfl, F_heads.lT, rfl, (.cons rfl .nil)⟩, .inl rfl⟩, F_heads.kp⟩
  have D_left_over : FunD K "left_over" "left_over" (defArgs s_left_over) (defBody s_left_over) (defScope s_left_over) [.non] [] _ _ := ⟨⟨ocleft_over, odleft_over, .ref Tleft_over, kVleft_over, dcleft_over, pmleft_over, anleft_over, cdleft_over, ctleft_over, slleft_over, rfl, F_left_over.lk, F_left_over.cd, .inr ⟨nofun, Tleft_over, _, [.none], nTleft_over, rfl, F_left_over.lT, rfl, (.cons rfl .nil)⟩, .inl rfl⟩, F_left_over.kp⟩
  have D_unfed : FunD K "unfed" "unfed" (defArgs s_unfed) (defBody s_unfed) (defScope s_unfed) [.non] [] _ _ := ⟨⟨ocunfed, odunfed, .ref Tunfed, kVunfed, dcunfed, pmunfed, anunfed, cdunfed, ctunfed, slunfed, rfl, F_unfed.lk, F_unfed.cd, .inr ⟨nofun, Tunfed, _, [.none], nTunfed, rfl, F_unfed.lT, rfl, (.cons rfl .nil)⟩, .inl rfl⟩, F_unfed.kp⟩
  have D_weight_wanted : FunD K "weight_wanted" "weight_wanted" (defArgs s_weight_wanted) (defBody s_weight_wanted) (defScope s_weight_wanted) [.non] [] _ _ := ⟨⟨ocweight_wanted, odweight_wanted, .ref Tweight_wanted, kVweight_wanted, dcweight_wanted, pmweight_wanted, anweight_wanted, cdweight_wanted, ctweight_wanted, slweight_wanted, rfl, F_weight_wanted.lk, F_weight_wanted.cd, .inr ⟨nofun, Tweight_wanted, _, [.none], nTweight_wanted, rfl, F_weight_wanted.lT, rfl, (.cons rfl .nil)⟩, .inl rfl⟩, F_weight_wanted.kp⟩
  have D_landing : FunD K "landing" "landing" (defArgs s_landing) (defBody s_landing) (defScope s_landing) [.non] [] _ _ := ⟨⟨oclanding, odlanding, .ref Tlanding, kVlanding, dclanding, pmlanding, anlanding, cdlanding, ctlanding, sllanding, rfl, F_landing.lk, F_landing.cd, .inr ⟨nofun, Tlanding, _, [.none], nTlanding, rfl, F_landing.lT, rfl, (.cons rfl .nil)⟩, .inl rfl⟩, F_landing.kp⟩
  let A : All K l.prog mg := {
    T := ⟨N z_isinstance, N z_int, N z_bool, N z_len, N z_abs, N z_max, N z_min, N z_divmod, N z_range, N z_repr, N z_zip, N z_ValueError, N z_all, N z_any, N z_sum, N z_sorted, N z_list, N z_tuple, N z_dict, N z_enumerate, N z_reversed, N z_str, N z_set⟩
    t_SMALL_LETTERS := t_SMALL_LETTERS
    g_SMALL_LETTERS := PySem.W.mg_of X G y_SMALL_LETTERS
    t_LONGEST_NAME := t_LONGEST_NAME
    g_LONGEST_NAME := PySem.W.mg_of X G y_LONGEST_NAME
    t_MOST_THINGS := t_MOST_THINGS
    g_MOST_THINGS := PySem.W.mg_of X G y_MOST_THINGS
    t_ASHORE := t_ASHORE
    g_ASHORE := PySem.W.mg_of X G y_ASHORE
    t_MOST_KEEPERS := t_MOST_KEEPERS
    g_MOST_KEEPERS := PySem.W.mg_of X G y_MOST_KEEPERS
    t_HIGHEST_RANK := t_HIGHEST_RANK
    g_HIGHEST_RANK := PySem.W.mg_of X G y_HIGHEST_RANK
    t_LOWEST_RANK := t_LOWEST_RANK
    g_LOWEST_RANK := PySem.W.mg_of X G y_LOWEST_RANK
    C_Boat := C_Boat
    Z_Boat := ⟨⟨D.pg_Boat, D.hd_Boat, D.po_Boat, D.sa_Boat⟩, PySem.W.mg_of X G D.n_Boat, D.kC_Boat⟩
    n_Boat_many_seats := D.f_Boat_many_seats
    n_Boat_most_weight := D.f_Boat_most_weight
    n_Boat_man_weight := D.f_Boat_man_weight
    C_Stretch := C_Stretch
    Z_Stretch := ⟨⟨D.pg_Stretch, D.hd_Stretch, D.po_Stretch, D.sa_Stretch⟩, PySem.W.mg_of X G D.n_Stretch, D.kC_Stretch⟩
    n_Stretch_first_day := D.f_Stretch_first_day
    n_Stretch_last_day := D.f_Stretch_last_day
    C_History := C_History
    Z_History := ⟨⟨D.pg_History, D.hd_History, D.po_History, D.sa_History⟩, PySem.W.mg_of X G D.n_History, D.kC_History⟩
    n_History_by_day := D.f_History_by_day
    C_Book := C_Book
    Z_Book := ⟨⟨D.pg_Book, D.hd_Book, D.po_Book, D.sa_Book⟩, PySem.W.mg_of X G D.n_Book, D.kC_Book⟩
    n_Book_rank_of := D.f_Book_rank_of
    n_Book_moves := D.f_Book_moves
    n_Book_landings := D.f_Book_landings
    n_Book_latest_known := D.f_Book_latest_known
    f_Boat___init__ := fBoat___init__
    d_Boat___init__ := _
    h_Boat___init__ := ⟨F_Boat___init__.fn, F_Boat___init__.fn.binds fun _ _ _ _ _ _ us hl => match us, hl with | [_, _, _, _], _ => rfl, F_Boat___init__.me⟩
    M_Boat := ⟨D.mk_Boat, F_Boat___init__.at_, F_Boat___init__.isf, D.kC_Boat⟩
    f_Boat_seats := fBoat_seats
    d_Boat_seats := _
    h_Boat_seats := ⟨F_Boat_seats.fn, F_Boat_seats.fn.binds fun _ _ _ _ _ _ us hl => match us, hl with | [_], _ => rfl, F_Boat_seats.me⟩
    f_Boat_carries := fBoat_carries
    d_Boat_carries := _
    h_Boat_carries := ⟨F_Boat_carries.fn, F_Boat_carries.fn.binds fun _ _ _ _ _ _ us hl => match us, hl with | [_], _ => rfl, F_Boat_carries.me⟩
    f_Boat_man := fBoat_man
    d_Boat_man := _
    h_Boat_man := ⟨F_Boat_man.fn, F_Boat_man.fn.binds fun _ _ _ _ _ _ us hl => match us, hl with | [_], _ => rfl, F_Boat_man.me⟩
    f_Stretch_first := fStretch_first
    d_Stretch_first := _
    h_Stretch_first := ⟨F_Stretch_first.fn, F_Stretch_first.fn.binds fun _ _ _ _ _ _ us hl => match us, hl with | [_], _ => rfl, F_Stretch_first.me⟩
    f_Stretch_last := fStretch_last
    d_Stretch_last := _
    h_Stretch_last := ⟨F_Stretch_last.fn, F_Stretch_last.fn.binds fun _ _ _ _ _ _ us hl => match us, hl with | [_], _ => rfl, F_Stretch_last.me⟩
    f_Stretch_has := fStretch_has
    d_Stretch_has := _
    h_Stretch_has := ⟨F_Stretch_has.fn, F_Stretch_has.fn.binds fun _ _ _ _ _ _ us hl => match us, hl with | [_, _], _ => rfl, F_Stretch_has.me⟩
    f_Stretch___repr__ := fStretch___repr__
    d_Stretch___repr__ := _
    h_Stretch___repr__ := ⟨F_Stretch___repr__.fn, F_Stretch___repr__.fn.binds fun _ _ _ _ _ _ us hl => match us, hl with | [_], _ => rfl, F_Stretch___repr__.me⟩
    f_History___init__ := fHistory___init__
    d_History___init__ := _
    h_History___init__ := ⟨F_History___init__.fn, F_History___init__.fn.binds fun _ _ _ _ _ _ us hl => match us, hl with | [_], _ => rfl, F_History___init__.me⟩
    M_History := ⟨D.mk_History, F_History___init__.at_, F_History___init__.isf, D.kC_History⟩
    f_History_note := fHistory_note
    d_History_note := _
    h_History_note := ⟨F_History_note.fn, F_History_note.fn.binds fun _ _ _ _ _ _ us hl => match us, hl with | [_, _, _, _], _ => rfl, F_History_note.me⟩
    f_History_told_last := fHistory_told_last
    d_History_told_last := _
    h_History_told_last := ⟨F_History_told_last.fn, F_History_told_last.fn.binds fun _ _ _ _ _ _ us hl => match us, hl with | [_, _, _], _ => rfl, F_History_told_last.me⟩
    f_History_holding := fHistory_holding
    d_History_holding := _
    h_History_holding := ⟨F_History_holding.fn, F_History_holding.fn.binds fun _ _ _ _ _ _ us hl => match us, hl with | [_, _], _ => rfl, F_History_holding.me⟩
    f_Book___init__ := fBook___init__
    d_Book___init__ := _
    h_Book___init__ := ⟨F_Book___init__.fn, F_Book___init__.fn.binds fun _ _ _ _ _ _ us hl => match us, hl with | [_, _], _ => rfl, F_Book___init__.me⟩
    M_Book := ⟨D.mk_Book, F_Book___init__.at_, F_Book___init__.isf, D.kC_Book⟩
    f_Book_ranks := fBook_ranks
    d_Book_ranks := _
    h_Book_ranks := ⟨F_Book_ranks.fn, F_Book_ranks.fn.binds fun _ _ _ _ _ _ us hl => match us, hl with | [_], _ => rfl, F_Book_ranks.me⟩
    f_Book_tell := fBook_tell
    d_Book_tell := _
    h_Book_tell := ⟨F_Book_tell.fn, F_Book_tell.fn.binds fun _ _ _ _ _ _ us hl => match us, hl with | [_, _, _, _, _], _ => rfl, F_Book_tell.me⟩
    f_Book_land := fBook_land
    d_Book_land := _
    h_Book_land := ⟨F_Book_land.fn, F_Book_land.fn.binds fun _ _ _ _ _ _ us hl => match us, hl with | [_, _, _, _, _], _ => rfl, F_Book_land.me⟩
    f_Book_moves_known := fBook_moves_known
    d_Book_moves_known := _
    h_Book_moves_known := ⟨F_Book_moves_known.fn, F_Book_moves_known.fn.binds fun _ _ _ _ _ _ us hl => match us, hl with | [_, _, _], _ => rfl, F_Book_moves_known.me⟩
    f_Book_landings_known := fBook_landings_known
    d_Book_landings_known := _
    h_Book_landings_known := ⟨F_Book_landings_known.fn, F_Book_landings_known.fn.binds fun _ _ _ _ _ _ us hl => match us, hl with | [_, _, _], _ => rfl, F_Book_landings_known.me⟩
    f_Stretch___init__ := fStretch___init__
    d_Stretch___init__ := _
    q_Stretch___init__ := D_Stretch___init__
    me_Stretch___init__ := ⟨F_Stretch___init__.at_, F_Stretch___init__.isf, F_Stretch___init__.kp⟩
    M_Stretch := ⟨D.mk_Stretch, F_Stretch___init__.at_, F_Stretch___init__.isf, D.kC_Stretch⟩
    f_Book_where := fBook_where
    d_Book_where := _
    q_Book_where := D_Book_where
    me_Book_where := ⟨F_Book_where.at_, F_Book_where.isf, F_Book_where.kp⟩
    f_Book_landed := fBook_landed
    d_Book_landed := _
    q_Book_landed := D_Book_landed
    me_Book_landed := ⟨F_Book_landed.at_, F_Book_landed.isf, F_Book_landed.kp⟩
    f_is_name := fis_name
    d_is_name := _
    h_is_name := ⟨F_is_name.fn, F_is_name.fn.binds fun _ _ _ _ _ _ us hl => match us, hl with | [_], _ => rfl, PySem.W.mg_of X G F_is_name.ns⟩
    f_is_whole := fis_whole
    d_is_whole := _
    h_is_whole := ⟨F_is_whole.fn, F_is_whole.fn.binds fun _ _ _ _ _ _ us hl => match us, hl with | [_], _ => rfl, PySem.W.mg_of X G F_is_whole.ns⟩
    f_is_from := fis_from
    d_is_from := _
    h_is_from := ⟨F_is_from.fn, F_is_from.fn.binds fun _ _ _ _ _ _ us hl => match us, hl with | [_, _], _ => rfl, PySem.W.mg_of X G F_is_from.ns⟩
    f_is_within := fis_within
    d_is_within := _
    h_is_within := ⟨F_is_within.fn, F_is_within.fn.binds fun _ _ _ _ _ _ us hl => match us, hl with | [_, _, _], _ => rfl, PySem.W.mg_of X G F_is_within.ns⟩
    f_is_day := fis_day
    d_is_day := _
    h_is_day := ⟨F_is_day.fn, F_is_day.fn.binds fun _ _ _ _ _ _ us hl => match us, hl with | [_], _ => rfl, PySem.W.mg_of X G F_is_day.ns⟩
    f_parts_for := fparts_for
    d_parts_for := _
    h_parts_for := ⟨F_parts_for.fn, F_parts_for.fn.binds fun _ _ _ _ _ _ us hl => match us, hl with | [_, _], _ => rfl, PySem.W.mg_of X G F_parts_for.ns⟩
    f_room_of := froom_of
    d_room_of := _
    h_room_of := ⟨F_room_of.fn, F_room_of.fn.binds fun _ _ _ _ _ _ us hl => match us, hl with | [_], _ => rfl, PySem.W.mg_of X G F_room_of.ns⟩
    f_weight_out := fweight_out
    d_weight_out := _
    h_weight_out := ⟨F_weight_out.fn, F_weight_out.fn.binds fun _ _ _ _ _ _ us hl => match us, hl with | [_, _, _], _ => rfl, PySem.W.mg_of X G F_weight_out.ns⟩
    f_check_wanted := fcheck_wanted
    d_check_wanted := _
    h_check_wanted := ⟨F_check_wanted.fn, F_check_wanted.fn.binds fun _ _ _ _ _ _ us hl => match us, hl with | [_, _, _], _ => rfl, PySem.W.mg_of X G F_check_wanted.ns⟩
    f_are_stores := fare_stores
    d_are_stores := _
    h_are_stores := ⟨F_are_stores.fn, F_are_stores.fn.binds fun _ _ _ _ _ _ us hl => match us, hl with | [_], _ => rfl, PySem.W.mg_of X G F_are_stores.ns⟩
    f_is_place := fis_place
    d_is_place := _
    h_is_place := ⟨F_is_place.fn, F_is_place.fn.binds fun _ _ _ _ _ _ us hl => match us, hl with | [_], _ => rfl, PySem.W.mg_of X G F_is_place.ns⟩
    f_check_day := fcheck_day
    d_check_day := _
    h_check_day := ⟨F_check_day.fn, F_check_day.fn.binds fun _ _ _ _ _ _ us hl => match us, hl with | [_], _ => rfl, PySem.W.mg_of X G F_check_day.ns⟩
    f_check_known := fcheck_known
    d_check_known := _
    h_check_known := ⟨F_check_known.fn, F_check_known.fn.binds fun _ _ _ _ _ _ us hl => match us, hl with | [_], _ => rfl, PySem.W.mg_of X G F_check_known.ns⟩
    f_check_days := fcheck_days
    d_check_days := _
    h_check_days := ⟨F_check_days.fn, F_check_days.fn.binds fun _ _ _ _ _ _ us hl => match us, hl with | [_, _], _ => rfl, PySem.W.mg_of X G F_check_days.ns⟩
    f_check_light := fcheck_light
    d_check_light := _
    h_check_light := ⟨F_check_light.fn, F_check_light.fn.binds fun _ _ _ _ _ _ us hl => match us, hl with | [_], _ => rfl, PySem.W.mg_of X G F_check_light.ns⟩
    f_check_place := fcheck_place
    d_check_place := _
    h_check_place := ⟨F_check_place.fn, F_check_place.fn.binds fun _ _ _ _ _ _ us hl => match us, hl with | [_], _ => rfl, PySem.W.mg_of X G F_check_place.ns⟩
    f_check_number := fcheck_number
    d_check_number := _
    h_check_number := ⟨F_check_number.fn, F_check_number.fn.binds fun _ _ _ _ _ _ us hl => match us, hl with | [_, _], _ => rfl, PySem.W.mg_of X G F_check_number.ns⟩
    f_earlier_end := fearlier_end
    d_earlier_end := _
    h_earlier_end := ⟨F_earlier_end.fn, F_earlier_end.fn.binds fun _ _ _ _ _ _ us hl => match us, hl with | [_, _], _ => rfl, PySem.W.mg_of X G F_earlier_end.ns⟩
    f_runs_of := fruns_of
    d_runs_of := _
    h_runs_of := ⟨F_runs_of.fn, F_runs_of.fn.binds fun _ _ _ _ _ _ us hl => match us, hl with | [_, _], _ => rfl, PySem.W.mg_of X G F_runs_of.ns⟩
    f_check_keeper := fcheck_keeper
    d_check_keeper := _
    h_check_keeper := ⟨F_check_keeper.fn, F_check_keeper.fn.binds fun _ _ _ _ _ _ us hl => match us, hl with | [_, _], _ => rfl, PySem.W.mg_of X G F_check_keeper.ns⟩
    f_check_not_early := fcheck_not_early
    d_check_not_early := _
    h_check_not_early := ⟨F_check_not_early.fn, F_check_not_early.fn.binds fun _ _ _ _ _ _ us hl => match us, hl with | [_, _], _ => rfl, PySem.W.mg_of X G F_check_not_early.ns⟩
    f_are_ranks := fare_ranks
    d_are_ranks := _
    h_are_ranks := ⟨F_are_ranks.fn, F_are_ranks.fn.binds fun _ _ _ _ _ _ us hl => match us, hl with | [_], _ => rfl, PySem.W.mg_of X G F_are_ranks.ns⟩
    f_names_at := fnames_at
    d_names_at := _
    h_names_at := ⟨F_names_at.fn, F_names_at.fn.binds fun _ _ _ _ _ _ us hl => match us, hl with | [_, _, _, _], _ => rfl, PySem.W.mg_of X G F_names_at.ns⟩
    f_names_before := fnames_before
    d_names_before := _
    h_names_before := ⟨F_names_before.fn, F_names_before.fn.binds fun _ _ _ _ _ _ us hl => match us, hl with | [_, _, _, _], _ => rfl, PySem.W.mg_of X G F_names_before.ns⟩
    f_put_steps := fput_steps
    d_put_steps := _
    h_put_steps := ⟨F_put_steps.fn, F_put_steps.fn.binds fun _ _ _ _ _ _ us hl => match us, hl with | [_, _], _ => rfl, PySem.W.mg_of X G F_put_steps.ns⟩
    f_supplies := fsupplies
    d_supplies := _
    h_supplies := ⟨F_supplies.fn, F_supplies.fn.binds fun _ _ _ _ _ _ us hl => match us, hl with | [_, _, _, _], _ => rfl, PySem.W.mg_of X G F_supplies.ns⟩
    f_cut_at := fcut_at
    d_cut_at := _
    h_cut_at := ⟨F_cut_at.fn, F_cut_at.fn.binds fun _ _ _ _ _ _ us hl => match us, hl with | [_, _], _ => rfl, PySem.W.mg_of X G F_cut_at.ns⟩
    f_left_on := fleft_on
    d_left_on := _
    h_left_on := ⟨F_left_on.fn, F_left_on.fn.binds fun _ _ _ _ _ _ us hl => match us, hl with | [_, _], _ => rfl, PySem.W.mg_of X G F_left_on.ns⟩
    f__law_pot := f_law_pot
    d__law_pot := _
    h__law_pot := ⟨F__law_pot.fn, F__law_pot.fn.binds fun _ _ _ _ _ _ us hl => match us, hl with | [_, _], _ => rfl, PySem.W.mg_of X G F__law_pot.ns⟩
    f__law_take := f_law_take
    d__law_take := _
    h__law_take := ⟨F__law_take.fn, F__law_take.fn.binds fun _ _ _ _ _ _ us hl => match us, hl with | [_, _], _ => rfl, PySem.W.mg_of X G F__law_take.ns⟩
    f__law_far := f_law_far
    d__law_far := _
    h__law_far := ⟨F__law_far.fn, F__law_far.fn.binds fun _ _ _ _ _ _ us hl => match us, hl with | [_], _ => rfl, PySem.W.mg_of X G F__law_far.ns⟩
    f__law_names := f_law_names
    d__law_names := _
    h__law_names := ⟨F__law_names.fn, F__law_names.fn.binds fun _ _ _ _ _ _ us hl => match us, hl with | [_, _], _ => rfl, PySem.W.mg_of X G F__law_names.ns⟩
    f__law_plan := f_law_plan
    d__law_plan := _
    h__law_plan := ⟨F__law_plan.fn, F__law_plan.fn.binds fun _ _ _ _ _ _ us hl => match us, hl with | [_, _], _ => rfl, PySem.W.mg_of X G F__law_plan.ns⟩
    f__law_worth := f_law_worth
    d__law_worth := _
    h__law_worth := ⟨F__law_worth.fn, F__law_worth.fn.binds fun _ _ _ _ _ _ us hl => match us, hl with | [_, _, _], _ => rfl, PySem.W.mg_of X G F__law_worth.ns⟩
    f__law_event := f_law_event
    d__law_event := _
    h__law_event := ⟨F__law_event.fn, F__law_event.fn.binds fun _ _ _ _ _ _ us hl => match us, hl with | [_, _], _ => rfl, PySem.W.mg_of X G F__law_event.ns⟩
    f__law_tell := f_law_tell
    d__law_tell := _
    h__law_tell := ⟨F__law_tell.fn, F__law_tell.fn.binds fun _ _ _ _ _ _ us hl => match us, hl with | [_, _], _ => rfl, PySem.W.mg_of X G F__law_tell.ns⟩
    f__law_looks_right := f_law_looks_right
    d__law_looks_right := _
    h__law_looks_right := ⟨F__law_looks_right.fn, F__law_looks_right.fn.binds fun _ _ _ _ _ _ us hl => match us, hl with | [_, _, _, _], _ => rfl, PySem.W.mg_of X G F__law_looks_right.ns⟩
    f_fewest := ffewest
    d_fewest := _
    q_fewest := D_fewest
    gl_fewest := PySem.W.mg_of X G F_fewest.ns
    kp_fewest := F_fewest.kp
    f_turns := fturns
    d_turns := _
    q_turns := D_turns
    gl_turns := PySem.W.mg_of X G F_turns.ns
    kp_turns := F_turns.kp
    f_came := fcame
    d_came := _
    q_came := D_came
    gl_came := PySem.W.mg_of X G F_came.ns
    kp_came := F_came.kp
    f_went := fwent
    d_went := _
    q_went := D_went
    gl_went := PySem.W.mg_of X G F_went.ns
    kp_went := F_went.kp
    f_heads := fheads
    d_heads := _
    q_heads := D_heads
    gl_heads := PySem.W.mg_of X G F_heads.ns
    kp_heads := F_heads.kp
    f_left_over := fleft_over
    d_left_over := _
    q_left_over := D_left_over
    gl_left_over := PySem.W.mg_of X G F_left_over.ns
    kp_left_over := F_left_over.kp
    f_unfed := funfed
    d_unfed := _
    q_unfed := D_unfed
    gl_unfed := PySem.W.mg_of X G F_unfed.ns
    kp_unfed := F_unfed.kp
    f_weight_wanted := fweight_wanted
    d_weight_wanted := _
    q_weight_wanted := D_weight_wanted
    gl_weight_wanted := PySem.W.mg_of X G F_weight_wanted.ns
    kp_weight_wanted := F_weight_wanted.kp
    f_landing := flanding
    d_landing := _
    q_landing := D_landing
    gl_landing := PySem.W.mg_of X G F_landing.ns
    kp_landing := F_landing.kp }
  exact ⟨_, fun s v => .of_eq rfl, fun base _ _ => ok_law A F_law.fn⟩
end K80
open PySem PySem.W PyProof.Rows
set_option maxHeartbeats 0 in
theorem PySem.Challenge.cw_lightturns_k80_stores_by_names_holds : PySem.Challenge.rw_lightturns_k80_stores_by_names.Holds := by
  w_on; o_law; k_head; (case hw => w_witness2)
  k_fill
  refine LT.end_of (l := PySem.Challenge.rw_lightturns_k80_stores_by_names) (n := 63) (k := 15) (x := "_law_script") (CX := fun _ => L2.CX0) (sp := fun w => K80.spLaw _) rfl (by decide) rfl ⟨rfl, by decide, by decide⟩ (fun w h Y => PySem.W.km_in_of Y) ?F (fun _ _ a ns hl hb _ hS => ⟨a, ns, rfl, hS, hl, fun _ => rfl⟩) (fun _ _ _ _ _ h => h)
  case F =>
    intro w mg fa h KX G hmg
    refine' K80.all_mk (l := PySem.Challenge.rw_lightturns_k80_stores_by_names) KX G hmg ⟨?d_n_Boat, ?d_n_Stretch, ?d_n_History, ?d_n_Book, ?d_pg_Boat, ?d_hd_Boat, ?d_po_Boat, ?d_sa_Boat, ?d_kC_Boat, ?d_mk_Boat, ?d_f_Boat_many_seats, ?d_f_Boat_most_weight, ?d_f_Boat_man_weight, ?d_pg_Stretch, ?d_hd_Stretch, ?d_po_Stretch, ?d_sa_Stretch, ?d_kC_Stretch, ?d_mk_Stretch, ?d_f_Stretch_first_day, ?d_f_Stretch_last_day, ?d_pg_History, ?d_hd_History, ?d_po_History, ?d_sa_History, ?d_kC_History, ?d_mk_History, ?d_f_History_by_day, ?d_pg_Book, ?d_hd_Book, ?d_po_Book, ?d_sa_Book, ?d_kC_Book, ?d_mk_Book, ?d_f_Book_rank_of, ?d_f_Book_moves, ?d_f_Book_landings, ?d_f_Book_latest_known⟩ ⟨?m_Boat___init___at, ?m_Boat___init___lk, ?m_Boat___init___cd, ?m_Boat___init___kp, ?m_Boat___init___isf⟩ ⟨?m_Boat_seats_at, ?m_Boat_seats_lk, ?m_Boat_seats_cd, ?m_Boat_seats_kp, ?m_Boat_seats_isf⟩ ⟨?m_Boat_carries_at, ?m_Boat_carries_lk, ?m_Boat_carries_cd, ?m_Boat_carries_kp, ?m_Boat_carries_isf⟩ ⟨?m_Boat_man_at, ?m_Boat_man_lk, ?m_Boat_man_cd, ?m_Boat_man_kp, ?m_Boat_man_isf⟩ ⟨?m_Stretch_first_at, ?m_Stretch_first_lk, ?m_Stretch_first_cd, ?m_Stretch_first_kp, ?m_Stretch_first_isf⟩ ⟨?m_Stretch_last_at, ?m_Stretch_last_lk, ?m_Stretch_last_cd, ?m_Stretch_last_kp, ?m_Stretch_last_isf⟩ ⟨?m_Stretch_has_at, ?m_Stretch_has_lk, ?m_Stretch_has_cd, ?m_Stretch_has_kp, ?m_Stretch_has_isf⟩ ⟨?m_Stretch___repr___at, ?m_Stretch___repr___lk, ?m_Stretch___repr___cd, ?m_Stretch___repr___kp, ?m_Stretch___repr___isf⟩ ⟨?m_History___init___at, ?m_History___init___lk, ?m_History___init___cd, ?m_History___init___kp, ?m_History___init___isf⟩ ⟨?m_History_note_at, ?m_History_note_lk, ?m_History_note_cd, ?m_History_note_kp, ?m_History_note_isf⟩ ⟨?m_History_told_last_at, ?m_History_told_last_lk, ?m_History_told_last_cd, ?m_History_told_last_kp, ?m_History_told_last_isf⟩ ⟨?m_History_holding_at, ?m_History_holding_lk, ?m_History_holding_cd, ?m_History_holding_kp, ?m_History_holding_isf⟩ ⟨?m_Book___init___at, ?m_Book___init___lk, ?m_Book___init___cd, ?m_Book___init___kp, ?m_Book___init___isf⟩ ⟨?m_Book_ranks_at, ?m_Book_ranks_lk, ?m_Book_ranks_cd, ?m_Book_ranks_kp, ?m_Book_ranks_isf⟩ ⟨?m_Book_tell_at, ?m_Book_tell_lk, ?m_Book_tell_cd, ?m_Book_tell_kp, ?m_Book_tell_isf⟩ ⟨?m_Book_land_at, ?m_Book_land_lk, ?m_Book_land_cd, ?m_Book_land_kp, ?m_Book_land_isf⟩ ⟨?m_Book_moves_known_at, ?m_Book_moves_known_lk, ?m_Book_moves_known_cd, ?m_Book_moves_known_kp, ?m_Book_moves_known_isf⟩ ⟨?m_Book_landings_known_at, ?m_Book_landings_known_lk, ?m_Book_landings_known_cd, ?m_Book_landings_known_kp, ?m_Book_landings_known_isf⟩ ⟨?m_Stretch___init___at, ?m_Stretch___init___lk, ?m_Stretch___init___cd, ?m_Stretch___init___kp, ?m_Stretch___init___isf, ?m_Stretch___init___lT⟩ ⟨?m_Book_where_at, ?m_Book_where_lk, ?m_Book_where_cd, ?m_Book_where_kp, ?m_Book_where_isf, ?m_Book_where_lT⟩ ⟨?m_Book_landed_at, ?m_Book_landed_lk, ?m_Book_landed_cd, ?m_Book_landed_kp, ?m_Book_landed_isf, ?m_Book_landed_lT⟩ ⟨?g_fewest_ns, ?g_fewest_lk, ?g_fewest_cd, ?g_fewest_kp, ?g_fewest_lT⟩ ⟨?g_turns_ns, ?g_turns_lk, ?g_turns_cd, ?g_turns_kp, ?g_turns_lT⟩ ⟨?g_came_ns, ?g_came_lk, ?g_came_cd, ?g_came_kp, ?g_came_lT⟩ ⟨?g_went_ns, ?g_went_lk, ?g_went_cd, ?g_went_kp, ?g_went_lT⟩ ⟨?g_heads_ns, ?g_heads_lk, ?g_heads_cd, ?g_heads_kp, ?g_heads_lT⟩ ⟨?g_left_over_ns, ?g_left_over_lk, ?g_left_over_cd, ?g_left_over_kp, ?g_left_over_lT⟩ ⟨?g_unfed_ns, ?g_unfed_lk, ?g_unfed_cd, ?g_unfed_kp, ?g_unfed_lT⟩ ⟨?g_weight_wanted_ns, ?g_weight_wanted_lk, ?g_weight_wanted_cd, ?g_weight_wanted_kp, ?g_weight_wanted_lT⟩ ⟨?g_landing_ns, ?g_landing_lk, ?g_landing_cd, ?g_landing_kp, ?g_landing_lT⟩ ⟨?f_is_name_ns, ?f_is_name_lk, ?f_is_name_cd, ?f_is_name_kp⟩ ⟨?f_is_whole_ns, ?f_is_whole_lk, ?f_is_whole_cd, ?f_is_whole_kp⟩ ⟨?f_is_from_ns, ?f_is_from_lk, ?f_is_from_cd, ?f_is_from_kp⟩ ⟨?f_is_within_ns, ?f_is_within_lk, ?f_is_within_cd, ?f_is_within_kp⟩ ⟨?f_is_day_ns, ?f_is_day_lk, ?f_is_day_cd, ?f_is_day_kp⟩ ⟨?f_parts_for_ns, ?f_parts_for_lk, ?f_parts_for_cd, ?f_parts_for_kp⟩ ⟨?f_room_of_ns, ?f_room_of_lk, ?f_room_of_cd, ?f_room_of_kp⟩ ⟨?f_weight_out_ns, ?f_weight_out_lk, ?f_weight_out_cd, ?f_weight_out_kp⟩ ⟨?f_check_wanted_ns, ?f_check_wanted_lk, ?f_check_wanted_cd, ?f_check_wanted_kp⟩ ⟨?f_are_stores_ns, ?f_are_stores_lk, ?f_are_stores_cd, ?f_are_stores_kp⟩ ⟨?f_is_place_ns, ?f_is_place_lk, ?f_is_place_cd, ?f_is_place_kp⟩ ⟨?f_check_day_ns, ?f_check_day_lk, ?f_check_day_cd, ?f_check_day_kp⟩ ⟨?f_check_known_ns, ?f_check_known_lk, ?f_check_known_cd, ?f_check_known_kp⟩ ⟨?f_check_days_ns, ?f_check_days_lk, ?f_check_days_cd, ?f_check_days_kp⟩ ⟨?f_check_light_ns, ?f_check_light_lk, ?f_check_light_cd, ?f_check_light_kp⟩ ⟨?f_check_place_ns, ?f_check_place_lk, ?f_check_place_cd, ?f_check_place_kp⟩ ⟨?f_check_number_ns, ?f_check_number_lk, ?f_check_number_cd, ?f_check_number_kp⟩ ⟨?f_earlier_end_ns, ?f_earlier_end_lk, ?f_earlier_end_cd, ?f_earlier_end_kp⟩ ⟨?f_runs_of_ns, ?f_runs_of_lk, ?f_runs_of_cd, ?f_runs_of_kp⟩ ⟨?f_check_keeper_ns, ?f_check_keeper_lk, ?f_check_keeper_cd, ?f_check_keeper_kp⟩ ⟨?f_check_not_early_ns, ?f_check_not_early_lk, ?f_check_not_early_cd, ?f_check_not_early_kp⟩ ⟨?f_are_ranks_ns, ?f_are_ranks_lk, ?f_are_ranks_cd, ?f_are_ranks_kp⟩ ⟨?f_names_at_ns, ?f_names_at_lk, ?f_names_at_cd, ?f_names_at_kp⟩ ⟨?f_names_before_ns, ?f_names_before_lk, ?f_names_before_cd, ?f_names_before_kp⟩ ⟨?f_put_steps_ns, ?f_put_steps_lk, ?f_put_steps_cd, ?f_put_steps_kp⟩ ⟨?f_supplies_ns, ?f_supplies_lk, ?f_supplies_cd, ?f_supplies_kp⟩ ⟨?f_cut_at_ns, ?f_cut_at_lk, ?f_cut_at_cd, ?f_cut_at_kp⟩ ⟨?f_left_on_ns, ?f_left_on_lk, ?f_left_on_cd, ?f_left_on_kp⟩ ⟨?f__law_pot_ns, ?f__law_pot_lk, ?f__law_pot_cd, ?f__law_pot_kp⟩ ⟨?f__law_take_ns, ?f__law_take_lk, ?f__law_take_cd, ?f__law_take_kp⟩ ⟨?f__law_far_ns, ?f__law_far_lk, ?f__law_far_cd, ?f__law_far_kp⟩ ⟨?f__law_names_ns, ?f__law_names_lk, ?f__law_names_cd, ?f__law_names_kp⟩ ⟨?f__law_plan_ns, ?f__law_plan_lk, ?f__law_plan_cd, ?f__law_plan_kp⟩ ⟨?f__law_worth_ns, ?f__law_worth_lk, ?f__law_worth_cd, ?f__law_worth_kp⟩ ⟨?f__law_event_ns, ?f__law_event_lk, ?f__law_event_cd, ?f__law_event_kp⟩ ⟨?f__law_tell_ns, ?f__law_tell_lk, ?f__law_tell_cd, ?f__law_tell_kp⟩ ⟨?f__law_looks_right_ns, ?f__law_looks_right_lk, ?f__law_looks_right_cd, ?f__law_looks_right_kp⟩ ⟨?f_law_ns, ?f_law_lk, ?f_law_cd, ?f_law_kp⟩ ?y_SMALL_LETTERS ?y_LONGEST_NAME ?y_MOST_THINGS ?y_ASHORE ?y_MOST_KEEPERS ?y_HIGHEST_RANK ?y_LOWEST_RANK ?z_isinstance ?z_int ?z_bool ?z_len ?z_abs ?z_max ?z_min ?z_divmod ?z_range ?z_repr ?z_zip ?z_ValueError ?z_all ?z_any ?z_sum ?z_sorted ?z_list ?z_tuple ?z_dict ?z_enumerate ?z_reversed ?z_str ?z_set
    (case d_n_Boat => k_is)
    (case d_n_Stretch => k_is)
    (case d_n_History => k_is)
    (case d_n_Book => k_is)
    (case m_Boat___init___at => k_is)
    (case m_Boat_seats_at => k_is)
    (case m_Boat_carries_at => k_is)
    (case m_Boat_man_at => k_is)
    (case m_Stretch_first_at => k_is)
    (case m_Stretch_last_at => k_is)
    (case m_Stretch_has_at => k_is)
    (case m_Stretch___repr___at => k_is)
    (case m_History___init___at => k_is)
    (case m_History_note_at => k_is)
    (case m_History_told_last_at => k_is)
    (case m_History_holding_at => k_is)
    (case m_Book___init___at => k_is)
    (case m_Book_ranks_at => k_is)
    (case m_Book_tell_at => k_is)
    (case m_Book_land_at => k_is)
    (case m_Book_moves_known_at => k_is)
    (case m_Book_landings_known_at => k_is)
    (case m_Stretch___init___at => k_is)
    (case m_Book_where_at => k_is)
    (case m_Book_landed_at => k_is)
    (case g_fewest_ns => k_is)
    (case g_turns_ns => k_is)
    (case g_came_ns => k_is)
    (case g_went_ns => k_is)
    (case g_heads_ns => k_is)
    (case g_left_over_ns => k_is)
    (case g_unfed_ns => k_is)
    (case g_weight_wanted_ns => k_is)
    (case g_landing_ns => k_is)
    (case f_is_name_ns => k_is)
    (case f_is_whole_ns => k_is)
    (case f_is_from_ns => k_is)
    (case f_is_within_ns => k_is)
    (case f_is_day_ns => k_is)
    (case f_parts_for_ns => k_is)
    (case f_room_of_ns => k_is)
    (case f_weight_out_ns => k_is)
    (case f_check_wanted_ns => k_is)
    (case f_are_stores_ns => k_is)
    (case f_is_place_ns => k_is)
    (case f_check_day_ns => k_is)
    (case f_check_known_ns => k_is)
    (case f_check_days_ns => k_is)
    (case f_check_light_ns => k_is)
    (case f_check_place_ns => k_is)
    (case f_check_number_ns => k_is)
    (case f_earlier_end_ns => k_is)
    (case f_runs_of_ns => k_is)
    (case f_check_keeper_ns => k_is)
    (case f_check_not_early_ns => k_is)
    (case f_are_ranks_ns => k_is)
    (case f_names_at_ns => k_is)
    (case f_names_before_ns => k_is)
    (case f_put_steps_ns => k_is)
    (case f_supplies_ns => k_is)
    (case f_cut_at_ns => k_is)
    (case f_left_on_ns => k_is)
    (case f__law_pot_ns => k_is)
    (case f__law_take_ns => k_is)
    (case f__law_far_ns => k_is)
    (case f__law_names_ns => k_is)
    (case f__law_plan_ns => k_is)
    (case f__law_worth_ns => k_is)
    (case f__law_event_ns => k_is)
    (case f__law_tell_ns => k_is)
    (case f__law_looks_right_ns => k_is)
    (case f_law_ns => k_is)
    (case y_SMALL_LETTERS => k_is)
    (case y_LONGEST_NAME => k_is)
    (case y_MOST_THINGS => k_is)
    (case y_ASHORE => k_is)
    (case y_MOST_KEEPERS => k_is)
    (case y_HIGHEST_RANK => k_is)
    (case y_LOWEST_RANK => k_is)
    (case m_Boat___init___lk => k_is)
    (case m_Boat_seats_lk => k_is)
    (case m_Boat_carries_lk => k_is)
    (case m_Boat_man_lk => k_is)
    (case m_Stretch_first_lk => k_is)
    (case m_Stretch_last_lk => k_is)
    (case m_Stretch_has_lk => k_is)
    (case m_Stretch___repr___lk => k_is)
    (case m_History___init___lk => k_is)
    (case m_History_note_lk => k_is)
    (case m_History_told_last_lk => k_is)
    (case m_History_holding_lk => k_is)
    (case m_Book___init___lk => k_is)
    (case m_Book_ranks_lk => k_is)
    (case m_Book_tell_lk => k_is)
    (case m_Book_land_lk => k_is)
    (case m_Book_moves_known_lk => k_is)
    (case m_Book_landings_known_lk => k_is)
    (case m_Stretch___init___lk => k_is)
    (case m_Book_where_lk => k_is)
    (case m_Book_landed_lk => k_is)
    (case g_fewest_lk => k_is)
    (case g_turns_lk => k_is)
    (case g_came_lk => k_is)
    (case g_went_lk => k_is)
    (case g_heads_lk => k_is)
    (case g_left_over_lk => k_is)
    (case g_unfed_lk => k_is)
    (case g_weight_wanted_lk => k_is)
    (case g_landing_lk => k_is)
    (case f_is_name_lk => k_is)
    (case f_is_whole_lk => k_is)
    (case f_is_from_lk => k_is)
    (case f_is_within_lk => k_is)
    (case f_is_day_lk => k_is)
    (case f_parts_for_lk => k_is)
    (case f_room_of_lk => k_is)
    (case f_weight_out_lk => k_is)
    (case f_check_wanted_lk => k_is)
    (case f_are_stores_lk => k_is)
    (case f_is_place_lk => k_is)
    (case f_check_day_lk => k_is)
    (case f_check_known_lk => k_is)
    (case f_check_days_lk => k_is)
    (case f_check_light_lk => k_is)
    (case f_check_place_lk => k_is)
    (case f_check_number_lk => k_is)
    (case f_earlier_end_lk => k_is)
    (case f_runs_of_lk => k_is)
    (case f_check_keeper_lk => k_is)
    (case f_check_not_early_lk => k_is)
    (case f_are_ranks_lk => k_is)
    (case f_names_at_lk => k_is)
    (case f_names_before_lk => k_is)
    (case f_put_steps_lk => k_is)
    (case f_supplies_lk => k_is)
    (case f_cut_at_lk => k_is)
    (case f_left_on_lk => k_is)
    (case f__law_pot_lk => k_is)
    (case f__law_take_lk => k_is)
    (case f__law_far_lk => k_is)
    (case f__law_names_lk => k_is)
    (case f__law_plan_lk => k_is)
    (case f__law_worth_lk => k_is)
    (case f__law_event_lk => k_is)
    (case f__law_tell_lk => k_is)
    (case f__law_looks_right_lk => k_is)
    (case f_law_lk => k_is)
    (case m_Stretch___init___lT => k_is)
    (case m_Book_where_lT => k_is)
    (case m_Book_landed_lT => k_is)
    (case g_fewest_lT => k_is)
    (case g_turns_lT => k_is)
    (case g_came_lT => k_is)
    (case g_went_lT => k_is)
    (case g_heads_lT => k_is)
    (case g_left_over_lT => k_is)
    (case g_unfed_lT => k_is)
    (case g_weight_wanted_lT => k_is)
    (case g_landing_lT => k_is)
    (case d_pg_Boat => k_is)
    (case d_hd_Boat => k_is)
    (case d_po_Boat => k_is)
    (case d_sa_Boat => k_is)
    (case d_kC_Boat => k_is)
    (case d_mk_Boat => k_is)
    (case d_f_Boat_many_seats => k_is)
    (case d_f_Boat_most_weight => k_is)
    (case d_f_Boat_man_weight => k_is)
    (case d_pg_Stretch => k_is)
    (case d_hd_Stretch => k_is)
    (case d_po_Stretch => k_is)
    (case d_sa_Stretch => k_is)
    (case d_kC_Stretch => k_is)
    (case d_mk_Stretch => k_is)
    (case d_f_Stretch_first_day => k_is)
    (case d_f_Stretch_last_day => k_is)
    (case d_pg_History => k_is)
    (case d_hd_History => k_is)
    (case d_po_History => k_is)
    (case d_sa_History => k_is)
    (case d_kC_History => k_is)
    (case d_mk_History => k_is)
    (case d_f_History_by_day => k_is)
    (case d_pg_Book => k_is)
    (case d_hd_Book => k_is)
    (case d_po_Book => k_is)
    (case d_sa_Book => k_is)
    (case d_kC_Book => k_is)
    (case d_mk_Book => k_is)
    (case d_f_Book_rank_of => k_is)
    (case d_f_Book_moves => k_is)
    (case d_f_Book_landings => k_is)
    (case d_f_Book_latest_known => k_is)
    (case m_Boat___init___cd => k_is)
    (case m_Boat___init___kp => k_is)
    (case m_Boat___init___isf => k_is)
    (case m_Boat_seats_cd => k_is)
    (case m_Boat_seats_kp => k_is)
    (case m_Boat_seats_isf => k_is)
    (case m_Boat_carries_cd => k_is)
    (case m_Boat_carries_kp => k_is)
    (case m_Boat_carries_isf => k_is)
    (case m_Boat_man_cd => k_is)
    (case m_Boat_man_kp => k_is)
    (case m_Boat_man_isf => k_is)
    (case m_Stretch_first_cd => k_is)
    (case m_Stretch_first_kp => k_is)
    (case m_Stretch_first_isf => k_is)
    (case m_Stretch_last_cd => k_is)
    (case m_Stretch_last_kp => k_is)
    (case m_Stretch_last_isf => k_is)
    (case m_Stretch_has_cd => k_is)
    (case m_Stretch_has_kp => k_is)
    (case m_Stretch_has_isf => k_is)
    (case m_Stretch___repr___cd => k_is)
    (case m_Stretch___repr___kp => k_is)
    (case m_Stretch___repr___isf => k_is)
    (case m_History___init___cd => k_is)
    (case m_History___init___kp => k_is)
    (case m_History___init___isf => k_is)
    (case m_History_note_cd => k_is)
    (case m_History_note_kp => k_is)
    (case m_History_note_isf => k_is)
    (case m_History_told_last_cd => k_is)
    (case m_History_told_last_kp => k_is)
    (case m_History_told_last_isf => k_is)
    (case m_History_holding_cd => k_is)
    (case m_History_holding_kp => k_is)
    (case m_History_holding_isf => k_is)
    (case m_Book___init___cd => k_is)
    (case m_Book___init___kp => k_is)
    (case m_Book___init___isf => k_is)
    (case m_Book_ranks_cd => k_is)
    (case m_Book_ranks_kp => k_is)
    (case m_Book_ranks_isf => k_is)
    (case m_Book_tell_cd => k_is)
    (case m_Book_tell_kp => k_is)
    (case m_Book_tell_isf => k_is)
    (case m_Book_land_cd => k_is)
    (case m_Book_land_kp => k_is)
    (case m_Book_land_isf => k_is)
    (case m_Book_moves_known_cd => k_is)
    (case m_Book_moves_known_kp => k_is)
    (case m_Book_moves_known_isf => k_is)
    (case m_Book_landings_known_cd => k_is)
    (case m_Book_landings_known_kp => k_is)
    (case m_Book_landings_known_isf => k_is)
    (case m_Stretch___init___cd => k_is)
    (case m_Stretch___init___kp => k_is)
    (case m_Stretch___init___isf => k_is)
    (case m_Book_where_cd => k_is)
    (case m_Book_where_kp => k_is)
    (case m_Book_where_isf => k_is)
    (case m_Book_landed_cd => k_is)
    (case m_Book_landed_kp => k_is)
    (case m_Book_landed_isf => k_is)
    (case g_fewest_cd => k_is)
    (case g_fewest_kp => k_is)
    (case g_turns_cd => k_is)
    (case g_turns_kp => k_is)
    (case g_came_cd => k_is)
    (case g_came_kp => k_is)
    (case g_went_cd => k_is)
    (case g_went_kp => k_is)
    (case g_heads_cd => k_is)
    (case g_heads_kp => k_is)
    (case g_left_over_cd => k_is)
    (case g_left_over_kp => k_is)
    (case g_unfed_cd => k_is)
    (case g_unfed_kp => k_is)
    (case g_weight_wanted_cd => k_is)
    (case g_weight_wanted_kp => k_is)
    (case g_landing_cd => k_is)
    (case g_landing_kp => k_is)
    (case f_is_name_cd => k_is)
    (case f_is_name_kp => k_is)
    (case f_is_whole_cd => k_is)
    (case f_is_whole_kp => k_is)
    (case f_is_from_cd => k_is)
    (case f_is_from_kp => k_is)
    (case f_is_within_cd => k_is)
    (case f_is_within_kp => k_is)
    (case f_is_day_cd => k_is)
    (case f_is_day_kp => k_is)
    (case f_parts_for_cd => k_is)
    (case f_parts_for_kp => k_is)
    (case f_room_of_cd => k_is)
    (case f_room_of_kp => k_is)
    (case f_weight_out_cd => k_is)
    (case f_weight_out_kp => k_is)
    (case f_check_wanted_cd => k_is)
    (case f_check_wanted_kp => k_is)
    (case f_are_stores_cd => k_is)
    (case f_are_stores_kp => k_is)
    (case f_is_place_cd => k_is)
    (case f_is_place_kp => k_is)
    (case f_check_day_cd => k_is)
    (case f_check_day_kp => k_is)
    (case f_check_known_cd => k_is)
    (case f_check_known_kp => k_is)
    (case f_check_days_cd => k_is)
    (case f_check_days_kp => k_is)
    (case f_check_light_cd => k_is)
    (case f_check_light_kp => k_is)
    (case f_check_place_cd => k_is)
    (case f_check_place_kp => k_is)
    (case f_check_number_cd => k_is)
    (case f_check_number_kp => k_is)
    (case f_earlier_end_cd => k_is)
    (case f_earlier_end_kp => k_is)
    (case f_runs_of_cd => k_is)
    (case f_runs_of_kp => k_is)
    (case f_check_keeper_cd => k_is)
    (case f_check_keeper_kp => k_is)
    (case f_check_not_early_cd => k_is)
    (case f_check_not_early_kp => k_is)
    (case f_are_ranks_cd => k_is)
    (case f_are_ranks_kp => k_is)
    (case f_names_at_cd => k_is)
    (case f_names_at_kp => k_is)
    (case f_names_before_cd => k_is)
    (case f_names_before_kp => k_is)
    (case f_put_steps_cd => k_is)
    (case f_put_steps_kp => k_is)
    (case f_supplies_cd => k_is)
    (case f_supplies_kp => k_is)
    (case f_cut_at_cd => k_is)
    (case f_cut_at_kp => k_is)
    (case f_left_on_cd => k_is)
    (case f_left_on_kp => k_is)
    (case f__law_pot_cd => k_is)
    (case f__law_pot_kp => k_is)
    (case f__law_take_cd => k_is)
    (case f__law_take_kp => k_is)
    (case f__law_far_cd => k_is)
    (case f__law_far_kp => k_is)
    (case f__law_names_cd => k_is)
    (case f__law_names_kp => k_is)
    (case f__law_plan_cd => k_is)
    (case f__law_plan_kp => k_is)
    (case f__law_worth_cd => k_is)
    (case f__law_worth_kp => k_is)
    (case f__law_event_cd => k_is)
    (case f__law_event_kp => k_is)
    (case f__law_tell_cd => k_is)
    (case f__law_tell_kp => k_is)
    (case f__law_looks_right_cd => k_is)
    (case f__law_looks_right_kp => k_is)
    (case f_law_cd => k_is)
    (case f_law_kp => k_is)
    (case z_isinstance => k_is)
    (case z_int => k_is)
    (case z_bool => k_is)
    (case z_len => k_is)
    (case z_abs => k_is)
    (case z_max => k_is)
    (case z_min => k_is)
    (case z_divmod => k_is)
    (case z_range => k_is)
    (case z_repr => k_is)
    (case z_zip => k_is)
    (case z_ValueError => k_is)
    (case z_all => k_is)
    (case z_any => k_is)
    (case z_sum => k_is)
    (case z_sorted => k_is)
    (case z_list => k_is)
    (case z_tuple => k_is)
    (case z_dict => k_is)
    (case z_enumerate => k_is)
    (case z_reversed => k_is)
    (case z_str => k_is)
    (case z_set => k_is)
