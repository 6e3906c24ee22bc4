import PyProof.Rows.All
import Wide.All
import OpenK.AllK
import Wide.FinOn
import KE.OsRunLaw
import KE.KNestM
import HandS.ForMost
import HandS.IsInst
import HandS.Wide
import HandS.WideBits
import HandS.EndBits
import HandS.Style
import HandS.RaiseMore
import PyProof.ReprRoads
import PyProof.ListStr
import HandS.ForExc
import HandS.Exc
import HandS.ExcIs
import HandS.CallSlots
import HandS.HotCalls
import HandS.Defaults
import HandS.MakeKw
import HandS.MakeKwOnly
import HandS.Nested
import HandS.ExcInit
import KE.KExcSuper
import HandS.ExcField
import HandS.FStr
import HandS.Words
import KE.KExcIs
import HandS.Walk
import HandS.Flow
import HandS.Zip
import PyProof.EqKinds
import PyProof.NeKinds
import KE.KFmtOwn
import HandS.OwnEq
import KE.DatumOrd
import HandS.FStrTup
import KE.DataMinMax
import HandS.TupMul
import HandS.Sort
import HandS.More
import HandS.Finally
import HandS.DictComp
import HandS.Conv
import PyProof.ListRange
import PyProof.TupleOfStr
import KE.KDictDisplayH
import HandS.MapJoin
import HandS.RevTup
import HandS.Rev
import HandS.SetTxtIn
import PyProof.StrLawsIn
import PyProof.DictUpdate
import HandS.Strs
import HandS.SetKeys
import HandS.Lambda
import KE.SortKeyHeap
import PyProof.TupleOfSeq
import HandS.SetFor
import KE.KDictZip
import HandS.GenList
import PyProof.Rows.SortShellAny
import PyProof.ReprLen
import HandS.EndTab
import HandS.BoundList
import PySem.Challenge.RW_lightturns_k34_loads
import KE.SortData
import HandS.ExcOwn
import HandS.Small
import HandS.ExcCtx
import HandS.WordsExc
import HandS.Hot
import HandS.DeepEq
set_option Elab.async false
set_option linter.all false
set_option maxRecDepth 100000
/-! Own layer: the head of a law by one kernel run (KE.OsRunLaw), the tables of code that lambdas grow among what the run is asked for. -/
namespace LT
open PySem PySem.W
def kPlus (K : Params → Frag) (ts : List Addr) : Params → Frag := fun P => K P ++ ts.map fun a => (a, tabObj #[])
end LT
set_option Elab.async false
set_option linter.all false
set_option maxRecDepth 100000
/-! Own layer: defs called where no repr is under way (FnG), repr of data, the end of a law by such a def. -/
namespace LT
open PySem PySem.Spec PyProof.Rows L2
structure FnG (P : Program) (w : World) (K : PySem.W.Frag) (mg : Str → Option Value) (base : Heap)
    (CX : CXT) (k : Nat) (f : Addr) (fd : FuncData) (ps : List Str) (sp : Sp) : Prop where
  argc : ∀ {vs : List V} {H : Hp} {Q : VK} {E : XK}, sp vs H Q E → vs.length = ps.length
  go : ∀ {A : Around} {outer : List Env} {s : Shared} {H : Hp} {args : Args} {us : List Value} {vs : List V}
    {Q : VK} {E : XK}, A.guards = some [] → Room k A → Env0 P w K mg base A outer s H →
    BindsTo s fd args (ps.zip us) → Vals vs us → sp vs H Q E →
    codeAny (model P w) A (.call (.ref f) args) (CR CX outer P w H s Q E) s
section
variable {P : Program} {w : World} {K : PySem.W.Frag} {mg : Str → Option Value} {base : Heap}
theorem FnG.of {CX : CXT} {k : Nat} {f : Addr} {fd : FuncData} {ps : List Str} {sp : Sp}
    (F : FnOk P w K mg base CX k f fd ps sp) : FnG P w K mg base CX k f fd ps sp :=
  ⟨fun h => F.len _ _ _ _ h, fun _ hr e b v h => F.run _ _ _ _ _ _ _ _ _ hr e b v h⟩
theorem okG {x qual : Str} {st : Stmt} {f : Addr} {fd : FuncData} {N ps : List Str} {k : Nat} {sp : Sp}
    (F : Fun K x qual st f fd) (S : FnScope N ps (defScope st))
    (argc : ∀ {vs : List V} {H : Hp} {Q : VK} {E : XK}, sp vs H Q E → vs.length = ps.length)
    (body : ∀ (cdv : Value) (A : Around) (outer : List Env) (s : Shared) (H : Hp) (vs : List V) (Q : VK) (E : XK),
      A.guards = some [] → Room k (A.deeper (envOfC qual (defScope st) s.heap.objs.size f cdv)) → sp vs H Q E →
      ∃ t, PSs (cxOf CX0 P w K mg base N qual (defScope st) f cdv A outer s H E).nox (defBody st) t ∧
        t { nx := fun _ H' => Q .non H', rt := Q } (start N vs) H) :
    FnG P w K mg base CX0 (k + 1) f fd ps sp := by
  obtain ⟨oc, od, kV, doc, pm, an, cdv, ct, osl, rfl, lk, hcd⟩ := F.ex
  refine ⟨argc, ?_⟩
  intro A outer s H args us vs Q E hg hr e0 hb r hsp
  have inS : ∀ b o, base.get? b = some o → s.heap.get? b = some o := fun b o e => (e0.bs b o e).1
  have KX : K.In s.heap := e0.mod.kin.keeps inS
  have hkind : ∀ y ∈ ps.zip us, (defScope st).names.lookup y.1 = some .local ∨
      ((defScope st).names.lookup y.1 = some .cell ∧
        ((cellsFrom (s.heap.objs.size + 1) (defScope st).names []).lookup y.1).isSome = true) := by
    rintro ⟨n, v⟩ hy
    rcases S.par n (List.of_mem_zip hy).1 with q | q
    · exact Or.inl q
    · exact Or.inr ⟨q, PySem.W.cellsFrom_some _ _ _ (Or.inl q)⟩
  refine codeAny_call_function hr.depth (KX _ _ lk) rfl S.co S.gen rfl (PySem.W.codeRec_of KX hcd)
    (hb _ _ _ _ (wpAny_newFunctionEnv_cells S.kind hkind fun env he s1 x => ?_))
  subst he
  refine ⟨(e0.mod.nolimit.keeps inS).keeps x.toInCall.keep, codeAny_func ?_⟩
  obtain ⟨t, ht, hq⟩ := body cdv A outer s H vs Q E hg (hr.deeper _) hsp
  have I := inv_start (CX := CX0) (N := N) (qual := qual) (f := f) (cd := cdv) (E := E) S hr.hd e0 (argc hsp) r x
  refine wpAny_mono (ht.nox.run [] s1 (start N vs) H _ I hq) (fun fl s' hs => ?_) (fun e s' hs => hs)
  cases fl with
  | brk => obtain ⟨_, _, _, q⟩ := hs; exact q.elim
  | cont => obtain ⟨_, _, _, q⟩ := hs; exact q.elim
  | next =>
    obtain ⟨σ', H', J, q⟩ := hs
    exact ⟨V.non, H', J.os, J.bare, J.base, J.hok, rfl, q⟩
  | ret u =>
    obtain ⟨v, σ', H', J, rv, q⟩ := hs
    exact ⟨v, H', J.os, J.bare, J.base, J.hok, rv, q⟩
end
/-! ### the call of such a def -/
section
variable {X : Cx} {CX : CXT} {k : Nat} {f : Addr} {fd : FuncData} {ps : List Str} {sp : Sp} {dvs : List V}
  {ds : List Value} {E : XK} {x : Str} {p pos : Pos} {e : Expr} {es : List Expr} {t : TA}
theorem runG {pins : List (Addr × Obj)} {σ : L2.St} {H : Hp} {s : Shared} {Q : VK} {us : List Value} {vs : List V}
    (F : FnG X.prog X.w X.K X.mg X.base CX k f fd ps sp) (hg : X.A.guards = some []) (hr : Room k X.A)
    (hb : Binds X.K fd ps ds) (hd : Vals dvs ds) (hx : Passes CX X E)
    (I : Inv X pins σ H s) (r : Vals vs us) (h : sp (vs ++ dvs) H Q E) :
    wpAny (model X.prog X.w) X.A (call (.ref f) us) (EP X pins σ Q) X.xe s := by
  have r2 : Vals (vs ++ dvs) (us ++ ds) := r.append hd
  have hl : (us ++ ds).length = ps.length := r2.length.symm.trans (F.argc h)
  refine wpAny_call (codeAny_mono (F.go hg hr I.env0 (hb s us I.kIn hl) r2 h) fun r s' hq => ?_)
  match r, hq with
  | .error e, hq => exact hx pins σ H s e s' I hq
  | .ok (.ret u), hq => exact I.after hq
  | .ok .next, hq => exact hq.elim
  | .ok .brk, hq => exact hq.elim
  | .ok .cont, hq => exact hq.elim
theorem pe_callG (F : FnG X.prog X.w X.K X.mg X.base CX k f fd ps sp) (hG : X.A.guards = some []) (hr : Room k X.A)
    (hg : Gl X x) (hm : X.mg x = some (.ref f)) (hk : PySem.W.keepIn X.K (.ref f) = true) (hb : Binds X.K fd ps ds)
    (hd : Vals dvs ds) (hx : Passes CX X E) (ha : PA X (e :: es) t)
    (hdb : (x == ("__debug__" : Str)) = false := by decide)
    (he : starEach (e :: es) X.env = (false, eval e X.env) :: starEach es X.env := by rfl)
    (hpl : (backTo pos (starEach es X.env)).any (·.1) = false := by rfl) :
    PE X (.Call (.Name x p) (e :: es) [] pos) (tCall sp dvs E t) := by
  refine ⟨fun pins s σ H Q I h => wpAny_Call_Name_kw (ld_glob I hg hm ?_ hdb)⟩
  refine PySem.W.callWith_K (h₀ := X.base) I.ok.mod.kin hk ?_ he hpl
  exact thn (ha.run pos pins s σ H _ I h) fun us s1 ⟨vs, H1, I1, r, q⟩ => ⟨I1.kIn, runG F hG hr hb hd hx I1 r q⟩
end
/-! ### repr of data -/
inductive Sh (K : PySem.W.Frag) (H : Hp) : V → PyData → Prop
  | dp {v : V} {d : PyData} : Dp K H v d → d.hasDict = false → Sh K H v d
  | one {a : Addr} {k : Str} {i : Int} : H a = some (.dK [(.inr k, .int i)]) → Sh K H (.ref a) (.dict [(.str k, .int i)])
section
variable {X : Cx} {pins : List (Addr × Obj)} {σ : L2.St} {H : Hp} {s : Shared}
theorem Sh.reads (I : Inv X pins σ H s) {v : V} {d : PyData} {u : Value} (h : Sh X.K H v d) (r : RelV v u) :
    ∃ as, Reads s.heap u d as ∧ (d.hasDict = true → sysModules ∉ as) := by
  cases h with
  | dp h hd =>
    obtain ⟨as, q⟩ := Dp.reads I d v u h r
    exact ⟨as, q, PyData.noDict_hsm hd⟩
  | one h =>
    rename_i a k i
    cases r
    obtain ⟨_, hs, vs, rel, o, es, ep, ho, hx, hd, hko, hp, hn⟩ := I.hok a _ h
    cases rel with
    | cons r1 r2 =>
      cases r2
      rename_i kv
      obtain ⟨kk, uu⟩ := kv
      obtain ⟨e1, t, e2⟩ := r1
      cases e1
      cases e2
      generalize hes : es.toList = l at hp
      cases hp with
      | cons k1 k2 k3 =>
        cases k3
        rename_i e
        have k0 : keyIs (Sum.inr k) e.key = true := k1
        obtain ⟨_, _, z, _⟩ | ⟨y, t', z, e3⟩ := keyIs_shape k0
        · cases z
        · cases z
          refine ⟨_, Reads.dict (as := []) (bs := []) ho hx.1 hd ?_ ?_, fun _ z => ?_⟩
          · rw [hes, List.map_cons, List.map_nil, e3]
            exact ReadsAll.cons (Reads.str _ _) .nil
          · rw [hes, List.map_cons, List.map_nil, k2]
            exact ReadsAll.cons (Reads.int _ _) .nil
          · have z2 : sysModules = a := by simpa using z
            rw [z2] at hs
            simp at hs
end
/-! ### text * number, list(text) -/
section
variable {X : Cx}
theorem paired_of {α β : Type} {R : α → β → Prop} : ∀ {xs : List α} {ys : List β}, xs.length = ys.length →
    (∀ (j : Nat) x y, xs[j]? = some x → ys[j]? = some y → R x y) → Paired R xs ys
  | [], [], _, _ => .nil
  | [], _ :: _, h, _ => by cases h
  | _ :: _, [], h, _ => by cases h
  | x :: xs, y :: ys, h, f => .cons (f 0 x y rfl rfl) (paired_of (Nat.succ.inj h) fun j a b h1 h2 => f (j + 1) a b h1 h2)
end
/-! ### the end of a law whose def wants that no repr is under way -/
theorem end_call {P : Program} {w : World} {K : PySem.W.Frag} {mg mb : Str → Option Value} {CX : CXT} {k : Nat} {fa a : Addr}
    {fd : FuncData} {x : Str} {sp : Sp} {s₁ : Shared} {vs : List Value} {ns : List Int}
    (KX : K.In s₁.heap) (hns : s₁.heap.Ns mainGlobals mg) (hb : s₁.heap.Ns builtinsNs mb)
    (hbb : ∀ x : Str, x ≠ "__name__" → mb x = bootBuiltins x) (hlim : s₁.heap.NoLimit) (hg : s₁.gens = #[])
    (ha : s₁.heap.get? a = some { cls := .type "list", data := .seq vs.toArray }) (hi : IntsAre vs ns)
    (hl : ns.length ≤ sizeLine) (hr : Room k callerA)
    (F : ∀ base : Heap, K.In base → base.Ns mainGlobals mg → FnG P w K mg base CX k fa fd [x] sp)
    (hbind : ∀ (s : Shared) (u : Value), BindsTo s fd ⟨[u], []⟩ [(x, u)])
    (hsp : ∀ H : Hp, Only H → SqL K H a (ns.map V.int) → sp [.ref a] H (fun v _ => v = .bl true) fun _ _ _ => False)
    (hCX : ∀ H e s', CX [] H s₁ (fun _ _ _ => False) e s' → False) :
    codeAny (model P w) callerA (.call (.ref fa) ⟨[.ref a], []⟩)
      (fun r s' => r = .ok (.ret (.bool true)) ∧ OldK s₁.heap s'.heap ∧ s'.os = s₁.os ∧ AllBare s'.gens) s₁ := by
  have lenV := hi.length
  have start : ∀ H : Hp, Only H → SqL K H a (ns.map V.int) → HOk P w H s₁.heap → (∀ b, H b ≠ none → b = a) →
      (H a ≠ none → K.lookup a = none) → codeAny (model P w) callerA (.call (.ref fa) ⟨[.ref a], []⟩)
        (fun r s' => r = .ok (.ret (.bool true)) ∧ OldK s₁.heap s'.heap ∧ s'.os = s₁.os ∧ AllBare s'.gens) s₁ := by
    intro H hO hS hok hA hK
    have free : ∀ {b : Addr}, (b = a → False) → H b = none := fun {b} hne => by
      cases q : H b with
      | none => rfl
      | some u => exact (hne (hA b (by rw [q]; exact Option.some_ne_none u))).elim
    have nsK : ∀ {b : Addr} {m : Str → Option Value}, s₁.heap.Ns b m → (hidT s₁.heap H).Ns b m := by
      rintro b m ⟨o, es, ep, e, d, r⟩
      refine ⟨o, es, ep, hidT_get e (free fun z => ?_), d, r⟩
      subst z
      rw [ha] at e
      cases e
      cases d
    have inK : K.In (hidT s₁.heap H) := fun b o e => hidT_get (KX b o e) (by
      cases q : H b with
      | none => rfl
      | some u =>
        obtain rfl : b = a := hA b (by rw [q]; exact Option.some_ne_none u)
        have z := hK (by rw [q]; exact Option.some_ne_none u)
        rw [z] at e
        cases e)
    have hM : Mod K mg (hidT s₁.heap H) := ⟨inK, nsK hns, ⟨mb, nsK hb, hbb⟩, hlim.imp fun _ z => ⟨nsK z.1, z.2⟩⟩
    have e0 : Env0 P w K mg (hidT s₁.heap H) callerA [] s₁ H :=
      ⟨rfl, hM, fun b o e => of_hidT e, Nat.le_of_eq (hidT_size _ _), trivial,
        fun b z => absurd (show b ∈ ([] : List Addr) from z) List.not_mem_nil, hok, .of_eq hg⟩
    refine codeAny_mono ((F _ inK (nsK hns)).go (us := [.ref a]) (vs := [.ref a]) rfl hr e0 (hbind s₁ (.ref a)) (.cons rfl .nil) (hsp H hO hS)) fun r s' h => ?_
    match r, h with
    | .error e, h => exact (hCX H e s' h).elim
    | .ok .next, h => exact h.elim
    | .ok .brk, h => exact h.elim
    | .ok .cont, h => exact h.elim
    | .ok (.ret u), h =>
      obtain ⟨v, H', os, bare, un, hok', r', rfl⟩ := h
      obtain rfl : u = Value.bool true := r'
      refine ⟨rfl, OldK.of_keep fun b o e => ?_, os, bare⟩
      rcases hO b with z | ⟨ob, xs, z⟩
      · exact un.keep b o e z (fun y => absurd (show b ∈ ([] : List Addr) from y) List.not_mem_nil) List.not_mem_nil
      · have z1 := (hok b _ z).1
        rw [e] at z1
        cases z1
        exact (hok' b _ (un.frzs b _ _ z)).1
  cases hk : K.lookup a with
  | some o =>
    have e := KX a o hk
    rw [ha] at e
    cases e
    refine start (fun _ => none) (fun _ => .inl rfl) (.inr ⟨_, vs.toArray, _, hk, rfl, rfl, rfl, ?_, by simpa using vals_ints hi⟩)
      (fun b u z => nomatch z) (fun b z => absurd rfl z) fun z => absurd rfl z
    rw [List.size_toArray, lenV]
    exact hl
  | none =>
    refine start (upd (fun _ => none) a (.frz { cls := .type "list", data := .seq vs.toArray } (.lst (ns.map V.int))))
      (fun b => ?_) (.inl (.inr ⟨_, upd_same⟩)) (fun b u z => ?_) (fun b z => ?_) fun _ => hk
    · by_cases q : b = a
      · exact .inr ⟨_, _, by rw [q]; exact upd_same⟩
      · exact .inl (upd_ne q)
    · by_cases q : b = a
      · subst q
        rw [upd_same] at z
        cases z
        exact ⟨ha, by rw [List.length_map]; exact hl, vs, _, vals_ints hi, ha⟩
      · rw [upd_ne q] at z
        cases z
    · by_cases q : b = a
      · exact q
      · exact absurd (upd_ne q) z
theorem end_of {l : PySem.W.OpenLaw} {n k : Nat} {q : Program} {loose : List Str} {XP : (Str → Option Value) → Heap → Prop}
    {YP : World → Heap → Prop} {d : DefRec} {K : Params → PySem.W.Frag} {CX : World → CXT} {sp : World → Sp} {x : Str}
    (hn : l.most = some n) (hn2 : n ≤ sizeLine) (hdf : d.params.defaults = []) (hr : Room k callerA)
    (hY : ∀ (w : World) (h : Heap), YP w h → (K w.params).In h)
    (F : ∀ (w : World) (mg : Str → Option Value) (fa : Addr) (h : Heap), (K w.params).In h → h.Ns mainGlobals mg →
      mg d.name = some (.ref fa) → ∃ fd : FuncData, (∀ (s : Shared) (u : Value), BindsTo s fd ⟨[u], []⟩ [(x, u)]) ∧
        ∀ base : Heap, (K w.params).In base → base.Ns mainGlobals mg →
          FnG l.prog w (K w.params) mg base (CX w) k fa fd [x] (sp w))
    (hsp : ∀ (w : World) (H : Hp) (a : Addr) (ns : List Int), ns.length ≤ n →
      (∀ z ∈ ns, Builtin.Int.intBits z ≤ 1048576) → Only H → SqL (K w.params) H a (ns.map V.int) →
      sp w [.ref a] H (fun v _ => v = .bl true) fun _ _ _ => False)
    (hCX : ∀ (w : World) (H : Hp) (s : Shared) (e : Value) (s' : Shared), CX w [] H s (fun _ _ _ => False) e s' → False) :
    PySem.W.WalkO q loose XP YP l.row.toRowW d [] (fun f vs => PySem.call f vs) :=
  Att.attach_callB hn hdf fun w _ s₁ mg mb fa o pm cd doc a vs ns G Y ho hd hcd hmg hobj hints hlen hbits hg => by
    obtain ⟨fd, hb, hF⟩ := F w mg fa _ (hY w _ Y) G.T.g hmg
    exact end_call (hY w _ Y) G.T.g G.T.b G.T.builtins G.T.nolimit hg hobj hints (Nat.le_trans hlen hn2) hr hF hb
      (fun H hO hS => hsp w H a ns hlen hbits hO hS) fun H e s' => hCX w H s₁ e s'
end LT
set_option Elab.async false
set_option linter.all false
set_option maxRecDepth 100000
/-! Own layer: a def to which the caught error is handed; isinstance of it there. -/
namespace LT
open PySem PySem.Spec PyProof.Rows L2
/-- as FnOk, called within an except suite; p is the caught error, which the promise may name -/
structure FnE (P : Program) (w : World) (K : PySem.W.Frag) (mg : Str → Option Value) (base : Heap)
    (k : Nat) (f : Addr) (fd : FuncData) (ps : List Str) (sp : Addr × Obj → Sp) : Prop where
  argc : ∀ {p : Addr × Obj} {vs : List V} {H : Hp} {Q : VK} {E : XK}, sp p vs H Q E → vs.length = ps.length
  go : ∀ {A : Around} {outer : List Env} {s : Shared} {H : Hp} {args : Args} {us : List Value} {vs : List V}
    {Q : VK} {E : XK} {p : Addr × Obj}, L2H.RoomH k A → L2H.PinOk outer H s p → Env0 P w K mg base A outer s H →
    BindsTo s fd args (ps.zip us) → Vals vs us → sp p vs H Q E →
    codeAny (model P w) A (.call (.ref f) args) (CR CX0 outer P w H s Q E) s
section
variable {P : Program} {w : World} {K : PySem.W.Frag} {mg : Str → Option Value} {base : Heap}
theorem okE {x qual : Str} {st : Stmt} {f : Addr} {fd : FuncData} {N ps : List Str} {k : Nat} {sp : Addr × Obj → Sp}
    (F : Fun K x qual st f fd) (S : FnScope N ps (defScope st))
    (argc : ∀ {p : Addr × Obj} {vs : List V} {H : Hp} {Q : VK} {E : XK}, sp p vs H Q E → vs.length = ps.length)
    (body : ∀ (cdv : Value) (A : Around) (outer : List Env) (s : Shared) (H : Hp) (vs : List V) (Q : VK) (E : XK) (p : Addr × Obj),
      L2H.RoomH k (A.deeper (envOfC qual (defScope st) s.heap.objs.size f cdv)) → sp p vs H Q E →
      ∃ t, PSs (L2H.cxH CX0 P w K mg base N qual (defScope st) f cdv A outer s H E p).nox (defBody st) t ∧
        t { nx := fun _ H' => Q .non H', rt := Q } (start N vs) H) :
    FnE P w K mg base (k + 1) f fd ps sp := by
  obtain ⟨oc, od, kV, doc, pm, an, cdv, ct, osl, rfl, lk, hcd⟩ := F.ex
  refine ⟨argc, ?_⟩
  intro A outer s H args us vs Q E p hr hpin e0 hb r hsp
  have inS : ∀ b o, base.get? b = some o → s.heap.get? b = some o := fun b o e => (e0.bs b o e).1
  have KX : K.In s.heap := e0.mod.kin.keeps inS
  have hkind : ∀ y ∈ ps.zip us, (defScope st).names.lookup y.1 = some .local ∨
      ((defScope st).names.lookup y.1 = some .cell ∧
        ((cellsFrom (s.heap.objs.size + 1) (defScope st).names []).lookup y.1).isSome = true) := by
    rintro ⟨n, v⟩ hy
    rcases S.par n (List.of_mem_zip hy).1 with q | q
    · exact Or.inl q
    · exact Or.inr ⟨q, PySem.W.cellsFrom_some _ _ _ (Or.inl q)⟩
  refine codeAny_call_function hr.depth (KX _ _ lk) rfl S.co S.gen rfl (PySem.W.codeRec_of KX hcd)
    (hb _ _ _ _ (wpAny_newFunctionEnv_cells S.kind hkind fun env he s1 x => ?_))
  subst he
  refine ⟨(e0.mod.nolimit.keeps inS).keeps x.toInCall.keep, codeAny_func ?_⟩
  obtain ⟨t, ht, hq⟩ := body cdv A outer s H vs Q E p (hr.deeper _) hsp
  have I := L2H.inv_startH (CX := CX0) (N := N) (qual := qual) (f := f) (cd := cdv) (E := E) S hpin e0 (argc hsp) r x
  refine wpAny_mono (ht.nox.run [] s1 (start N vs) H _ I hq) (fun fl s' hs => ?_) (fun e s' hs => hs)
  cases fl with
  | brk => obtain ⟨_, _, _, q⟩ := hs; exact q.elim
  | cont => obtain ⟨_, _, _, q⟩ := hs; exact q.elim
  | next =>
    obtain ⟨σ', H', J, q⟩ := hs
    exact ⟨V.non, H', J.os, J.bare, J.base, J.hok, rfl, q⟩
  | ret u =>
    obtain ⟨v, σ', H', J, rv, q⟩ := hs
    exact ⟨v, H', J.os, J.bare, J.base, J.hok, rv, q⟩
end
section
variable {X : Cx} {k : Nat} {f a : Addr} {oe : Obj} {cls : Value} {d : Option Addr} {fd : FuncData} {ps : List Str} {sp : Addr × Obj → Sp} {x : Str} {q pos : Pos} {e : Expr}
  {es : List Expr} {t : TA} {pn : List (Addr × Obj)}
/-- .. in an except suite; its reading names the error by its class and dict alone -/
def tCallZ (a : Addr) (cls : Value) (d : Option Addr) (sp : Addr × Obj → Sp) (t : TA) : TE := fun σ H Q => t σ H fun vs H1 =>
  ∀ oe : Obj, Zc cls d oe → (∃ vs, oe.data = .fields vs) → sp (a, oe) vs H1 Q E0
theorem pe_callZ (F : FnE X.prog X.w X.K X.mg X.base k f fd ps sp) (hr : Room k X.A) (hz : Zc cls d oe) (hf : ∃ vs, oe.data = .fields vs) (hg : Gl X x)
    (hm : X.mg x = some (.ref f)) (hk : PySem.W.keepIn X.K (.ref f) = true) (hb : L2.Binds X.K fd ps []) (ha : PA (X.suite a ((a, oe) :: pn)) (e :: es) t)
    (hdb : (x == ("__debug__" : Str)) = false := by decide)
    (he : starEach (e :: es) X.env = (false, eval e X.env) :: starEach es X.env := by rfl)
    (hpl : (backTo pos (starEach es X.env)).any (·.1) = false := by rfl) :
    PE (X.suite a ((a, oe) :: pn)) (.Call (.Name x q) (e :: es) [] pos) (tCallZ a cls d sp t) := by
  refine ⟨fun pins s σ H Q I h => ?_⟩
  have h2 : t σ H fun vs H1 => (fun vs H1 => ∀ oe : Obj, Zc cls d oe → (∃ vs, oe.data = .fields vs) → sp (a, oe) vs H1 Q E0) vs H1 := h
  refine (wpAny_Call_Name_kw (ld_glob (X := X.suite a ((a, oe) :: pn)) I hg hm ?_ hdb))
  refine PySem.W.callWith_K (h₀ := X.base) I.ok.mod.kin hk ?_ he hpl
  refine thn (ha.run pos pins s σ H _ I h2) fun us s1 ⟨vs, H1, I1, r, h1⟩ => ⟨I1.kIn, ?_⟩
  have h1 := h1 oe hz hf
  have hl : (us ++ []).length = ps.length := by
    rw [List.append_nil, ← r.length]
    exact F.argc h1
  have b := hb s1 us I1.kIn hl
  rw [List.append_nil] at b
  obtain ⟨p1, p2, p3, p4, p5⟩ := I1.pin (a, oe) (List.mem_append_left _ List.mem_cons_self)
  have pin : L2H.PinOk X.stack H1 s1 (a, oe) := ⟨p1, p2, fun z => (List.mem_cons.mp (I1.stkSub a z)).elim p3 p4, p5⟩
  refine wpAny_call (codeAny_mono (F.go (A := X.A.mark (some (.ref a))) ⟨hr.dp, hr.un⟩ pin I1.env0 b r h1) fun r s' hq => ?_)
  match r, hq with
  | .error _, hq => exact hq.elim
  | .ok (.ret u), hq => exact I1.after hq
  | .ok .next, hq => exact hq.elim
  | .ok .brk, hq => exact hq.elim
  | .ok .cont, hq => exact hq.elim
end
/-! ### isinstance of the pinned error -/
section
variable {X : Cx} {a D : Addr} {oe : Obj}
theorem pinned_at {pins : List (Addr × Obj)} {σ : L2.St} {H : Hp} {s : Shared} (I : Inv X pins σ H s) (hp : (a, oe) ∈ X.pn) (hz : Zc (.ref D) none oe)
    (hf : ∃ vs, oe.data = .fields vs) : PySem.W.InstAt s.heap a oe D none := by
  obtain ⟨hget, _⟩ := I.pin (a, oe) (List.mem_append_left _ hp)
  obtain ⟨vs, hv⟩ := hf
  obtain ⟨oc, od, oda, osl⟩ := oe
  obtain ⟨h1, h2⟩ := hz
  dsimp only at h1 h2 hv
  subst h1 h2 hv
  exact ⟨hget, rfl, rfl, trivial⟩
theorem call_isP (hp : (a, oe) ∈ X.pn) (C : ExcC X.K D) (hz : Zc (.ref D) none oe) (hf : ∃ vs, oe.data = .fields vs) :
    CallR X (.builtin "isinstance") (fun xs H Q => ∃ (c : V) (cv : Value) (b : Bool), xs = [.ref a, c] ∧ ClsV c cv ∧ PySem.W.kitOne X.K (.ref D) cv = some b ∧ Q (.bl b) H) := by
  intro pins s σ H xs us Q I r h
  obtain ⟨c, cv, b, rfl, hc, e, q⟩ := h
  obtain ⟨u1, u2, rfl, r1, r2⟩ := vals2 r
  have e2 := hc.eq r2
  subst e2
  cases r1
  exact PySem.W.kia_one (PySem.W.handS_kitx_exc C.hg C.hk C.hs C.hd C.ha C.hn C.ht C.hm) I.kIn (pinned_at I hp hz hf) e (fun z => nomatch z)
    fun tk => ⟨.bl b, H, I.tok tk, rfl, q⟩
theorem call_isPT (hp : (a, oe) ∈ X.pn) (C : ExcC X.K D) (hz : Zc (.ref D) none oe) (hf : ∃ vs, oe.data = .fields vs) :
    CallR X (.builtin "isinstance") (fun xs H Q => ∃ (tp : Addr) (cs : List V) (us : List Value) (b : Bool), xs = [.ref a, .ref tp] ∧ H tp = some (.tup cs) ∧ Paired ClsV cs us ∧
      PySem.W.kitAny X.K (.ref D) us = some b ∧ Q (.bl b) H) := by
  intro pins s σ H xs us Q I r h
  obtain ⟨tp, cs, ws, b, rfl, hT, k, e, q⟩ := h
  obtain ⟨u1, u2, rfl, r1, r2⟩ := vals2 r
  cases r1
  cases (show u2 = Value.ref tp from r2)
  obtain ⟨_, its, rv, o, h1, h2, n, h3⟩ := (show ObjOk X.prog X.w H s.heap tp (.tup cs) from I.hok tp _ hT)
  have e3 := ClsV.all k rv
  subst e3
  obtain ⟨oc, od, dt, sl⟩ := o
  simp only at h2 h3
  subst h2 h3
  exact PySem.W.kia_tup (PySem.W.handS_kitx_exc C.hg C.hk C.hs C.hd C.ha C.hn C.ht C.hm) I.kIn (pinned_at I hp hz hf) h1 e (fun z => nomatch z)
    fun tk => ⟨.bl b, H, I.tok tk, rfl, q⟩
end
end LT
set_option Elab.async false
set_option linter.all false
set_option maxRecDepth 100000
set_option maxHeartbeats 1600000
/-! an own error whose __init__ begins with super().__init__(..): the def by its body -/
namespace LT
open PySem PySem.Spec PyProof.Rows L2 NdefX
end LT
set_option Elab.async false
set_option linter.all false
set_option maxRecDepth 100000
set_option maxHeartbeats 1600000
/-! Own layer: a def to which a caught error with a field is handed: isinstance of it, its field; repr of lists of data; the __init__ of such errors. -/
namespace LT
open PySem PySem.Spec PyProof.Rows L2 NdefX
/-! ### an own error's __init__(self, field): super().__init__(f".. {field}"); self.field = field -/
/-! ### repr of a list of data, among them dicts without entries -/
inductive Sd (K : PySem.W.Frag) (H : Hp) : V → PyData → Prop
  | dp {v : V} {d : PyData} : Dp K H v d → d.hasDict = false → Sd K H v d
  | ed {a : Addr} : H a = some (.dK []) → Sd K H (.ref a) (.dict [])
theorem Sd.mono {K : PySem.W.Frag} {H H' : Hp} {v : V} {d : PyData} (s : Same H H') (h : Sd K H v d) (hm : Dp K H v d → Dp K H' v d) : Sd K H' v d := by
  cases h with
  | dp h hd => exact .dp (hm h) hd
  | ed h => exact .ed (s _ _ h)
section
variable {X : Cx} {pins : List (Addr × Obj)} {σ : L2.St} {H : Hp} {s : Shared}
theorem Sd.reads (I : Inv X pins σ H s) {v : V} {d : PyData} {u : Value} (h : Sd X.K H v d) (r : RelV v u) :
    ∃ as, Reads s.heap u d as ∧ (d.hasDict = true → sysModules ∉ as) := by
  cases h with
  | dp h hd =>
    obtain ⟨as, q⟩ := Dp.reads I d v u h r
    exact ⟨as, q, PyData.noDict_hsm hd⟩
  | ed h =>
    rename_i a
    cases r
    obtain ⟨_, hs, vs, rel, o, es, ep, ho, hx, hd, hko, hp, hn⟩ := I.hok a _ h
    cases rel
    generalize hes : es.toList = l at hp
    cases hp
    refine ⟨_, Reads.dict (as := []) (bs := []) (kvs := []) ho hx.1 hd ?_ ?_, fun _ z => ?_⟩
    · rw [hes]; exact .nil
    · rw [hes]; exact .nil
    · have z2 : sysModules = a := by simpa using z
      rw [z2] at hs
      simp at hs
theorem Sd.all (I : Inv X pins σ H s) : ∀ {vs : List V} {ds : List PyData} {us : List Value}, Paired (Sd X.K H) vs ds → Vals vs us → PyData.showableAll ds = true → (∀ t ∈ PyData.shownAll ds, t.length ≤ sizeLine) →
    ∃ as bs, ReadsAll s.heap us ds as ∧ ReadAtMost s.heap (PyData.depthAll ds) bs ∧ ReprAllK X.prog X.w bs s.heap (PyData.depthAll ds) us (PyData.shownAll ds)
  | _, _, _, .nil, r, _, _ => by
    cases r
    exact ⟨_, [], .nil, (fun _ h => nomatch h), by simp only [PyData.shownAll]; exact .nil⟩
  | _ :: _, d :: ds, _, .cons h hs, r, sh, hz => by
    cases r with
    | cons r1 r2 =>
      have sh' : d.showable = true ∧ PyData.showableAll ds = true := by simpa [PyData.showableAll] using sh
      obtain ⟨as, q1, n1⟩ := h.reads I r1
      obtain ⟨b1, hb1, k1⟩ := ReprK.of_reads (prog := X.prog) (w := X.w) q1 sh'.1 n1 (hz _ (by simp only [PyData.shownAll]; exact List.mem_cons_self ..))
      obtain ⟨bs, b2, q2, hb2, k2⟩ := Sd.all I hs r2 sh'.2 (fun t ht => hz t (by simp only [PyData.shownAll]; exact List.mem_cons_of_mem _ ht))
      refine ⟨_, b1 ++ b2, .cons q1 q2, ?_, ?_⟩
      · simp only [PyData.depthAll]
        exact (hb1.mono (Nat.le_max_left _ _)).append (hb2.mono (Nat.le_max_right _ _))
      · simp only [PyData.depthAll, PyData.shownAll]
        exact .cons ((k1.more fun b hb => List.mem_append_left _ hb).level_le (Nat.le_max_left _ _)) (k2.more_le (fun b hb => List.mem_append_right _ hb) (Nat.le_max_right _ _))
end
/-! ### keywords in any turn, no defaults -/
end LT
set_option Elab.async false
set_option linter.all false
set_option maxRecDepth 100000
/-! Own layer: shown texts have signs of the alphabet alone (strOk). -/
namespace LT
open PySem PySem.Spec PyProof.Rows L2
end LT
set_option Elab.async false
set_option linter.all false
set_option maxRecDepth 100000
set_option maxHeartbeats 1600000
/-! Own layer: what every law of this program wants: names of defs, things handed in, pots, heaps that grow. -/
namespace LT
open PySem PySem.Spec PyProof.Rows L2 NdefX
/-- names that are still the built-in ones -/
structure Tx (mg : Str → Option Value) : Prop where
  isi : mg "isinstance" = none
  int : mg "int" = none
  bool : mg "bool" = none
  len : mg "len" = none
  abs : mg "abs" = none
  max : mg "max" = none
  min : mg "min" = none
  divmod : mg "divmod" = none
  range : mg "range" = none
  repr : mg "repr" = none
  zip : mg "zip" = none
  ve : mg "ValueError" = none
  all : mg "all" = none
  any : mg "any" = none
  sum : mg "sum" = none
  sorted : mg "sorted" = none
  list : mg "list" = none
  tuple : mg "tuple" = none
  dict : mg "dict" = none
  enumerate : mg "enumerate" = none
  reversed : mg "reversed" = none
  str : mg "str" = none
  set : mg "set" = none
/-- a def that stands as a name of the module -/
structure Has (K : PySem.W.Frag) (mg : Str → Option Value) (x : Str) (ps : List Str) (st : Stmt) (f : Addr) (fd : FuncData) : Prop where
  fn : Fun K x x st f fd
  bd : L2.Binds K fd ps []
  gl : mg x = some (.ref f)
/-- a method of the class at C -/
structure Mth (K : PySem.W.Frag) (C : Addr) (m q : Str) (ps : List Str) (st : Stmt) (f : Addr) (fd : FuncData) : Prop where
  fn : Fun K m q st f fd
  bd : L2.Binds K fd ps []
  me : Meth K C m f
/-- what is handed in -/
inductive Odd (H : Hp) : V → Prop
  | non : Odd H .non
  | bl (b : Bool) : Odd H (.bl b)
  | int (i : Int) : Odd H (.int i)
  | str (z : Str) : Odd H (.str z)
  | lst {a : Addr} {xs : List V} : H a = some (.lst xs) → Odd H (.ref a)
  | tup {a : Addr} {xs : List V} : H a = some (.tup xs) → Odd H (.ref a)
  | dK {a : Addr} {kvs : List (Key × V)} : H a = some (.dK kvs) → Odd H (.ref a)
theorem Odd.mono {H H' : Hp} (s : Same H H') {v : V} (h : Odd H v) : Odd H' v := by
  cases h with
  | non => exact .non
  | bl b => exact .bl b
  | int i => exact .int i
  | str z => exact .str z
  | lst e => exact .lst (s _ _ e)
  | tup e => exact .tup (s _ _ e)
  | dK e => exact .dK (s _ _ e)
def isInt : V → Bool
  | .int _ => true
  | .bl _ => true
  | _ => false
def isBl : V → Bool
  | .bl _ => true
  | _ => false
theorem Odd.ty {K : PySem.W.Frag} {H : Hp} {v : V} (h : Odd H v) : ∃ t, TyX K H v t ∧ PySem.W.kitOne K t (.type "int") = some (isInt v) ∧ PySem.W.kitOne K t (.type "bool") = some (isBl v) := by
  cases h with
  | non => exact ⟨_, .base .non, kit_ty (show kitB "NoneType" "int" = some false by decide +kernel), kit_ty (show kitB "NoneType" "bool" = some false by decide +kernel)⟩
  | bl b => exact ⟨_, .base (.bl b), kit_ty (show kitB "bool" "int" = some true by decide +kernel), kit_ty (show kitB "bool" "bool" = some true by decide +kernel)⟩
  | int i => exact ⟨_, .base (.int i), kit_ty (show kitB "int" "int" = some true by decide +kernel), kit_ty (show kitB "int" "bool" = some false by decide +kernel)⟩
  | str z => exact ⟨_, .base (.str z), kit_ty (show kitB "str" "int" = some false by decide +kernel), kit_ty (show kitB "str" "bool" = some false by decide +kernel)⟩
  | lst e => exact ⟨_, .base (.lst e), kit_ty (show kitB "list" "int" = some false by decide +kernel), kit_ty (show kitB "list" "bool" = some false by decide +kernel)⟩
  | tup e => exact ⟨_, .base (.tup e), kit_ty (show kitB "tuple" "int" = some false by decide +kernel), kit_ty (show kitB "tuple" "bool" = some false by decide +kernel)⟩
  | dK e => exact ⟨_, .base (.dK e), kit_ty (show kitB "dict" "int" = some false by decide +kernel), kit_ty (show kitB "dict" "bool" = some false by decide +kernel)⟩
def wholeB : V → Bool
  | .int _ => true
  | _ => false
theorem whole_eq (v : V) : (isInt v && !isBl v) = wholeB v := by cases v <;> rfl
def fromB : V → Int → Bool
  | .int i, l => decide (l ≤ i)
  | _, _ => false
def withinB : V → Int → Int → Bool
  | .int i, l, m => decide (l ≤ i) && decide (i ≤ m)
  | _, _, _ => false
theorem bool_false {b : Bool} (h : ¬ b = true) : b = false := by cases b <;> first | rfl | exact absurd rfl h
theorem same_upd {H : Hp} {p : Addr} {o : HO} (h : H p = none) : Same H (upd H p o) := fun b x e => by
  rw [upd_ne (ne_of_none e h)]
  exact e
theorem same_app {H H1 : Hp} {p : Addr} {o : HO} (h : H p = none) (s : Same H H1) : Same H (upd H1 p o) := fun b x e => by
  rw [upd_ne (ne_of_none e h)]
  exact s _ _ e
/-- a pot: two numbers -/
def Pot (H : Hp) (p : Addr) : Prop := ∃ a b : Int, H p = some (.lst [.int a, .int b]) ∧ 0 ≤ a ∧ 0 ≤ b ∧ b < 2147483647
/-- all but what stands at p is as it was -/
def SameB (p : Addr) (H H' : Hp) : Prop := ∀ b o, b ≠ p → H b = some o → H' b = some o
theorem SameB.trans {p : Addr} {H H1 H2 : Hp} (a : SameB p H H1) (b : SameB p H1 H2) : SameB p H H2 := fun c o n h => b c o n (a c o n h)
theorem SameB.of {p : Addr} {H H' : Hp} (s : Same H H') : SameB p H H' := fun b o _ e => s b o e
theorem SameB.upd {p : Addr} {H H' : Hp} {o : HO} (s : SameB p H H') : SameB p H (upd H' p o) := fun b x n e => by
  rw [upd_ne n]
  exact s b x n e
theorem SameB.new {p q : Addr} {H H' : Hp} {o : HO} (h : H q = none) (s : SameB p H H') : SameB p H (L2.upd H' q o) := fun b x n e => by
  rw [upd_ne (ne_of_none e h)]
  exact s b x n e
theorem Pot.ne {H : Hp} {p q : Addr} (h : Pot H p) (n : H q = none) : q ≠ p := fun e => by
  obtain ⟨a, b, e1, _⟩ := h
  rw [← e, n] at e1
  cases e1
theorem SameB.none {p q : Addr} {H H1 : Hp} (s : SameB p H H1) (h : Pot H1 p) (n : H1 q = none) : H q = none := by
  cases e : H q with
  | none => rfl
  | some o =>
    rw [s q o (h.ne n) e] at n
    cases n
theorem Pot.upd {H : Hp} {p q : Addr} {o : HO} (h : Pot H p) (n : q ≠ p) : Pot (L2.upd H q o) p := by
  obtain ⟨a, b, e, r⟩ := h
  exact ⟨a, b, by rw [upd_ne n.symm]; exact e, r⟩
theorem Pot.mono {H H' : Hp} {p : Addr} (h : Pot H p) (s : Same H H') : Pot H' p := by
  obtain ⟨a, b, e, r⟩ := h
  exact ⟨a, b, s _ _ e, r⟩
theorem ne_of_pot {H : Hp} {p q : Addr} {o : HO} (h : Pot H p) (e : H q = some o) (n : ∀ a b : Int, o ≠ .lst [.int a, .int b] := by intros; nofun) : q ≠ p := by
  obtain ⟨a, b, ep, _⟩ := h
  exact ne_of e ep (n a b)
theorem same_made {H : Hp} {x dx C : Addr} {o : HO} (nx : H x = none) (nd : H dx = none) : Same H (upd (upd H dx (.own x)) x o) := fun b z e => by
  rw [upd_ne (ne_of_none e nx), upd_ne (ne_of_none e nd)]
  exact e
/-! ### isinstance, in an except suite, of an error of any class -/
section
variable {X : Cx} {a : Addr} {oe : Obj} {cls : Value} {d : Option Addr}
/-- the error's dict stands -/
def HasD (d : Option Addr) (H : Hp) : Prop := d = none ∨ ∃ (dd : Addr) (fs : List (Str × V)), d = some dd ∧ H dd = some (.xd fs)
theorem HasD.mono {H H' : Hp} (h : HasD d H) (s : Same H H') : HasD d H' := by
  rcases h with h | ⟨dd, fs, e, h⟩
  · exact .inl h
  · exact .inr ⟨dd, fs, e, s _ _ h⟩
end
/-! ### things of all sorts, with their data -/
inductive Th (H : Hp) : V → PyData → Prop
  | non : Th H .non .none
  | bl (b : Bool) : Th H (.bl b) (.bool b)
  | int (i : Int) : i.natAbs ≤ 10 ^ 61 → Th H (.int i) (.int i)
  | str (z : Str) : (PyData.str z).showable = true → (PyData.str z).shown.length ≤ 1921 → PyData.strOk (PyData.str z).shown = true → Th H (.str z) (.str z)
  | lst {a : Addr} (n : Int) : n.natAbs ≤ 10 ^ 61 → H a = some (.lst [.int n]) → Th H (.ref a) (.list [.int n])
  | tup {a : Addr} (n : Int) : n.natAbs ≤ 10 ^ 61 → H a = some (.tup [.int n]) → Th H (.ref a) (.tuple [.int n])
  | dk {a : Addr} : H a = some (.dK []) → Th H (.ref a) (.dict [])
theorem lg61 {i : Int} (h : i.natAbs ≤ 10 ^ 61) : i.natAbs.log2 < 1920 := by
  rcases Nat.eq_zero_or_pos i.natAbs with z | z
  · rw [z]; decide
  · rw [Nat.log2_lt (by omega)]
    exact Nat.lt_of_le_of_lt h (by decide)
theorem tlen61 {i : Int} (h : i.natAbs ≤ 10 ^ 61) : (Str.ofString (toString i)).length ≤ 204 := by
  rw [PySem.ofString_length]
  rcases Nat.eq_zero_or_pos i.natAbs with z | z
  · rw [show i = 0 by omega]; decide
  · have : i.natAbs.log2 < 203 := by
      rw [Nat.log2_lt (by omega)]
      exact Nat.lt_of_le_of_lt h (by decide)
    exact Nat.le_trans (int_text_length_le (k := 203) (by decide) this) (by decide)
theorem Th.mono {H H' : Hp} {v : V} {d : PyData} (h : Th H v d) (s : Same H H') : Th H' v d := by
  cases h with
  | non => exact .non
  | bl b => exact .bl b
  | int i hi => exact .int i hi
  | str z a b c => exact .str z a b c
  | lst n hn e => exact .lst n hn (s _ _ e)
  | tup n hn e => exact .tup n hn (s _ _ e)
  | dk e => exact .dk (s _ _ e)
theorem Th.upd {H : Hp} {th : Addr} {v : V} {d : PyData} {xs : List V} {o : HO} (h : Th H v d) (ht : H th = some (.lst xs)) (hl : xs.length ≠ 1) : Th (L2.upd H th o) v d := by
  cases h with
  | non => exact .non
  | bl b => exact .bl b
  | int i hi => exact .int i hi
  | str z a b c => exact .str z a b c
  | lst n hn e => exact .lst n hn (by rw [upd_ne (ne_of e ht (by intro z; cases z; exact hl rfl))]; exact e)
  | tup n hn e => exact .tup n hn (by rw [upd_ne (ne_of e ht (by intro z; cases z))]; exact e)
  | dk e => exact .dk (by rw [upd_ne (ne_of e ht (by intro z; cases z))]; exact e)
theorem Th.sd {K : PySem.W.Frag} {H : Hp} {v : V} {d : PyData} (h : Th H v d) : Sd K H v d := by
  cases h with
  | non => exact .dp .non (by simp [PyData.hasDict])
  | bl b => exact .dp (.bl b) (by simp [PyData.hasDict])
  | int i hi => exact .dp (.int i) (by simp [PyData.hasDict])
  | str z a b c => exact .dp (.str _) (by simp [PyData.hasDict])
  | lst n hn e => exact .dp (.lst (SqL.of e) (.cons (.int n) .nil)) (by simp [PyData.hasDict, PyData.hasDictAll])
  | tup n hn e => exact .dp (.tup (SqT.of e) (.cons (.int n) .nil)) (by simp [PyData.hasDict, PyData.hasDictAll])
  | dk e => exact .ed e
theorem shown_one (n : Int) : (PyData.list [.int n]).shown = listText [Str.ofString (toString n)] ∧ (PyData.tuple [.int n]).shown = tupleText [Str.ofString (toString n)] := by
  constructor
  · simp only [PyData.shown, PyData.shownAll]
  · simp only [PyData.shown, PyData.shownAll]
theorem Th.fit {H : Hp} {v : V} {d : PyData} (h : Th H v d) : d.showable = true ∧ d.depth ≤ 1 ∧ d.shown.length ≤ 1921 := by
  cases h with
  | non => exact ⟨by simp [PyData.showable], by simp [PyData.depth], by decide +kernel⟩
  | bl b => cases b <;> exact ⟨by simp [PyData.showable], by simp [PyData.depth], by decide +kernel⟩
  | int i hi => exact ⟨by simpa [PyData.showable] using lg61 hi, by simp [PyData.depth], by simp only [PyData.shown]; exact Nat.le_trans (tlen61 hi) (by decide)⟩
  | str z a b c => exact ⟨a, by simp [PyData.depth], b⟩
  | lst n hn e =>
    refine ⟨by simpa [PyData.showable, PyData.showableAll] using lg61 hn, by simp [PyData.depth, PyData.depthAll], ?_⟩
    rw [(shown_one n).1]
    have := listText_len_le [Str.ofString (toString n)]
    have := tlen61 hn
    simp only [List.map_cons, List.map_nil, List.sum_cons, List.sum_nil, List.length_cons, List.length_nil] at *
    omega
  | tup n hn e =>
    refine ⟨by simpa [PyData.showable, PyData.showableAll] using lg61 hn, by simp [PyData.depth, PyData.depthAll], ?_⟩
    rw [(shown_one n).2]
    have := tupleText_len_le [Str.ofString (toString n)]
    have := tlen61 hn
    simp only [List.map_cons, List.map_nil, List.sum_cons, List.sum_nil, List.length_cons, List.length_nil] at *
    omega
  | dk e => exact ⟨by decide +kernel, by decide +kernel, by decide +kernel⟩
/-! ### xs.count(y), flat things -/
end LT
set_option Elab.async false
set_option linter.all false
set_option maxRecDepth 100000
/-! Own layer: ==, != of instances of a class with its own __eq__; repr, str of such; a method called by keywords. -/
namespace LT
open PySem PySem.Spec PyProof.Rows L2
/-! ### == by an own __eq__ -/
/-! ### x in [y], [y] == [x] -/
/-! ### the same over the layer -/
/-! ### the same, the answer told ahead, the heap as it was -/
/-! ### != by an own __eq__ -/
/-! ### o.m(k = v): a method by keywords alone, what is raised wished for at the slots -/
end LT
set_option Elab.async false
set_option linter.all false
set_option maxRecDepth 100000
set_option maxHeartbeats 1600000
/-! Own layer: enumerate, methods that raise in a try, what is new on the heap, lists of ints. -/
namespace LT
open PySem PySem.Spec PyProof.Rows L2
/-! ### enumerate -/
/-! ### o.m(e, ..), where what it raises is caught -/
/-! ### what is new -/
def new (H H' : Hp) : Hp := fun c => match H c with | none => H' c | some _ => none
/-! ### one by place, one by its name -/
/-! ### lists of ints -/
end LT
set_option Elab.async false
set_option linter.all false
set_option maxRecDepth 100000
set_option maxHeartbeats 1600000
/-! Own layer: repr of an own thing whose __repr__ shows a list; a list of ints in an f-string; min of a list of pairs. -/
namespace LT
open PySem PySem.Spec PyProof.Rows L2
/-! ### min of a list of pairs of ints -/
theorem vals_ix : ∀ {vs : List V} {us : List Value}, Vals vs us → ∀ (i : Nat) {v : V} {u : Value}, vs[i]? = some v → us[i]? = some u → RelV v u
  | _, _, .cons r _, 0, _, _, hv, hu => by
    cases hv
    cases hu
    exact r
  | _, _, .cons _ t, i + 1, _, _, hv, hu => vals_ix t i hv hu
end LT
set_option Elab.async false
set_option linter.all false
set_option maxRecDepth 100000
set_option maxHeartbeats 1600000
/-! Own layer, numbers alone: how many are on in a slot; the slots where that may be least; even begins. -/
namespace LT
/-! ### sums -/
/-! ### even begins -/
end LT
set_option Elab.async false
set_option linter.all false
set_option maxRecDepth 100000
set_option maxHeartbeats 1600000
namespace LT
open PySem PySem.Spec PyProof.Rows L2
/-! ### the text of a list of ints -/
end LT
set_option Elab.async false
set_option linter.all false
set_option maxRecDepth 100000
set_option maxHeartbeats 1600000
set_option pp.maxSteps 700
/-! Own layer: a def that shows a list while something else is being shown; repr of a tuple that holds an own thing. -/
namespace LT
open PySem PySem.Spec PyProof.Rows L2
/-- a def that may ask what is being shown -/
structure FnGc (P : Program) (w : World) (K : PySem.W.Frag) (mg : Str → Option Value) (base : Heap)
    (CX : CXT) (k : Nat) (f : Addr) (fd : FuncData) (ps : List Str) (sp : List Code → Sp) : Prop where
  argc : ∀ {g : List Code} {vs : List V} {H : Hp} {Q : VK} {E : XK}, sp g vs H Q E → vs.length = ps.length
  go : ∀ {g : List Code} {A : Around} {outer : List Env} {s : Shared} {H : Hp} {args : Args} {us : List Value} {vs : List V}
    {Q : VK} {E : XK}, A.guards = some g → Room k A → Env0 P w K mg base A outer s H →
    BindsTo s fd args (ps.zip us) → Vals vs us → sp g vs H Q E →
    codeAny (model P w) A (.call (.ref f) args) (CR CX outer P w H s Q E) s
section
variable {P : Program} {w : World} {K : PySem.W.Frag} {mg : Str → Option Value} {base : Heap}
theorem FnGc.toG {CX : CXT} {k : Nat} {f : Addr} {fd : FuncData} {ps : List Str} {sp : List Code → Sp} (F : FnGc P w K mg base CX k f fd ps sp) : FnG P w K mg base CX k f fd ps (sp []) :=
  ⟨fun h => F.argc h, fun hg hr e b v h => F.go hg hr e b v h⟩
end
section
variable {X : Cx} {C f : Addr} {fd : FuncData} {ps : List Str} {sp : List Code → Sp} {n : Nat}
theorem run_strGc {g : List Code} {A : Around} {pins : List (Addr × Obj)} {σ : L2.St} {H : Hp} {s : Shared} {Q : VK} {a : Addr}
    (F : FnGc X.prog X.w X.K X.mg X.base CX0 n f fd ps sp) (hG : A.guards = some g) (sb : L2.Sub X n A) (hb : L2.Binds X.K fd ps []) (I : Inv X pins σ H s)
    (h : sp g [.ref a] H (fun z H' => ∃ t, z = .str t ∧ Q z H') E0) :
    wpAny (model X.prog X.w) A (call (.ref f) [.ref a]) (PySem.W.StrBack (EP X pins σ Q)) X.xe s := by
  have e0 : Env0 X.prog X.w X.K X.mg X.base A X.stack s H := by
    have e := I.env0
    exact ⟨by rw [sb.fr]; exact e.frames, e.mod, e.bs, e.bsz, e.funs, e.frf, e.hok, e.bare⟩
  have r2 : Vals [V.ref a] [Value.ref a] := .cons rfl .nil
  have hl := F.argc h
  have b := hb s [.ref a] I.kIn (by simpa using hl)
  rw [List.append_nil] at b
  refine wpAny_call (codeAny_mono (F.go (args := ⟨[.ref a], []⟩) (us := [.ref a]) hG sb.room e0 b r2 h) fun r s' hq => ?_)
  match r, hq with
  | .error _, hq => exact hq.elim
  | .ok .next, hq => exact hq.elim
  | .ok .brk, hq => exact hq.elim
  | .ok .cont, hq => exact hq.elim
  | .ok (.ret z), hq =>
    obtain ⟨z', H', I', rz, t, rfl, q⟩ := I.after hq
    obtain ⟨tk, rfl⟩ := rz
    exact ⟨.str t, H', I', ⟨tk, rfl⟩, q⟩
/-! ### {l} in an f-string, l a list of ints that is not being shown -/
end
section
variable {prog : Program} {w : World} {K : PySem.W.Frag} {A : Around} {E : Value → Shared → Prop} {s : Shared} {x C f : Addr} {ox : Obj} {od : Option Obj}
theorem boundBy_ownC {M : Model} {last : Value → List Value → Sem Value} {name : Str} {Q : Option Value → Shared → Prop} (X : K.In s.heap) (I : PySem.W.InstAt s.heap x ox C od)
    (hs : PySem.W.findIn K (.ref C) name = some (some (.ref f))) (hf : PySem.W.isFn K (.ref f) = true)
    (h : wpAny M A (last (.ref f) [.ref x]) (fun v => Q (some v)) E s) : wpAny M A (callSpecialIfBoundBy? last (.ref x) name) Q E s := by
  simp only [callSpecialIfBoundBy?, bindSpecialIfBound?]
  refine wpAny_holding (wpAny_bind (wpAny_bind (wpAny_bind (I.type.here ((PySem.W.looks_findIn X hs).here ?_)))))
  refine wpAny_bind (wpAny_askSetting (wpAny_ite ?_))
  have back : wpAny M A (last (.ref f) [.ref x] >>= fun v => pure (some v)) Q E s := wpAny_bind (wpAny_mono h (fun v s' z => wpAny_pure z) fun _ _ z => z)
  split
  · exact wpAny_bind ((PySem.W.bind_fn X _ (beq_iff_eq.mp hf)).here (wpAny_pure (by exact back)))
  · exact wpAny_tryCatch (wpAny_bind ((PySem.W.bind_fn X _ (beq_iff_eq.mp hf)).here (wpAny_pure (by exact back))))
theorem under_ownC {b : Nat} {Q : Str → Shared → Prop} (hb : b ≤ sizeLine) (hu : A.units < cLine) (X : K.In s.heap) (I : PySem.W.InstAt s.heap x ox C od)
    (hs : PySem.W.findIn K (.ref C) "__repr__" = some (some (.ref f))) (hf : PySem.W.isFn K (.ref f) = true)
    (h : wpAny (model prog w) A (call (.ref f) [.ref x]) (fun v s' => ∃ t u, v = .str t u ∧ Q t s') E s) : wpAny (model prog w) A (pyReprUnder b (.ref x)) Q E s := by
  refine wpAny_pyReprUnder_ref hb ?_
  unfold pyReprObjUnder pyReprObjBy
  refine wpAny_bind (wpAny_cRoomFor hu ?_)
  refine wpAny_bind (wpAny_bind (I.type.here ((PySem.W.looks_findIn X hs).here ?_)))
  show wpAny _ _ (if (some (Value.ref f)).isNone = true then _ else _) _ _ _
  rw [if_neg (by simp)]
  refine wpAny_bind (m := callSpecialIfBoundBy? _ (.ref x) (Str.ofString "__repr__")) (boundBy_ownC X I hs hf (wpAny_mono h (fun r s' hr => ?_) fun _ _ y => y))
  obtain ⟨t, u, rfl, q⟩ := hr
  exact wpAny_bind (wpAny_isInstance (typeIs_str _ _ _) isSubtype_str_str (wpAny_pure ⟨t, u, rfl, q⟩))
end
end LT
set_option Elab.async false
set_option linter.all false
set_option maxRecDepth 100000
set_option maxHeartbeats 1600000
set_option pp.maxSteps 700
/-! Own layer: repr of a list that holds own things and lists of ints; min of two pairs. -/
namespace LT
open PySem PySem.Spec PyProof.Rows L2
theorem sub_guardC {X : Cx} {n : Nat} {A : Around} (sb : L2.Sub X (n + 1) A) (args : Args) : L2.Sub X n (A.under (.builtin "list.__repr__.loop" args)) := by
  have hw : (Code.builtin "list.__repr__.loop" args).weight ≤ 1 := by
    show (Code.builtin "list.__repr__.loop" ⟨[], []⟩).weight ≤ 1
    decide +kernel
  have hc : (Code.builtin "list.__repr__.loop" args).cUnits ≤ 10 := by
    show (Code.builtin "list.__repr__.loop" ⟨[], []⟩).cUnits ≤ 10
    decide +kernel
  have he : (Code.builtin "list.__repr__.loop" args).envs = [] := rfl
  obtain ⟨⟨h1, h2, h3⟩, h4⟩ := sb
  refine ⟨⟨h1, ?_, ?_⟩, ?_⟩
  · show A.depth + _ + 3 * n + 5 < _
    omega
  · show A.units + _ + 16 * n + 200 < _
    omega
  · unfold Around.under
    simp [he, pushEnvs, h4]
/-! ### min of two pairs -/
end LT
set_option Elab.async false
set_option linter.all false
set_option maxRecDepth 100000
set_option maxHeartbeats 1600000
namespace LT
open PySem PySem.Spec PyProof.Rows L2 NdefX
/-! ### one of two readings -/
/-! ### len of an own thing -/
/-! ### an own thing made within a try -/
end LT
set_option Elab.async false
set_option linter.all false
set_option maxRecDepth 100000
set_option maxHeartbeats 1600000
set_option pp.maxSteps 700
/-! Own layer: repr of a tuple of three things, among them lists and tuples of things, and dicts. -/
namespace LT
open PySem PySem.Spec PyProof.Rows L2 NdefX
/-- a thing within a list -/
def Tn (H : Hp) (v : V) (d : PyData) : Prop := Th H v d ∧ d.hasDict = false
theorem Tn.mono {H H' : Hp} {v : V} {d : PyData} (h : Tn H v d) (s : Same H H') : Tn H' v d := ⟨h.1.mono s, h.2⟩
theorem Tn.dp {K : PySem.W.Frag} {H : Hp} {v : V} {d : PyData} (h : Tn H v d) : Dp K H v d := by
  cases h.1.sd (K := K) with
  | dp q _ => exact q
  | ed e => exact absurd h.2 (by simp [PyData.hasDict])
theorem Paired.map {α β : Type} {R S : α → β → Prop} (f : ∀ a b, R a b → S a b) : ∀ {xs : List α} {ys : List β}, Paired R xs ys → Paired S xs ys
  | _, _, .nil => .nil
  | _, _, .cons h r => .cons (f _ _ h) (Paired.map f r)
theorem tn_all {K : PySem.W.Frag} {H : Hp} : ∀ {vs : List V} {ds : List PyData}, Paired (Tn H) vs ds → DpAll K H vs ds
  | _, _, .nil => .nil
  | _, _, .cons h r => .cons h.dp (tn_all r)
theorem tn_no {H : Hp} : ∀ {vs : List V} {ds : List PyData}, Paired (Tn H) vs ds → PyData.hasDictAll ds = false
  | _, _, .nil => by simp [PyData.hasDictAll]
  | _, _, .cons h r => by simp [PyData.hasDictAll, h.2, tn_no r]
theorem tn_fit {H : Hp} : ∀ {vs : List V} {ds : List PyData}, Paired (Tn H) vs ds → PyData.showableAll ds = true ∧ PyData.depthAll ds ≤ 1 ∧ ((PyData.shownAll ds).map (·.length)).sum ≤ 1921 * vs.length ∧ (PyData.shownAll ds).length = vs.length
  | _, _, .nil => ⟨by simp [PyData.showableAll], by simp [PyData.depthAll], by simp [PyData.shownAll], by simp [PyData.shownAll]⟩
  | _, _, .cons h r => by
    obtain ⟨a, b, c⟩ := h.1.fit
    obtain ⟨a', b', c', d'⟩ := tn_fit r
    refine ⟨by simp [PyData.showableAll, a, a'], ?_, ?_, ?_⟩
    · simp only [PyData.depthAll]
      omega
    · simp only [PyData.shownAll, List.map_cons, List.sum_cons, List.length_cons]
      omega
    · simp only [PyData.shownAll, List.length_cons, d']
/-- what is handed to a round -/
inductive Sx (H : Hp) : V → PyData → Prop
  | th {v : V} {d : PyData} : Th H v d → Sx H v d
  | lst {a : Addr} {xs : List V} {ds : List PyData} : H a = some (.lst xs) → xs.length ≤ 100 → Paired (Tn H) xs ds → Sx H (.ref a) (.list ds)
  | tup {a : Addr} {xs : List V} {ds : List PyData} : H a = some (.tup xs) → xs.length ≤ 100 → Paired (Tn H) xs ds → Sx H (.ref a) (.tuple ds)
  | zz {a : Addr} : H a = some (.dK [(.inl 0, .int 0)]) → Sx H (.ref a) (.dict [(.int 0, .int 0)])
theorem Sx.mono {H H' : Hp} {v : V} {d : PyData} (h : Sx H v d) (s : Same H H') : Sx H' v d := by
  cases h with
  | th h => exact .th (h.mono s)
  | lst e l p => exact .lst (s _ _ e) l (Paired.map (fun _ _ h => h.mono s) p)
  | tup e l p => exact .tup (s _ _ e) l (Paired.map (fun _ _ h => h.mono s) p)
  | zz e => exact .zz (s _ _ e)
theorem Sx.fit {H : Hp} {v : V} {d : PyData} (h : Sx H v d) : d.showable = true ∧ d.depth ≤ 2 ∧ d.shown.length ≤ 200000 := by
  cases h with
  | th h =>
    obtain ⟨a, b, c⟩ := h.fit
    exact ⟨a, by omega, by omega⟩
  | lst e l p =>
    rename_i xs ds
    obtain ⟨a, b, c, d⟩ := tn_fit p
    refine ⟨by simpa [PyData.showable] using a, by simp only [PyData.depth]; omega, ?_⟩
    have := listText_len_le (PyData.shownAll ds)
    simp only [PyData.shown]
    omega
  | tup e l p =>
    rename_i xs ds
    obtain ⟨a, b, c, d⟩ := tn_fit p
    refine ⟨by simpa [PyData.showable] using a, by simp only [PyData.depth]; omega, ?_⟩
    have := tupleText_len_le (PyData.shownAll ds)
    simp only [PyData.shown]
    omega
  | zz e => exact ⟨by decide +kernel, by decide +kernel, by decide +kernel⟩
section
variable {X : Cx} {pins : List (Addr × Obj)} {σ : L2.St} {H : Hp} {s : Shared}
theorem Sx.reads (I : Inv X pins σ H s) {v : V} {d : PyData} {u : Value} (h : Sx H v d) (r : RelV v u) :
    ∃ as, Reads s.heap u d as ∧ (d.hasDict = true → sysModules ∉ as) := by
  cases h with
  | th h => exact (h.sd (K := X.K)).reads I r
  | lst e l p =>
    have hd : Dp X.K H _ _ := .lst (SqL.of e) (tn_all p)
    obtain ⟨as, q⟩ := Dp.reads I _ _ u hd r
    exact ⟨as, q, PyData.noDict_hsm (by simpa [PyData.hasDict] using tn_no p)⟩
  | tup e l p =>
    have hd : Dp X.K H _ _ := .tup (SqT.of e) (tn_all p)
    obtain ⟨as, q⟩ := Dp.reads I _ _ u hd r
    exact ⟨as, q, PyData.noDict_hsm (by simpa [PyData.hasDict] using tn_no p)⟩
  | zz h =>
    rename_i a
    cases r
    obtain ⟨_, hs, vs, rel, o, es, ep, ho, hx, hd, hko, hp, hn⟩ := I.hok a _ h
    cases rel with
    | cons r1 r2 =>
      cases r2
      rename_i kv
      obtain ⟨kk, uu⟩ := kv
      obtain ⟨e1, t, e2⟩ := r1
      cases e1
      cases e2
      generalize hes : es.toList = l at hp
      cases hp with
      | cons k1 k2 k3 =>
        cases k3
        rename_i e
        have k0 : keyIs (Sum.inl 0) e.key = true := k1
        obtain ⟨y, t', z, e3⟩ | ⟨_, _, z, _⟩ := keyIs_shape k0
        · cases z
          refine ⟨_, Reads.dict (as := []) (bs := []) ho hx.1 hd ?_ ?_, fun _ z => ?_⟩
          · rw [hes, List.map_cons, List.map_nil, e3]
            exact ReadsAll.cons (Reads.int _ _) .nil
          · rw [hes, List.map_cons, List.map_nil, k2]
            exact ReadsAll.cons (Reads.int _ _) .nil
          · have z2 : sysModules = a := by simpa using z
            rw [z2] at hs
            simp at hs
        · cases z
theorem Sx.all (I : Inv X pins σ H s) : ∀ {vs : List V} {ds : List PyData} {us : List Value}, Paired (Sx H) vs ds → Vals vs us →
    ∃ as bs, ReadsAll s.heap us ds as ∧ ReadAtMost s.heap (PyData.depthAll ds) bs ∧ ReprAllK X.prog X.w bs s.heap (PyData.depthAll ds) us (PyData.shownAll ds)
  | _, _, _, .nil, r => by
    cases r
    exact ⟨_, [], .nil, (fun _ h => nomatch h), by simp only [PyData.shownAll]; exact .nil⟩
  | _ :: _, d :: ds, _, .cons h hs, r => by
    cases r with
    | cons r1 r2 =>
      obtain ⟨f1, f2, f3⟩ := h.fit
      obtain ⟨as, q1, n1⟩ := h.reads I r1
      obtain ⟨b1, hb1, k1⟩ := ReprK.of_reads (prog := X.prog) (w := X.w) q1 f1 n1 (by rw [sizeLine_eq]; omega)
      obtain ⟨bs, b2, q2, hb2, k2⟩ := Sx.all I hs r2
      refine ⟨_, b1 ++ b2, .cons q1 q2, ?_, ?_⟩
      · simp only [PyData.depthAll]
        exact (hb1.mono (Nat.le_max_left _ _)).append (hb2.mono (Nat.le_max_right _ _))
      · simp only [PyData.depthAll, PyData.shownAll]
        exact .cons ((k1.more fun b hb => List.mem_append_left _ hb).level_le (Nat.le_max_left _ _)) (k2.more_le (fun b hb => List.mem_append_right _ hb) (Nat.le_max_right _ _))
end
end LT
set_option Elab.async false
set_option linter.all false
set_option maxRecDepth 100000
set_option maxHeartbeats 1600000
/-! Own layer: what the top of a program has left, put by name, for any law (tools/g.py writes the list of it). -/
namespace LT
open PySem PySem.Spec PyProof.Rows L2 NdefX
/-- an own error without a field -/
structure Ev (K : PySem.W.Frag) (mg : Str → Option Value) (x : Str) (D : Addr) : Prop where
  g : mg x = some (.ref D)
  x : PySem.W.excIn K D [.type "ValueError", .type "Exception", .type "BaseException", .type "object"] "ValueError.__new__" = true
  k : PySem.W.keepIn K (.ref D) = true
  b : PySem.W.subIn K (.ref D) (.type "BaseException") = some true
  t : PySem.W.typeIn K (.ref D) = some (.type "type")
/-- an own class -/
structure ClF (K : PySem.W.Frag) (mg : Str → Option Value) (x : Str) (C : Addr) : Prop where
  cl : Cls K C
  gl : mg x = some (.ref C)
  kp : PySem.W.keepIn K (.ref C) = true
theorem kit_self {K : PySem.W.Frag} {a : Addr} : PySem.W.kitOne K (.ref a) (.ref a) = some true := if_pos (c := ((Value.ref a) == (Value.ref a)) = true) (beq_self_eq_true (Value.ref a))
theorem cls_of {K : PySem.W.Frag} {t : Value} {C : Addr} {b : Bool} (i : PySem.W.isClsIn K C = true) (ty : PySem.W.typeIn K (.ref C) = some (.type "type")) (s : PySem.W.subIn K t (.ref C) = some b) : PySem.W.kitCls K t (.ref C) = some b := by
  have i' : (PySem.W.clsIn K C).isSome = true := i
  show (if ((PySem.W.clsIn K C).isSome && PySem.W.typeIn K (.ref C) == some (.type "type")) = true then PySem.W.subIn K t (.ref C) else none) = some b
  rw [i', ty]
  exact s
theorem kit_yes {K : PySem.W.Frag} {t : Value} {C : Addr} (i : PySem.W.isClsIn K C = true) (ty : PySem.W.typeIn K (.ref C) = some (.type "type")) (s : PySem.W.subIn K t (.ref C) = some true) : PySem.W.kitOne K t (.ref C) = some true := by
  unfold PySem.W.kitOne
  split
  · rfl
  · exact cls_of i ty s
theorem kit_no {K : PySem.W.Frag} {t : Value} {C : Addr} (i : PySem.W.isClsIn K C = true) (ty : PySem.W.typeIn K (.ref C) = some (.type "type")) (s : PySem.W.subIn K t (.ref C) = some false) (q : (t == .ref C) = false) : PySem.W.kitOne K t (.ref C) = some false := by
  unfold PySem.W.kitOne
  rw [q]
  exact cls_of i ty s
theorem kit_ve {K : PySem.W.Frag} {D : Addr} (s : PySem.W.subIn K (.ref D) (.type "ValueError") = some true) : PySem.W.kitOne K (.ref D) (.type "ValueError") = some true := by
  unfold PySem.W.kitOne
  split
  · rfl
  · show (if PySem.W.kitMeta "ValueError" = true then PySem.W.subIn K (.ref D) (.type "ValueError") else none) = some true
    rw [show PySem.W.kitMeta "ValueError" = true by decide +kernel]
    exact s
theorem exm_is {K : PySem.W.Frag} {t : Value} {C : Addr} {r : Bool} (b : PySem.W.subIn K (.ref C) (.type "BaseException") = some true) (i : PySem.W.isClsIn K C = true) (ty : PySem.W.typeIn K (.ref C) = some (.type "type")) (s : PySem.W.subIn K t (.ref C) = some r) : PySem.W.exmOne K t (.ref C) = some r := by
  unfold PySem.W.exmOne
  rw [b]
  exact cls_of i ty s
/-! ### what the top has left -/
structure Left (K : PySem.W.Frag) (x : Str) (st : Stmt) (f : Addr) (oc : Value) (od an : Option Addr) (kV dc pm cd ct : Value) (sl : Array (Option Value)) : Prop where
  ns : PySem.W.nsIn K mainGlobals x = some (some (.ref f))
  lk : K.lookup f = some ⟨oc, od, .func (PySem.W.fnOf x x (defArgs st) (defBody st) (defScope st) .none kV dc pm an cd ct), sl⟩
  cd : PySem.W.codeIn K cd x = true
  kp : PySem.W.keepIn K (.ref f) = true
theorem Left.fn {K : PySem.W.Frag} {x : Str} {st : Stmt} {f : Addr} {oc : Value} {od an : Option Addr} {kV dc pm cd ct : Value} {sl : Array (Option Value)} (h : Left K x st f oc od an kV dc pm cd ct sl) :
    Fun K x x st f (PySem.W.fnOf x x (defArgs st) (defBody st) (defScope st) .none kV dc pm an cd ct) := fun_mk h.lk h.cd h.kp
structure LeftM (K : PySem.W.Frag) (C : Addr) (x q : Str) (st : Stmt) (f : Addr) (oc : Value) (od an : Option Addr) (kV dc pm cd ct : Value) (sl : Array (Option Value)) : Prop where
  at_ : PySem.W.findIn K (.ref C) x = some (some (.ref f))
  lk : K.lookup f = some ⟨oc, od, .func (PySem.W.fnOf x q (defArgs st) (defBody st) (defScope st) .none kV dc pm an cd ct), sl⟩
  cd : PySem.W.codeIn K cd q = true
  kp : PySem.W.keepIn K (.ref f) = true
  isf : PySem.W.isFn K (.ref f) = true
theorem LeftM.fn {K : PySem.W.Frag} {C : Addr} {x q : Str} {st : Stmt} {f : Addr} {oc : Value} {od an : Option Addr} {kV dc pm cd ct : Value} {sl : Array (Option Value)} (h : LeftM K C x q st f oc od an kV dc pm cd ct sl) :
    Fun K x q st f (PySem.W.fnOf x q (defArgs st) (defBody st) (defScope st) .none kV dc pm an cd ct) := fun_mk h.lk h.cd h.kp
theorem LeftM.me {K : PySem.W.Frag} {C : Addr} {x q : Str} {st : Stmt} {f : Addr} {oc : Value} {od an : Option Addr} {kV dc pm cd ct : Value} {sl : Array (Option Value)} (h : LeftM K C x q st f oc od an kV dc pm cd ct sl) :
    Meth K C x f := ⟨h.at_, h.isf, h.kp⟩
/-- a def with defaults -/
structure LeftD (K : PySem.W.Frag) (x : Str) (st : Stmt) (va : Array Value) (f T : Addr) (oc : Value) (od an : Option Addr) (kV dc pm cd ct : Value) (sl : Array (Option Value)) (oT : Value) (dT : Option Addr) (nT : Nat) (sT : Array (Option Value)) : Prop where
  ns : PySem.W.nsIn K mainGlobals x = some (some (.ref f))
  lk : K.lookup f = some ⟨oc, od, .func (PySem.W.fnOf x x (defArgs st) (defBody st) (defScope st) (.ref T) kV dc pm an cd ct), sl⟩
  cd : PySem.W.codeIn K cd x = true
  kp : PySem.W.keepIn K (.ref f) = true
  lT : K.lookup T = some ⟨oT, dT, .seq va nT, sT⟩
end LT
set_option Elab.async false
set_option linter.all false
set_option maxRecDepth 100000
set_option maxHeartbeats 1600000
/-! Own layer: sum(d.values()); names; stores (a dict from names to weights). -/
namespace LT
open PySem PySem.Spec PyProof.Rows L2 NdefX
/-! ### sum(d.values()) -/
theorem preSum_take (is : List Int) : ∀ n, preSum (fun i => is.getD i 0) n = (is.take n).sum
  | 0 => by simp [preSum]
  | n + 1 => by
    rw [preSum, preSum_take is n, List.take_add_one, List.sum_append, List.getD_eq_getElem?_getD]
    cases is[n]? with
    | none => simp
    | some x => simp
def tSumVals (td : TE) : TE := fun σ H Q => td σ H fun x H1 => ∃ (a : Addr) (kvs : List (Key × V)) (is : List Int), x = V.ref a ∧ H1 a = some (.dK kvs) ∧ kvs.map (·.2) = is.map V.int ∧ Q (.int is.sum) H1
theorem pe_sumVals {X : Cx} {o : Expr} {p pos apos mpos : Pos} {td : TE} (hc : X.calm = true) (hg : Gl X "sum") (hm : X.mg "sum" = none) (hd : PE X o td) (hbase : attributeBase o "values" X.env (eval o X.env) = eval o X.env := by rfl) (hline : (apos.endLine == mpos.line) = true := by rfl)
    (hse : starEach [Expr.Call (.Attribute o "values" apos) [] [] mpos] X.env = [(false, eval (Expr.Call (.Attribute o "values" apos) [] [] mpos) X.env)] := by rfl) :
    PE X (.Call (.Name "sum" p) [.Call (.Attribute o "values" apos) [] [] mpos] [] pos) (tSumVals td) := by
  refine ⟨fun pins s σ H Q I h => ?_⟩
  refine wpAny_Call_Name_kw (ld_blt I hg hm (u := .builtin "sum") (by first | rfl | decide +kernel) ?_ (by first | decide +kernel | decide) (by first | decide +kernel | decide))
  rw [hse]
  refine PySem.callWith_builtin1 (wpAny_Call_method0_late hbase hline (thn (hd.run pins s σ H _ I h) fun v s1 ⟨x, H1, I1, r1, a, kvs, is, ex, ha, hv, q⟩ => ?_))
  subst ex
  obtain rfl : v = Value.ref a := r1
  obtain ⟨_, hsys, vs, rel, dof⟩ := dk_of I1.hok ha
  obtain ⟨ep, dat⟩ := dof.dictAt
  have dat' := dat
  obtain ⟨ob, es, ho, ex, hdat, hko, hpr, hnd⟩ := dat'
  refine ⟨"dict", "dict.values", F.plainAttrs_dict, F.slot_dict_values, F.type_dict_values, ⟨ob, ho, ex.1⟩, fun b e => ?_, Calls.callWith_builtin rfl (PySem.evalArgs_none ?_)⟩
  · cases e
    exact ⟨ob, ho, ex.2.1⟩
  refine call_meetsIn F.slot_dict_values ⟨ob, ho, ex.1⟩ F.entry_dict_values (F.args_dict_values_1 _) (meets_dict_values (mixKind X.prog X.w) a hsys) ⟨⟨vs, dof⟩, ?_⟩
  have k1 : ∀ b u, s1.heap.get? b = some u → (s1.heap.push { cls := .type "dict_values", data := .fields #[.ref a] }).get? b = some u := fun b u e => Heap.get?_push_of_some _ e
  have dat1 : (s1.heap.push { cls := .type "dict_values", data := .fields #[.ref a] }).DictAt (mixKind X.prog X.w) a vs ep := dat.keep k1
  have hlv : vs.length = is.length := by
    have e1 := congrArg List.length hv
    rw [List.length_map, List.length_map] at e1
    rw [← e1]
    exact (KV.length rel).symm
  have hval : ∀ (i : Nat) (v : Value), (∃ k, vs[i]? = some (k, v)) → ∃ t, v = Value.int (is.getD i 0) t := fun i v ⟨k, hk⟩ => by
    obtain ⟨x, h1, h2⟩ := KV.at' rel hk
    have e1 : (kvs.map (·.2))[i]? = some x := by rw [List.getElem?_map, h1] <;> rfl
    rw [hv, List.getElem?_map] at e1
    obtain ⟨j, hj, e2⟩ := Option.map_eq_some_iff.mp e1
    subst e2
    obtain ⟨t, e3⟩ := h2
    refine ⟨t, ?_⟩
    rw [e3, List.getD_eq_getElem?_getD, hj] <;> rfl
  refine call_sum_walkG (wpAny_pyIter_values (v := s1.heap.objs.size) (d := a) ⟨_, Heap.get?_push_size _ rfl, rfl, rfl⟩ dat1 ?_)
  have hlt : a < s1.heap.objs.size := Heap.lt_size ho
  have hsz : (s1.heap.push { cls := .type "dict_values", data := .fields #[.ref a] }).objs.size = s1.heap.objs.size + 1 := Heap.size_push _ _
  refine ⟨_, _, _, _, _, _, (fun i => is.getD i 0), rfl, Walks.dictValues (knd := mixKind X.prog X.w) (A := X.A.in1) (I.ok.hd hc) (s1.heap.push { cls := .type "dict_values", data := .fields #[.ref a] }).objs.size a (by rw [hsz]; exact Nat.ne_of_lt (Nat.lt_succ_of_lt hlt)) vs ep,
    ⟨⟨_, Heap.get?_push_size _ rfl, rfl, rfl⟩, dat1.keep fun b u e => Heap.get?_push_of_some _ e⟩, fun b hb => ?_, hval, fun h' tk t' hk => ?_⟩
  · show b < ((s1.heap.push _).push _).objs.size
    rw [Heap.size_push, Heap.size_push]
    rw [hsz] at hb
    rcases List.mem_cons.mp hb with e | hb
    · rw [e]
      exact Nat.lt_succ_self _
    · have e : b = a := List.mem_singleton.mp hb
      rw [e]
      exact Nat.lt_succ_of_lt (Nat.lt_succ_of_lt hlt)
  · have es : preSum (fun i => is.getD i 0) vs.length = is.sum := by rw [preSum_take, hlv, List.take_length]
    rw [es]
    refine ⟨.int _, H1, I1.kept (t' := tk) fun b u e => hk b u (fun hmem => ?_) (Heap.get?_push_of_some _ (k1 b u e)), ⟨_, rfl⟩, q⟩
    have e1 : b = (s1.heap.push { cls := .type "dict_values", data := .fields #[.ref a] }).objs.size := List.mem_singleton.mp hmem
    have e2 := Heap.lt_size e
    rw [hsz] at e1
    rw [e1] at e2
    exact absurd e2 (Nat.not_lt.mpr (Nat.le_succ _))
/-! ### names -/
def small (c : Nat) : Bool := decide (97 ≤ c) && decide (c ≤ 122)
def nameB : V → Bool
  | .str z => decide (1 ≤ z.length) && decide (z.length ≤ 8) && z.cps.toList.all small
  | _ => false
theorem letters : (Str.ofString "abcdefghijklmnopqrstuvwxyz").cps.toList = List.range' 97 26 := by decide +kernel
theorem small_mem (c : Nat) : decide (c ∈ (Str.ofString "abcdefghijklmnopqrstuvwxyz").cps.toList) = small c := by
  rw [letters]
  unfold small
  rw [Bool.eq_iff_iff, decide_eq_true_iff, List.mem_range'_1, Bool.and_eq_true, decide_eq_true_iff, decide_eq_true_iff]
  omega
theorem joinL_nil : ∀ l : List (List Nat), TL.joinL [] l = l.flatten
  | [] => rfl
  | [p] => by simp [TL.joinL]
  | p :: q :: r => by
    show p ++ ([] ++ TL.joinL [] (q :: r)) = _
    rw [joinL_nil (q :: r)]
    rfl
theorem join_codes (ys : List Str) : (Txt.join (Str.ofString "") ys).cps.toList = (ys.map fun y => y.cps.toList).flatten := by
  rw [TL.join_eq]
  have h := TL.tl_join (Str.ofString "") ys
  have e : TL.tl (Str.ofString "") = [] := by decide +kernel
  rw [e, joinL_nil] at h
  exact h
theorem flat_len : ∀ (ys : List Str), (∀ y ∈ ys, y.length = 1) → (ys.map fun y => y.cps.toList).flatten.length = ys.length
  | [], _ => rfl
  | y :: ys, h => by
    rw [List.map_cons, List.flatten_cons, List.length_append, flat_len ys fun z hz => h z (List.mem_cons_of_mem _ hz), Array.length_toList, List.length_cons]
    have : y.cps.size = 1 := h y List.mem_cons_self
    omega
theorem sum_len : ∀ (ys : List Str), (∀ y ∈ ys, y.length = 1) → (ys.map fun y => y.length).sum = ys.length
  | [], _ => rfl
  | y :: ys, h => by
    rw [List.map_cons, List.sum_cons, sum_len ys fun z hz => h z (List.mem_cons_of_mem _ hz), h y List.mem_cons_self, List.length_cons]
    omega
/-- a name -/
structure Nm (z : Str) : Prop where
  l1 : 1 ≤ z.length
  l8 : z.length ≤ 8
  al : ∀ c ∈ z.cps.toList, small c = true
theorem Nm.b {z : Str} (h : Nm z) : nameB (.str z) = true := by
  show (decide (1 ≤ z.length) && decide (z.length ≤ 8) && z.cps.toList.all small) = true
  rw [decide_eq_true h.l1, decide_eq_true h.l8, List.all_eq_true.mpr h.al]
  rfl
/-! ### stores -/
def sd (kvs : List (Str × Int)) : List (Key × V) := kvs.map fun p => (Sum.inr p.1, V.int p.2)
def wsum (kvs : List (Str × Int)) : Int := (kvs.map (·.2)).sum
structure Kv (kvs : List (Str × Int)) : Prop where
  nd : (kvs.map (·.1)).Nodup
  nm : ∀ p ∈ kvs, Nm p.1
  w1 : ∀ p ∈ kvs, 1 ≤ p.2
  w2 : ∀ p ∈ kvs, p.2 ≤ 10 ^ 70
theorem sd_vals (kvs : List (Str × Int)) : (sd kvs).map (·.2) = (kvs.map (·.2)).map V.int := by
  unfold sd
  rw [List.map_map, List.map_map]
  rfl
theorem sd_keys (kvs : List (Str × Int)) : (sd kvs).map (·.1) = (kvs.map (·.1)).map Sum.inr := by
  unfold sd
  rw [List.map_map, List.map_map]
  rfl
theorem sd_len (kvs : List (Str × Int)) : (sd kvs).length = kvs.length := List.length_map ..
def putS (kvs : List (Str × Int)) (z : Str) (w : Int) : List (Str × Int) := if z ∈ kvs.map (·.1) then kvs.map fun p => if p.1 = z then (p.1, w) else p else kvs ++ [(z, w)]
theorem put_sd (kvs : List (Str × Int)) (z : Str) (w : Int) : putK (sd kvs) (Sum.inr z) (V.int w) = sd (putS kvs z w) := by
  have e : ((sd kvs).any fun kv => decide (kv.1 = (Sum.inr z : Key))) = decide (z ∈ kvs.map (·.1)) := by
    rw [Bool.eq_iff_iff, List.any_eq_true, decide_eq_true_iff]
    unfold sd
    constructor
    · rintro ⟨kv, hkv, hk⟩
      obtain ⟨p, hp, rfl⟩ := List.mem_map.mp hkv
      have := of_decide_eq_true hk
      exact List.mem_map.mpr ⟨p, hp, Sum.inr.inj this⟩
    · intro h
      obtain ⟨p, hp, rfl⟩ := List.mem_map.mp h
      exact ⟨_, List.mem_map.mpr ⟨p, hp, rfl⟩, decide_eq_true rfl⟩
  unfold putK putS
  rw [e]
  by_cases h : z ∈ kvs.map (·.1)
  · rw [decide_eq_true h, if_pos rfl, if_pos h]
    unfold sd
    rw [List.map_map, List.map_map]
    refine List.map_congr_left fun p hp => ?_
    show (if (Sum.inr p.1 : Key) = Sum.inr z then _ else _) = _
    by_cases hz : p.1 = z
    · rw [if_pos (by rw [hz])]
      show _ = ((Sum.inr (if p.1 = z then (p.1, w) else p).1 : Key), V.int (if p.1 = z then (p.1, w) else p).2)
      rw [if_pos hz]
    · rw [if_neg (fun e => hz (Sum.inr.inj e))]
      show _ = ((Sum.inr (if p.1 = z then (p.1, w) else p).1 : Key), V.int (if p.1 = z then (p.1, w) else p).2)
      rw [if_neg hz]
  · rw [decide_eq_false h, if_neg Bool.false_ne_true, if_neg h]
    unfold sd
    rw [List.map_append]
    rfl
theorem Kv.put {kvs : List (Str × Int)} {z : Str} {w : Int} (h : Kv kvs) (hz : Nm z) (h1 : 1 ≤ w) (h2 : w ≤ 10 ^ 70) : Kv (putS kvs z w) ∧ (putS kvs z w).length ≤ kvs.length + 1 := by
  unfold putS
  by_cases hm : z ∈ kvs.map (·.1)
  · rw [if_pos hm]
    have ek : (kvs.map fun p => if p.1 = z then (p.1, w) else p).map (·.1) = kvs.map (·.1) := by
      rw [List.map_map]
      refine List.map_congr_left fun p _ => ?_
      show (if p.1 = z then (p.1, w) else p).1 = p.1
      split <;> rfl
    have mem : ∀ q ∈ (kvs.map fun p => if p.1 = z then (p.1, w) else p), (∃ p ∈ kvs, q.1 = p.1) ∧ (q.2 = w ∨ q ∈ kvs) := by
      intro q hq
      obtain ⟨p, hp, rfl⟩ := List.mem_map.mp hq
      by_cases e : p.1 = z
      · rw [if_pos e]
        exact ⟨⟨p, hp, rfl⟩, .inl rfl⟩
      · rw [if_neg e]
        exact ⟨⟨p, hp, rfl⟩, .inr hp⟩
    refine ⟨⟨by rw [ek]; exact h.nd, fun q hq => ?_, fun q hq => ?_, fun q hq => ?_⟩, by rw [List.length_map]; omega⟩
    · obtain ⟨⟨p, hp, e⟩, _⟩ := mem q hq
      rw [e]
      exact h.nm p hp
    · rcases (mem q hq).2 with e | e
      · omega
      · exact h.w1 q e
    · rcases (mem q hq).2 with e | e
      · omega
      · exact h.w2 q e
  · rw [if_neg hm]
    refine ⟨⟨?_, fun q hq => ?_, fun q hq => ?_, fun q hq => ?_⟩, by rw [List.length_append]; exact Nat.le_refl _⟩
    · rw [List.map_append]
      refine List.nodup_append.mpr ⟨h.nd, by simp, fun a ha b hb e => ?_⟩
      have e2 : b = z := by simpa using hb
      rw [e, e2] at ha
      exact hm ha
    · rcases List.mem_append.mp hq with e | e
      · exact h.nm q e
      · rw [List.mem_singleton.mp e]; exact hz
    · rcases List.mem_append.mp hq with e | e
      · exact h.w1 q e
      · rw [List.mem_singleton.mp e]; exact h1
    · rcases List.mem_append.mp hq with e | e
      · exact h.w2 q e
      · rw [List.mem_singleton.mp e]; exact h2
theorem Kv.nil : Kv [] := ⟨List.nodup_nil, (fun _ h => nomatch h), (fun _ h => nomatch h), (fun _ h => nomatch h)⟩
theorem wsum_nonneg : ∀ {kvs : List (Str × Int)}, (∀ p ∈ kvs, 1 ≤ p.2) → 0 ≤ wsum kvs
  | [], _ => Int.le_refl _
  | p :: r, h => by
    have := wsum_nonneg (kvs := r) fun q hq => h q (List.mem_cons_of_mem _ hq)
    have := h p List.mem_cons_self
    unfold wsum at *
    rw [List.map_cons, List.sum_cons]
    omega
theorem wsum_le : ∀ {kvs : List (Str × Int)}, (∀ p ∈ kvs, p.2 ≤ 10 ^ 70) → wsum kvs ≤ kvs.length * 10 ^ 70
  | [], _ => Int.le_refl _
  | p :: r, h => by
    have := wsum_le (kvs := r) fun q hq => h q (List.mem_cons_of_mem _ hq)
    have := h p List.mem_cons_self
    unfold wsum at *
    rw [List.map_cons, List.sum_cons, List.length_cons]
    omega
/-- stores, None as none -/
inductive StV (H : Hp) : V → Int → Prop
  | non : StV H .non 0
  | dict {d : Addr} {kvs : List (Str × Int)} : H d = some (.dK (sd kvs)) → Kv kvs → kvs.length ≤ 8 → StV H (.ref d) (wsum kvs)
theorem StV.mono {H H' : Hp} {v : V} {k : Int} (h : StV H v k) (s : Same H H') : StV H' v k := by
  cases h with
  | non => exact .non
  | dict e k l => exact .dict (s _ _ e) k l
theorem StV.bd {H : Hp} {v : V} {k : Int} (h : StV H v k) : 0 ≤ k ∧ k ≤ 10 ^ 71 := by
  cases h with
  | non => exact ⟨by omega, by omega⟩
  | dict e k l =>
    have := wsum_nonneg k.w1
    have := wsum_le k.w2
    constructor
    · omega
    · omega
/-- d != {} -/
def rNeE : R2 := fun x y H Q => ∃ (a b : Addr) (ks : List (Key × V)), x = .ref a ∧ y = .ref b ∧ H a = some (.dK ks) ∧ H b = some (.dK []) ∧ Q (.bl (!ks.isEmpty)) H
theorem op_neE {X : Cx} (hu : X.A.units < cLine) : OpR X (compareOp .NotEq) rNeE := by
  intro pins s σ H x y v u Q I rx ry h
  obtain ⟨a, b, ks, rfl, rfl, ea, eb, q⟩ := h
  obtain rfl : v = Value.ref a := rx
  obtain rfl : u = Value.ref b := ry
  obtain ⟨_, ya, va, ra, da⟩ := (show ObjOk X.prog X.w H s.heap a (.dK ks) from I.hok a _ ea)
  obtain ⟨_, yb, vb, rb, db⟩ := (show ObjOk X.prog X.w H s.heap b (.dK []) from I.hok b _ eb)
  have l1 : va.length = ks.length := ra.length.symm
  have l2 : vb.length = 0 := by
    have := rb.length
    simpa using this.symm
  refine PySem.W.keq_ne (knd := mixKind X.prog X.w) (r := true) ya yb da db hu (fun hl => ?_) (fin_bl I q ?_)
  · have : ks = [] := List.length_eq_zero_iff.mp (by omega)
    subst this
    exact hits_all rb ra fun p hp => nomatch hp
  · rw [l1, l2]
    cases ks <;> simp
end LT
set_option Elab.async false
set_option linter.all false
set_option maxRecDepth 100000
set_option maxHeartbeats 1600000
/-! Own layer: x != y, x an own thing with __eq__, y any thing. -/
namespace LT
open PySem PySem.Spec PyProof.Rows L2 NdefX
end LT
set_option Elab.async false
set_option linter.all false
set_option maxRecDepth 100000
set_option maxHeartbeats 1600000
/-! Own layer: slices as take and drop. -/
namespace LT
open PySem PySem.Spec PyProof.Rows L2 NdefX
theorem sIx_pos {n d : Nat} {i : Int} (h : 0 ≤ i) : HT.sIx n d (some i) = min i.toNat n := by
  show (if i < 0 then (i + (n : Int)).toNat else min i.toNat n) = min i.toNat n
  rw [if_neg (by omega)]
theorem cut_drop {α : Type} (f : α → V) (xs : List α) {i : Int} (h : 0 ≤ i) : cutV (xs.map f) (some i) none = (xs.drop i.toNat).map f := by
  unfold cutV
  rw [HT.sIx_none, sIx_pos h, List.length_map, ← List.map_drop, ← List.map_take]
  congr 1
  by_cases hi : i.toNat ≤ xs.length
  · rw [Nat.min_eq_left hi, List.take_of_length_le (by rw [List.length_drop]; exact Nat.le_refl _)]
  · rw [Nat.min_eq_right (by omega), Nat.sub_self, List.take_zero, List.drop_eq_nil_of_le (by omega)]
end LT
set_option Elab.async false
set_option linter.all false
set_option maxRecDepth 100000
set_option maxHeartbeats 1600000
/-! Own layer: dicts as lists of pairs of keys and worths of any kind; walks over locked dicts. -/
namespace LT
open PySem PySem.Spec PyProof.Rows L2 NdefX
section
variable {κ α : Type} [DecidableEq κ]
def getA (kvs : List (κ × α)) (k : κ) : Option α := (kvs.find? fun p => decide (p.1 = k)).map (·.2)
def putA (kvs : List (κ × α)) (k : κ) (v : α) : List (κ × α) := if (kvs.any fun p => decide (p.1 = k)) = true then kvs.map (fun p => if p.1 = k then (p.1, v) else p) else kvs ++ [(k, v)]
def enA (g : κ → Key) (f : α → V) (kvs : List (κ × α)) : List (Key × V) := kvs.map fun p => (g p.1, f p.2)
theorem getA_nil {k : κ} : getA ([] : List (κ × α)) k = none := rfl
theorem getA_pos {p : κ × α} {r : List (κ × α)} {k : κ} (e : p.1 = k) : getA (p :: r) k = some p.2 := by simp [getA, List.find?_cons, e]
theorem getA_neg {p : κ × α} {r : List (κ × α)} {k : κ} (e : ¬ p.1 = k) : getA (p :: r) k = getA r k := by simp [getA, List.find?_cons, e]
theorem getA_any (k : κ) : ∀ kvs : List (κ × α), (kvs.any fun p => decide (p.1 = k)) = (getA kvs k).isSome
  | [] => rfl
  | p :: r => by
    rw [List.any_cons]
    by_cases e : p.1 = k
    · rw [decide_eq_true e, getA_pos e]; rfl
    · rw [decide_eq_false e, getA_neg e, getA_any k r]; rfl
theorem getA_none_iff {k : κ} : ∀ {kvs : List (κ × α)}, getA kvs k = none ↔ k ∉ kvs.map (·.1)
  | [] => by simp [getA_nil]
  | p :: r => by
    by_cases e : p.1 = k
    · rw [getA_pos e]; simp [e]
    · rw [getA_neg e, getA_none_iff, List.map_cons, List.mem_cons]
      constructor
      · intro h h2
        rcases h2 with rfl | h2
        · exact e rfl
        · exact h h2
      · exact fun h h2 => h (.inr h2)
theorem getA_mem {k : κ} {v : α} : ∀ {kvs : List (κ × α)}, getA kvs k = some v → (k, v) ∈ kvs
  | [], h => nomatch h
  | p :: r, h => by
    by_cases e : p.1 = k
    · rw [getA_pos e] at h
      cases h
      subst e
      exact List.mem_cons_self
    · rw [getA_neg e] at h
      exact List.mem_cons_of_mem _ (getA_mem h)
theorem getA_of_mem {k : κ} {v : α} : ∀ {kvs : List (κ × α)}, (kvs.map (·.1)).Nodup → (k, v) ∈ kvs → getA kvs k = some v
  | [], _, h => nomatch h
  | p :: r, nd, h => by
    rw [List.map_cons, List.nodup_cons] at nd
    rcases List.mem_cons.mp h with rfl | h
    · exact getA_pos rfl
    · rw [getA_neg (fun e => nd.1 (e ▸ List.mem_map.mpr ⟨_, h, rfl⟩))]
      exact getA_of_mem nd.2 h
theorem val_en {g : κ → Key} {f : α → V} (hg : ∀ a b, g a = g b → a = b) (k : κ) : ∀ kvs : List (κ × α), valV (enA g f kvs) (g k) = (getA kvs k).map f
  | [] => rfl
  | p :: r => by
    show valV ((g p.1, f p.2) :: enA g f r) (g k) = _
    by_cases e : p.1 = k
    · rw [valV_pos (by rw [e]), getA_pos e]; rfl
    · rw [valV_neg (fun z => e (hg _ _ z)), getA_neg e, val_en hg k r]
theorem put_en {g : κ → Key} {f : α → V} (hg : ∀ a b, g a = g b → a = b) (kvs : List (κ × α)) (k : κ) (v : α) : putK (enA g f kvs) (g k) (f v) = enA g f (putA kvs k v) := by
  have e : ((enA g f kvs).any fun kv => decide (kv.1 = g k)) = (kvs.any fun p => decide (p.1 = k)) := by
    rw [valV_any, val_en hg, getA_any]
    cases getA kvs k <;> rfl
  unfold putK putA
  rw [e]
  split
  · unfold enA
    rw [List.map_map, List.map_map]
    refine List.map_congr_left fun p _ => ?_
    show (if g p.1 = g k then (g p.1, f v) else (g p.1, f p.2)) = (g (if p.1 = k then (p.1, v) else p).1, f (if p.1 = k then (p.1, v) else p).2)
    by_cases h : p.1 = k
    · rw [if_pos (by rw [h]), if_pos h]
    · rw [if_neg (fun z => h (hg _ _ z)), if_neg h]
  · unfold enA
    rw [List.map_append]
    rfl
theorem putA_new {kvs : List (κ × α)} {k : κ} {v : α} (h : getA kvs k = none) : putA kvs k v = kvs ++ [(k, v)] := by
  unfold putA
  rw [getA_any, h]
  rfl
theorem map_miss {k : κ} {v : α} : ∀ {kvs : List (κ × α)}, k ∉ kvs.map (·.1) → kvs.map (fun p => if p.1 = k then (p.1, v) else p) = kvs
  | [], _ => rfl
  | p :: r, h => by
    rw [List.map_cons, List.mem_cons, not_or] at h
    rw [List.map_cons, if_neg (fun e => h.1 e.symm), map_miss h.2]
theorem putA_mid {q rs : List (κ × α)} {k : κ} {r v : α} (h1 : k ∉ q.map (·.1)) (h2 : k ∉ rs.map (·.1)) : putA (q ++ (k, r) :: rs) k v = q ++ (k, v) :: rs := by
  unfold putA
  rw [if_pos (List.any_eq_true.mpr ⟨(k, r), List.mem_append.mpr (.inr List.mem_cons_self), decide_eq_true rfl⟩), List.map_append, List.map_cons, map_miss h1, map_miss h2, if_pos rfl]
theorem getA_app {k : κ} : ∀ {q rs : List (κ × α)}, k ∉ q.map (·.1) → getA (q ++ rs) k = getA rs k
  | [], _, _ => rfl
  | p :: q, rs, h => by
    rw [List.map_cons, List.mem_cons, not_or] at h
    rw [List.cons_append, getA_neg (fun e => h.1 e.symm), getA_app h.2]
theorem getA_map (k j : κ) (y : α) : ∀ kvs : List (κ × α), getA (kvs.map fun p => if p.1 = k then (p.1, y) else p) j = (getA kvs j).map fun x => if j = k then y else x
  | [] => rfl
  | p :: r => by
    rw [List.map_cons]
    by_cases e : p.1 = k
    · rw [if_pos e]
      by_cases h : p.1 = j
      · rw [getA_pos (p := (p.1, y)) h, getA_pos h, Option.map_some, if_pos (by rw [← h, e])]
      · rw [getA_neg (p := (p.1, y)) h, getA_neg h, getA_map k j y r]
    · rw [if_neg e]
      by_cases h : p.1 = j
      · rw [getA_pos h, getA_pos h, Option.map_some, if_neg (fun z => e (h.trans z))]
      · rw [getA_neg h, getA_neg h, getA_map k j y r]
theorem getA_put (kvs : List (κ × α)) (k j : κ) (y : α) : getA (putA kvs k y) j = if j = k then some y else getA kvs j := by
  by_cases h : getA kvs k = none
  · rw [putA_new h]
    by_cases e : j = k
    · rw [if_pos e, e, getA_app (getA_none_iff.mp h), getA_pos rfl]
    · rw [if_neg e]
      by_cases hj : getA kvs j = none
      · rw [getA_app (getA_none_iff.mp hj), getA_neg (fun z => e z.symm), hj]; rfl
      · obtain ⟨v, hv⟩ := Option.ne_none_iff_exists'.mp hj
        rw [hv]
        clear h hj
        induction kvs with
        | nil => cases hv
        | cons p r ih =>
          by_cases hp : p.1 = j
          · rw [getA_pos hp] at hv
            rw [List.cons_append, getA_pos hp, hv]
          · rw [getA_neg hp] at hv
            rw [List.cons_append, getA_neg hp, ih hv]
  · obtain ⟨v, hv⟩ := Option.ne_none_iff_exists'.mp h
    unfold putA
    rw [getA_any, hv]
    simp only [Option.isSome_some, if_true]
    rw [getA_map]
    by_cases e : j = k
    · rw [if_pos e, e, hv]; simp
    · rw [if_neg e]
      cases getA kvs j <;> simp [e]
theorem keys_put {kvs : List (κ × α)} {k : κ} {v : α} : (putA kvs k v).map (·.1) = if k ∈ kvs.map (·.1) then kvs.map (·.1) else kvs.map (·.1) ++ [k] := by
  by_cases h : k ∈ kvs.map (·.1)
  · rw [if_pos h]
    unfold putA
    rw [if_pos]
    · rw [List.map_map]
      refine List.map_congr_left fun p _ => ?_
      show (if p.1 = k then (p.1, v) else p).1 = p.1
      split <;> rfl
    · obtain ⟨p, hp, rfl⟩ := List.mem_map.mp h
      exact List.any_eq_true.mpr ⟨p, hp, decide_eq_true rfl⟩
  · rw [if_neg h, putA_new (getA_none_iff.mpr h), List.map_append]
    rfl
theorem nodup_put {kvs : List (κ × α)} {k : κ} {v : α} (h : (kvs.map (·.1)).Nodup) : ((putA kvs k v).map (·.1)).Nodup := by
  rw [keys_put]
  split
  · exact h
  · rename_i hk
    rw [List.nodup_append]
    refine ⟨h, List.nodup_cons.mpr ⟨nofun, List.nodup_nil⟩, fun a ha b hb => ?_⟩
    rw [List.mem_singleton.mp hb]
    rintro rfl
    exact hk ha
theorem putA_len {kvs : List (κ × α)} {k : κ} {v : α} : (putA kvs k v).length ≤ kvs.length + 1 := by
  unfold putA
  split
  · rw [List.length_map]; omega
  · rw [List.length_append]; exact Nat.le_refl _
theorem mem_put {kvs : List (κ × α)} {k : κ} {v : α} {p : κ × α} (h : p ∈ putA kvs k v) : p = (k, v) ∨ p ∈ kvs := by
  unfold putA at h
  split at h
  · obtain ⟨q, hq, rfl⟩ := List.mem_map.mp h
    by_cases e : q.1 = k
    · rw [if_pos e]; exact .inl (by rw [e])
    · rw [if_neg e]; exact .inr hq
  · rcases List.mem_append.mp h with h | h
    · exact .inr h
    · exact .inl (List.mem_singleton.mp h)
end
theorem inr_inj : ∀ a b : Str, (Sum.inr a : Key) = Sum.inr b → a = b := fun _ _ e => Sum.inr.inj e
/-- a statement that lets nothing out -/
theorem PS.nox {X : Cx} {st : Stmt} {t : TS} (h : PS X.nox st t) : PS X st t := ⟨fun pins s σ H D I hw =>
  wpAny_mono (h.run pins s σ H D (I.wish _) hw) (fun _ _ q => q.unwish) fun _ _ z => False.elim z⟩
/-- two ways joined -/
theorem joinA {α : Type} {J : α → Hp → Prop} {sl : α → L2.St} {rest : L2.St → Hp → Prop} {goal : Prop} (k : (∀ a Hx, J a Hx → rest (sl a) Hx) → goal) (h : ∀ a Hx, J a Hx → rest (sl a) Hx) : goal := k h
/-! ### walks over locked dicts -/
theorem lock_back {H Hx : Hp} {d : Addr} {u : HO} {od : Obj} (hd : H d = some u) (s : Same (upd H d (.frz od u)) Hx) : Same H (upd Hx d u) := fun b o e => by
  by_cases hb : b = d
  · subst hb
    rw [upd_same, ← e, hd]
  · rw [upd_ne hb]
    exact s _ _ (by rw [upd_ne hb]; exact e)
end LT
set_option Elab.async false
set_option linter.all false
set_option maxRecDepth 100000
set_option maxHeartbeats 1600000
/-! Own layer: comprehensions within comprehensions, dict comprehensions, tables of rows (dicts from letters to numbers). -/
namespace LT
open PySem PySem.Spec PyProof.Rows L2 NdefX
/-! ### comprehensions within comprehensions -/
/-! ### rows and tables -/
abbrev KRow := List (Str × Int)
abbrev KTab := List KRow
/-- one small letter -/
def Ltr (z : Str) : Prop := ∃ c, small c = true ∧ z = ⟨#[c]⟩
def letts : List Str := (List.range' 97 26).map fun c => ⟨#[c]⟩
theorem Ltr.mem {z : Str} (h : Ltr z) : z ∈ letts := by
  obtain ⟨c, hc, rfl⟩ := h
  unfold small at hc
  rw [Bool.and_eq_true, decide_eq_true_eq, decide_eq_true_eq] at hc
  refine List.mem_map.mpr ⟨c, ?_, rfl⟩
  rw [List.mem_range'_1]
  omega
theorem letts_few {zs : List Str} (nd : zs.Nodup) (h : ∀ z ∈ zs, Ltr z) : zs.length ≤ 26 := by
  have := List.Nodup.length_le_of_subset nd (fun z hz => (h z hz).mem)
  simpa [letts] using this
structure KRw (n : Nat) (r : KRow) : Prop where
  ne : r ≠ []
  nd : (r.map (·.1)).Nodup
  lt : ∀ p ∈ r, Ltr p.1
  bd : ∀ p ∈ r, 0 ≤ p.2 ∧ p.2 < n
theorem KRw.len {n : Nat} {r : KRow} (h : KRw n r) : r.length ≤ 26 := by
  have := letts_few h.nd (fun z hz => by
    obtain ⟨p, hp, rfl⟩ := List.mem_map.mp hz
    exact h.lt p hp)
  simpa using this
theorem KRw.mono {n m : Nat} {r : KRow} (h : KRw n r) (l : n ≤ m) : KRw m r := ⟨h.ne, h.nd, h.lt, fun p hp => by have := h.bd p hp; omega⟩
theorem KRw.get {n : Nat} {r : KRow} {z : Str} {v : Int} (h : KRw n r) (e : getA r z = some v) : 0 ≤ v ∧ v < n := h.bd _ (getA_mem e)
theorem KRw.put {n : Nat} {r : KRow} {z : Str} {v : Int} (h : KRw n r) (hz : Ltr z) (h0 : 0 ≤ v) (h1 : v < n) : KRw n (putA r z v) := by
  refine ⟨fun e => ?_, nodup_put h.nd, fun p hp => ?_, fun p hp => ?_⟩
  · have : getA (putA r z v) z = some v := by rw [getA_put, if_pos rfl]
    rw [e] at this
    cases this
  · rcases mem_put hp with rfl | hp
    · exact hz
    · exact h.lt p hp
  · rcases mem_put hp with rfl | hp
    · exact ⟨h0, h1⟩
    · exact h.bd p hp
structure KTb (t : KTab) : Prop where
  l1 : 1 ≤ t.length
  l2 : t.length ≤ 1000
  rw : ∀ r ∈ t, KRw t.length r
theorem KTb.at_ {t : KTab} (h : KTb t) {i : Nat} {r : KRow} (e : t[i]? = some r) : KRw t.length r := h.rw r (List.mem_of_getElem? e)
/-- the rows stand -/
structure KRows (H : Hp) (ds : List Addr) (t : KTab) : Prop where
  len : ds.length = t.length
  at_ : ∀ (i : Nat) (d : Addr) (r : KRow), ds[i]? = some d → t[i]? = some r → H d = some (.dK (sd r))
theorem KRows.nil {H : Hp} : KRows H [] [] := ⟨rfl, fun i d r h => by simp at h⟩
theorem KRows.get {H : Hp} {ds : List Addr} {t : KTab} (h : KRows H ds t) {i : Nat} (hi : i < t.length) : ∃ d r, ds[i]? = some d ∧ t[i]? = some r ∧ H d = some (.dK (sd r)) := by
  have h2 : i < ds.length := by rw [h.len]; exact hi
  exact ⟨ds[i], t[i], List.getElem?_eq_getElem h2, List.getElem?_eq_getElem hi, h.at_ i _ _ (List.getElem?_eq_getElem h2) (List.getElem?_eq_getElem hi)⟩
theorem KRows.by {H H' : Hp} {ds : List Addr} {t : KTab} (h : KRows H ds t) (f : ∀ d ∈ ds, ∀ r, H d = some (.dK (sd r)) → H' d = some (.dK (sd r))) : KRows H' ds t :=
  ⟨h.len, fun i d r h1 h2 => f d (List.mem_of_getElem? h1) r (h.at_ i d r h1 h2)⟩
theorem KRows.mono {H H' : Hp} {ds : List Addr} {t : KTab} (h : KRows H ds t) (s : Same H H') : KRows H' ds t := h.by fun d _ r e => s _ _ e
theorem KRows.mem {H : Hp} {ds : List Addr} {t : KTab} (h : KRows H ds t) {d : Addr} (hd : d ∈ ds) : ∃ r, H d = some (.dK (sd r)) := by
  obtain ⟨i, hi, rfl⟩ := List.mem_iff_getElem.mp hd
  have h2 : i < t.length := by rw [← h.len]; exact hi
  exact ⟨_, h.at_ i _ _ (List.getElem?_eq_getElem hi) (List.getElem?_eq_getElem h2)⟩
theorem KRows.upd {H : Hp} {a : Addr} {o : HO} {ds : List Addr} {t : KTab} (h : KRows H ds t) (ha : a ∉ ds) : KRows (L2.upd H a o) ds t := h.by fun d hd r e => by
  have n : d ≠ a := fun z => ha (by rw [← z]; exact hd)
  rw [upd_ne n]
  exact e
theorem KRows.rd {H : Hp} {ds : List Addr} {t : KTab} (h : KRows H ds t) {i : Nat} {v : V} (e : (ds.map V.ref)[i]? = some v) : ∃ d r, v = .ref d ∧ ds[i]? = some d ∧ t[i]? = some r ∧ H d = some (.dK (sd r)) := by
  rw [List.getElem?_map] at e
  cases hd : ds[i]? with
  | none => rw [hd] at e; cases e
  | some d =>
    rw [hd] at e
    cases e
    have hi : i < t.length := by rw [← h.len]; exact (List.getElem?_eq_some_iff.mp hd).1
    exact ⟨d, t[i], rfl, rfl, List.getElem?_eq_getElem hi, h.at_ i d _ hd (List.getElem?_eq_getElem hi)⟩
/-- a table stands at a -/
structure TabAt (H : Hp) (a : Addr) (ds : List Addr) (t : KTab) : Prop where
  ls : H a = some (.lst (ds.map V.ref))
  rows : KRows H ds t
  nd : ds.Nodup
theorem TabAt.mono {H H' : Hp} {a : Addr} {ds : List Addr} {t : KTab} (h : TabAt H a ds t) (s : Same H H') : TabAt H' a ds t := ⟨s _ _ h.ls, h.rows.mono s, h.nd⟩
theorem TabAt.ne {H : Hp} {a d : Addr} {ds : List Addr} {t : KTab} (h : TabAt H a ds t) (hd : d ∈ ds) : d ≠ a := by
  obtain ⟨r, e⟩ := h.rows.mem hd
  exact ne_of e h.ls (by intro z; cases z)
theorem TabAt.item {H : Hp} {a : Addr} {ds : List Addr} {t : KTab} (h : TabAt H a ds t) {i : Int} (h0 : 0 ≤ i) (h1 : i < t.length) : ∃ d r, ds[i.toNat]? = some d ∧ t[i.toNat]? = some r ∧ H d = some (.dK (sd r)) ∧ atI (ds.map V.ref) i = some (.ref d) := by
  obtain ⟨d, r, e1, e2, e3⟩ := h.rows.get (i := i.toNat) (by omega)
  refine ⟨d, r, e1, e2, e3, ?_⟩
  have : i = ((i.toNat : Nat) : Int) := by omega
  rw [this]
  exact atI_nat (by rw [List.getElem?_map, e1]; rfl)
theorem val_row {r : KRow} {z : Str} : valV (sd r) (Sum.inr z) = (getA r z).map V.int := val_en inr_inj z r
/-! ### a row by rising letters -/
def rowOf (r : KRow) (ys : List Str) : KRow := ys.map fun z => (z, (getA r z).getD 0)
def Rise (r r' : KRow) : Prop := ∃ ys, ys.Perm (r.map (·.1)) ∧ sortedS ys = true ∧ r' = rowOf r ys
theorem rowOf_keys (r : KRow) (ys : List Str) : (rowOf r ys).map (·.1) = ys := by
  unfold LT.rowOf
  rw [List.map_map]
  exact List.map_id' ys
theorem getA_some_of {r : KRow} {z : Str} (h : z ∈ r.map (·.1)) : ∃ v, getA r z = some v := by
  cases e : getA r z with
  | some v => exact ⟨v, rfl⟩
  | none => exact absurd h (getA_none_iff.mp e)
theorem Rise.get {r r' : KRow} (h : Rise r r') (nd : (r.map (·.1)).Nodup) (z : Str) : getA r' z = getA r z := by
  obtain ⟨ys, hp, _, rfl⟩ := h
  by_cases hz : z ∈ ys
  · obtain ⟨v, hv⟩ := getA_some_of (hp.mem_iff.mp hz)
    rw [hv]
    refine getA_of_mem (by rw [rowOf_keys]; exact hp.nodup_iff.mpr nd) ?_
    refine List.mem_map.mpr ⟨z, hz, ?_⟩
    rw [hv]
    rfl
  · rw [getA_none_iff.mpr (by rw [rowOf_keys]; exact hz), getA_none_iff.mpr fun h => hz (hp.mem_iff.mpr h)]
theorem Rise.rw {n : Nat} {r r' : KRow} (h : Rise r r') (k : KRw n r) : KRw n r' := by
  have g := h.get k.nd
  obtain ⟨ys, hp, _, rfl⟩ := h
  have hk := rowOf_keys r ys
  have nd : ((rowOf r ys).map (·.1)).Nodup := by rw [hk]; exact hp.nodup_iff.mpr k.nd
  refine ⟨fun e => ?_, nd, fun p hp' => ?_, fun p hp' => ?_⟩
  · have := hp.length_eq
    rw [e] at hk
    rw [← hk] at this
    simp at this
    exact k.ne (List.length_eq_zero_iff.mp this.symm)
  · have : p.1 ∈ r.map (·.1) := hp.mem_iff.mp (hk ▸ List.mem_map.mpr ⟨p, hp', rfl⟩)
    obtain ⟨p2, hp2, e⟩ := List.mem_map.mp this
    rw [← e]
    exact k.lt p2 hp2
  · have := getA_of_mem nd (k := p.1) (v := p.2) hp'
    rw [g] at this
    exact k.get this
/-- every row risen -/
structure RiseT (t t' : KTab) : Prop where
  len : t'.length = t.length
  at_ : ∀ (i : Nat) (r r' : KRow), t[i]? = some r → t'[i]? = some r' → Rise r r'
theorem RiseT.row {t t' : KTab} (h : RiseT t t') {i : Nat} {r : KRow} (e : t[i]? = some r) : ∃ r', t'[i]? = some r' ∧ Rise r r' := by
  have hi : i < t'.length := by rw [h.len]; exact (List.getElem?_eq_some_iff.mp e).1
  exact ⟨t'[i], List.getElem?_eq_getElem hi, h.at_ i r _ e (List.getElem?_eq_getElem hi)⟩
/-! ### isinstance of str, of all sorts of things -/
end LT
namespace LT
open PySem PySem.Spec PyProof.Rows L2 NdefX
/-- a row's letters -/
theorem walk_rowk {d : Addr} {o : Obj} {r : KRow} : Walk (Itk d o (sd r)) r.length (fun H => H d = some (.frz o (.dK (sd r)))) (fun i H x H' => H' = H ∧ ∃ p, r[i]? = some p ∧ x = .str p.1) := by
  refine ⟨fun i H hi q => ⟨q, by rw [sd_len]; exact hi⟩, fun H q => ⟨q, by rw [sd_len]; exact Nat.le_refl _⟩, fun i H x H' hi _ y => ?_⟩
  obtain ⟨rfl, k, v, h1, rfl⟩ := y
  unfold sd at h1
  rw [List.getElem?_map, List.getElem?_eq_getElem hi] at h1
  cases h1
  exact ⟨rfl, r[i], List.getElem?_eq_getElem hi, rfl⟩
theorem rep_succ {α : Type} (i : Nat) (a : α) : List.replicate i a ++ [a] = List.replicate (i + 1) a := by rw [List.replicate_succ']
theorem rep_all (i : Nat) : (List.replicate i true).all id = true := by
  rw [List.all_eq_true]
  intro b hb
  rw [(List.mem_replicate.mp hb).2]
  rfl
end LT
set_option Elab.async false
set_option linter.all false
set_option maxRecDepth 100000
set_option maxHeartbeats 1600000
/-! Own layer: books. What is told of keepers and lights, as a list of what was told; histories; what of them holds. -/
namespace LT
open PySem PySem.Spec PyProof.Rows L2 NdefX
theorem snoc_ind {α : Type} {p : List α → Prop} (h0 : p []) (hs : ∀ l a, p l → p (l ++ [a])) : ∀ l, p l := by
  intro l
  rw [← List.reverse_reverse l]
  induction l.reverse with
  | nil => exact h0
  | cons a r ih =>
    rw [List.reverse_cons]
    exact hs _ _ ih
/-- what a book is told: of a move or of a landing, known, who, day, worth -/
structure Evt where
  mv : Bool
  kn : Int
  who : Str
  day : Int
  w : V
abbrev Told := List (Int × V)
abbrev Hist := List (Int × Told)
def ctK : Option Int → Int → Bool
  | none, _ => true
  | some m, k => decide (k ≤ m)
def knV : Option Int → V
  | none => .non
  | some k => .int k
/-- what was told last, of that which counts -/
def LastW (t : Told) (kn : Option Int) (w : V) : Prop :=
  ((∀ p ∈ t, ctK kn p.1 = false) ∧ w = .non) ∨ ∃ k, getA t k = some w ∧ ctK kn k = true ∧ ∀ p ∈ t, ctK kn p.1 = true → p.1 ≤ k
theorem LastW.uniq {t : Told} {kn : Option Int} {w w' : V} (h : LastW t kn w) (h' : LastW t kn w') : w = w' := by
  rcases h with ⟨a, rfl⟩ | ⟨k, a1, a2, a3⟩
  · rcases h' with ⟨_, rfl⟩ | ⟨k, b1, b2, _⟩
    · rfl
    · have := a _ (getA_mem b1)
      rw [b2] at this
      cases this
  · rcases h' with ⟨b, rfl⟩ | ⟨k', b1, b2, b3⟩
    · have := b _ (getA_mem a1)
      rw [a2] at this
      cases this
    · have e : k = k' := Int.le_antisymm (b3 _ (getA_mem a1) a2) (a3 _ (getA_mem b1) b2)
      subst e
      rw [a1] at b1
      exact Option.some.inj b1
theorem LastW.nil {kn : Option Int} : LastW [] kn .non := .inl ⟨nofun, rfl⟩
def noteH (h : Hist) (kn day : Int) (w : V) : Hist := putA h day (putA ((getA h day).getD []) kn w)
def ofE (mv : Bool) (who : Str) (e : Evt) : Bool := decide (e.mv = mv) && decide (e.who = who)
def stepH (mv : Bool) (who : Str) (h : Hist) (e : Evt) : Hist := if ofE mv who e = true then noteH h e.kn e.day e.w else h
def histE (es : List Evt) (mv : Bool) (who : Str) : Hist := es.foldl (stepH mv who) []
theorem histE_snoc (es : List Evt) (e : Evt) (mv : Bool) (who : Str) : histE (es ++ [e]) mv who = stepH mv who (histE es mv who) e := by
  unfold histE
  rw [List.foldl_append]
  rfl
def heldP (mv : Bool) (who : Str) (kn : Option Int) (day : Int) (e : Evt) : Bool := ofE mv who e && ctK kn e.kn && decide (e.day = day)
def heldO (es : List Evt) (mv : Bool) (who : Str) (kn : Option Int) (day : Int) : Option V := ((es.filter (heldP mv who kn day)).getLast?).map (·.w)
def heldE (es : List Evt) (mv : Bool) (who : Str) (kn : Option Int) (day : Int) : V := (heldO es mv who kn day).getD .non
theorem heldO_snoc (es : List Evt) (e : Evt) (mv : Bool) (who : Str) (kn : Option Int) (day : Int) :
    heldO (es ++ [e]) mv who kn day = if heldP mv who kn day e = true then some e.w else heldO es mv who kn day := by
  unfold heldO
  rw [List.filter_append]
  by_cases h : heldP mv who kn day e = true
  · rw [if_pos h, List.filter_cons_of_pos h, List.filter_nil, List.getLast?_append]
    rfl
  · rw [if_neg h, List.filter_cons_of_neg h, List.filter_nil, List.append_nil]
theorem heldO_mem {es : List Evt} {mv : Bool} {who : Str} {kn : Option Int} {day : Int} {w : V} (h : heldO es mv who kn day = some w) : ∃ e ∈ es, heldP mv who kn day e = true ∧ e.w = w := by
  unfold heldO at h
  rw [Option.map_eq_some_iff] at h
  obtain ⟨e, h1, h2⟩ := h
  have hm := List.mem_of_getLast? h1
  rw [List.mem_filter] at hm
  exact ⟨e, hm.1, hm.2, h2⟩
theorem ofE_iff {mv : Bool} {who : Str} {e : Evt} : ofE mv who e = true ↔ e.mv = mv ∧ e.who = who := by
  unfold ofE
  rw [Bool.and_eq_true, decide_eq_true_iff, decide_eq_true_iff]
theorem heldP_iff {mv : Bool} {who : Str} {kn : Option Int} {day : Int} {e : Evt} : heldP mv who kn day e = true ↔ (e.mv = mv ∧ e.who = who) ∧ ctK kn e.kn = true ∧ e.day = day := by
  unfold heldP
  rw [Bool.and_eq_true, Bool.and_eq_true, ofE_iff, decide_eq_true_iff, and_assoc]
theorem getA_note (h : Hist) (kn day d : Int) (w : V) : getA (noteH h kn day w) d = if d = day then some (putA ((getA h day).getD []) kn w) else getA h d := getA_put _ _ _ _
/-- what stands in a history was told -/
theorem hist_of (mv : Bool) (who : Str) : ∀ es : List Evt, ∀ d t, getA (histE es mv who) d = some t → (t.map (·.1)).Nodup ∧ t.length ≤ es.length ∧ t ≠ [] ∧ ∀ p ∈ t, ∃ e ∈ es, (e.mv = mv ∧ e.who = who) ∧ e.kn = p.1 ∧ e.day = d ∧ e.w = p.2 := by
  refine snoc_ind (fun d t h => by cases h) fun es e ih d t h => ?_
  have old : getA (histE es mv who) d = some t → (t.map (·.1)).Nodup ∧ t.length ≤ (es ++ [e]).length ∧ t ≠ [] ∧ ∀ p ∈ t, ∃ e' ∈ es ++ [e], (e'.mv = mv ∧ e'.who = who) ∧ e'.kn = p.1 ∧ e'.day = d ∧ e'.w = p.2 := fun h => by
    obtain ⟨a, b, n, c⟩ := ih d t h
    refine ⟨a, by rw [List.length_append]; omega, n, fun p hp => ?_⟩
    obtain ⟨e', h1, h2⟩ := c p hp
    exact ⟨e', List.mem_append_left _ h1, h2⟩
  rw [histE_snoc] at h
  unfold stepH at h
  by_cases ho : ofE mv who e = true
  · rw [if_pos ho, getA_note] at h
    by_cases hd : d = e.day
    · rw [if_pos hd] at h
      cases h
      subst hd
      have hi : (((getA (histE es mv who) e.day).getD []).map (·.1)).Nodup ∧ ((getA (histE es mv who) e.day).getD []).length ≤ es.length ∧ ∀ p ∈ (getA (histE es mv who) e.day).getD [], ∃ e' ∈ es, (e'.mv = mv ∧ e'.who = who) ∧ e'.kn = p.1 ∧ e'.day = e.day ∧ e'.w = p.2 := by
        cases hg : getA (histE es mv who) e.day with
        | none => exact ⟨List.nodup_nil, Nat.zero_le _, nofun⟩
        | some t =>
          obtain ⟨a, b, _, c⟩ := ih _ t hg
          exact ⟨a, b, c⟩
      obtain ⟨a, b, c⟩ := hi
      refine ⟨nodup_put a, ?_, ?_, fun p hp => ?_⟩
      · have := putA_len (kvs := (getA (histE es mv who) e.day).getD []) (k := e.kn) (v := e.w)
        rw [List.length_append, List.length_singleton]
        omega
      · intro z
        have := getA_put ((getA (histE es mv who) e.day).getD []) e.kn e.kn e.w
        rw [z, if_pos rfl] at this
        cases this
      · rcases mem_put hp with rfl | hp
        · exact ⟨e, List.mem_append_right _ List.mem_cons_self, ofE_iff.mp ho, rfl, rfl, rfl⟩
        · obtain ⟨e', h1, h2⟩ := c p hp
          exact ⟨e', List.mem_append_left _ h1, h2⟩
    · rw [if_neg hd] at h
      exact old h
  · rw [if_neg ho] at h
    exact old h
theorem hist_keys (mv : Bool) (who : Str) : ∀ es : List Evt, ((histE es mv who).map (·.1)).Nodup ∧ (histE es mv who).length ≤ es.length := by
  refine snoc_ind ⟨List.nodup_nil, Nat.le_refl _⟩ fun es e ih => ?_
  rw [histE_snoc]
  unfold stepH
  have hl : (es ++ [e]).length = es.length + 1 := by rw [List.length_append]; rfl
  rw [hl]
  split
  · refine ⟨nodup_put ih.1, ?_⟩
    have := putA_len (kvs := histE es mv who) (k := e.day) (v := putA ((getA (histE es mv who) e.day).getD []) e.kn e.w)
    have := ih.2
    unfold noteH
    omega
  · exact ⟨ih.1, by have := ih.2; omega⟩
abbrev Rising (es : List Evt) : Prop := es.Pairwise fun a b => a.kn ≤ b.kn
/-- what holds, by rising days -/
structure HoldF (f : Int → V) (L : List (Int × V)) : Prop where
  up : L.Pairwise fun a b => a.1 < b.1
  mem : ∀ d w, (d, w) ∈ L ↔ w ≠ .non ∧ f d = w
theorem HoldF.uniq {f : Int → V} : ∀ {L L' : List (Int × V)}, HoldF f L → HoldF f L' → L = L' := by
  intro L
  induction L generalizing f with
  | nil =>
    intro L' h h'
    cases L' with
    | nil => rfl
    | cons p r => exact nomatch (h.mem p.1 p.2).mpr ((h'.mem p.1 p.2).mp List.mem_cons_self)
  | cons p r ih =>
    intro L' h h'
    cases L' with
    | nil => exact nomatch (h'.mem p.1 p.2).mpr ((h.mem p.1 p.2).mp List.mem_cons_self)
    | cons p' r' =>
      have u := List.pairwise_cons.mp h.up
      have u' := List.pairwise_cons.mp h'.up
      have hp := (h.mem p.1 p.2).mp List.mem_cons_self
      have hp' := (h'.mem p'.1 p'.2).mp List.mem_cons_self
      have e1 : p.1 = p'.1 := by
        have a : p'.1 ≤ p.1 := by
          rcases List.mem_cons.mp ((h'.mem p.1 p.2).mpr hp) with e | e
          · exact Int.le_of_eq (congrArg Prod.fst e).symm
          · exact Int.le_of_lt (u'.1 _ e)
        have b : p.1 ≤ p'.1 := by
          rcases List.mem_cons.mp ((h.mem p'.1 p'.2).mpr hp') with e | e
          · exact Int.le_of_eq (congrArg Prod.fst e).symm
          · exact Int.le_of_lt (u.1 _ e)
        omega
      have e2 : p.2 = p'.2 := by rw [← hp.2, ← hp'.2, e1]
      have e : p = p' := Prod.ext e1 e2
      subst e
      congr 1
      refine ih (f := fun d => if d = p.1 then .non else f d) ⟨u.2, fun d w => ?_⟩ ⟨u'.2, fun d w => ?_⟩
      · by_cases hd : d = p.1
        · rw [if_pos hd]
          constructor
          · intro hm
            have := u.1 _ hm
            omega
          · rintro ⟨a, b⟩
            exact absurd b.symm a
        · rw [if_neg hd, ← h.mem]
          constructor
          · exact List.mem_cons_of_mem _
          · intro hm
            rcases List.mem_cons.mp hm with e | e
            · exact absurd (congrArg Prod.fst e) hd
            · exact e
      · by_cases hd : d = p.1
        · rw [if_pos hd]
          constructor
          · intro hm
            have := u'.1 _ hm
            omega
          · rintro ⟨a, b⟩
            exact absurd b.symm a
        · rw [if_neg hd, ← h'.mem]
          constructor
          · exact List.mem_cons_of_mem _
          · intro hm
            rcases List.mem_cons.mp hm with e | e
            · exact absurd (congrArg Prod.fst e) hd
            · exact e
/-- where one is on a day, by what holds of each day -/
def IsWhere (f : Int → V) (day : Int) (r : V) : Prop :=
  (∃ on, on ≤ day ∧ f on = r ∧ r ≠ .non ∧ ∀ o, o ≤ day → f o ≠ .non → o ≤ on) ∨ ((∀ o, o ≤ day → f o = .non) ∧ r = .str (Str.ofString ""))
theorem IsWhere.uniq {f : Int → V} {day : Int} {r r' : V} (h : IsWhere f day r) (h' : IsWhere f day r') : r = r' := by
  rcases h with ⟨o, a1, a2, a3, a4⟩ | ⟨a, rfl⟩
  · rcases h' with ⟨o', b1, b2, b3, b4⟩ | ⟨b, rfl⟩
    · have : o = o' := Int.le_antisymm (b4 _ a1 (by rw [a2]; exact a3)) (a4 _ b1 (by rw [b2]; exact b3))
      rw [← a2, ← b2, this]
    · exact absurd (a2.symm.trans (b o a1)) a3
  · rcases h' with ⟨o', b1, b2, b3, b4⟩ | ⟨b, rfl⟩
    · exact absurd (b2.symm.trans (a o' b1)) b3
    · rfl
end LT
set_option Elab.async false
set_option linter.all false
set_option maxRecDepth 100000
set_option maxHeartbeats 1600000
/-! Own layer: a reading told anew; indices. -/
namespace LT
open PySem PySem.Spec PyProof.Rows L2 NdefX
theorem paired_imp {α β : Type} {R S : α → β → Prop} (f : ∀ a b, R a b → S a b) : ∀ {xs : List α} {ys : List β}, Paired R xs ys → Paired S xs ys
  | _, _, .nil => .nil
  | _, _, .cons h t => .cons (f _ _ h) (paired_imp f t)
/-- a row without one letter -/
def dropA (r : KRow) (z : Str) : KRow := r.filter fun p => decide (p.1 ≠ z)
theorem KRw.drop {n : Nat} {r : KRow} {z : Str} (h : KRw n r) (hl : 1 < r.length) : KRw n (dropA r z) := by
  refine ⟨fun e => ?_, ?_, fun p hp => h.lt p (List.mem_filter.mp hp).1, fun p hp => h.bd p (List.mem_filter.mp hp).1⟩
  · have all : ∀ p ∈ r, p.1 = z := by
      intro p hp
      by_cases hz : p.1 = z
      · exact hz
      · have : p ∈ dropA r z := List.mem_filter.mpr ⟨hp, decide_eq_true hz⟩
        rw [e] at this
        cases this
    match r, hl, h.nd, all with
    | a :: b :: r, _, nd, all =>
      rw [List.map_cons, List.map_cons, List.nodup_cons] at nd
      refine nd.1 ?_
      rw [all a List.mem_cons_self, ← all b (List.mem_cons_of_mem _ List.mem_cons_self)]
      exact List.mem_cons_self
  · exact h.nd.sublist (List.Sublist.map _ List.filter_sublist)
end LT
set_option Elab.async false
set_option linter.all false
set_option maxRecDepth 100000
set_option maxHeartbeats 1600000
/-! Own layer: books on the heap. -/
namespace LT
open PySem PySem.Spec PyProof.Rows L2 NdefX
/-- all but what stands at some addresses is as it was -/
def SameL (S : List Addr) (H H' : Hp) : Prop := ∀ b o, b ∉ S → H b = some o → H' b = some o
theorem SameL.of {S : List Addr} {H H' : Hp} (s : Same H H') : SameL S H H' := fun b o _ e => s b o e
theorem SameL.ofB {p : Addr} {S : List Addr} {H H' : Hp} (hp : p ∈ S) (s : SameB p H H') : SameL S H H' := fun b o n e => s b o (fun h => n (h ▸ hp)) e
theorem SameL.trans {S : List Addr} {H H1 H2 : Hp} (a : SameL S H H1) (b : SameL S H1 H2) : SameL S H H2 := fun c o n e => b c o n (a c o n e)
theorem SameL.mono {S T : List Addr} {H H' : Hp} (h : ∀ a ∈ S, a ∈ T) (s : SameL S H H') : SameL T H H' := fun b o n e => s b o (fun z => n (h b z)) e
theorem SameL.upd {S : List Addr} {H H' : Hp} {p : Addr} {o : HO} (hp : p ∈ S) (s : SameL S H H') : SameL S H (L2.upd H' p o) := fun b x n e => by
  rw [upd_ne (fun z : b = p => n (by rw [z]; exact hp))]
  exact s b x n e
/-- what was new may change, too -/
theorem SameL.fresh {S T : List Addr} {H H1 H2 : Hp} (a : SameL S H H1) (b : SameL T H1 H2) (h : ∀ c ∈ T, c ∈ S ∨ H c = none) : SameL S H H2 := fun c o n e => by
  refine b c o (fun z => ?_) (a c o n e)
  rcases h c z with h | h
  · exact n h
  · rw [h] at e
    cases e
theorem SameL.free {S : List Addr} {H H' : Hp} {a : Addr} (s : SameL S H H') (h : H' a = none) (n : a ∉ S) : H a = none := by
  cases e : H a with
  | none => rfl
  | some o =>
    rw [s a o n e] at h
    cases h
/-! ### a heap without what may change -/
def Ho (M : List Addr) (H : Hp) : Hp := fun a => if a ∈ M then none else H a
theorem ho_iff {M : List Addr} {H : Hp} {a : Addr} {o : HO} : Ho M H a = some o ↔ a ∉ M ∧ H a = some o := by
  unfold Ho
  split <;> simp_all
theorem ho_le {M : List Addr} {H : Hp} : Same (Ho M H) H := fun a o e => (ho_iff.mp e).2
theorem ho_step {M M' S : List Addr} {H H' : Hp} (s : SameL S H H') (hs : ∀ a ∈ S, a ∈ M) (hm : ∀ a ∈ M', a ∈ M ∨ H a = none) : Same (Ho M H) (Ho M' H') := fun a o e => by
  obtain ⟨n, e⟩ := ho_iff.mp e
  refine ho_iff.mpr ⟨fun h => ?_, s a o (fun h => n (hs a h)) e⟩
  rcases hm a h with h | h
  · exact n h
  · rw [h] at e
    cases e
theorem ho_in {M : List Addr} {H : Hp} {a : Addr} {o : HO} (n : a ∉ M) (e : H a = some o) : Ho M H a = some o := ho_iff.mpr ⟨n, e⟩
/-! ### histories -/
structure HA where
  x : Addr
  dx : Addr
  D : Addr
  g : List (Int × Addr)
  h : Hist
def HA.fp (a : HA) : List Addr := a.x :: a.D :: a.g.map (·.2)
def toldK (t : Told) : List (Key × V) := enA Sum.inl id t
def dayK (g : List (Int × Addr)) : List (Key × V) := enA Sum.inl V.ref g
def DayR (H : Hp) (p : Int × Addr) (e : Int × Told) : Prop := p.1 = e.1 ∧ H p.2 = some (.dK (toldK e.2))
structure HistAt (C : Addr) (H : Hp) (a : HA) : Prop where
  ix : H a.x = some (.ins C a.dx [("by_day", .ref a.D)])
  bd : H a.D = some (.dK (dayK a.g))
  ta : Paired (DayR H) a.g a.h
  nd : a.fp.Nodup
  nk : (a.h.map (·.1)).Nodup
theorem HistAt.by {C : Addr} {H H' : Hp} {a : HA} (h : HistAt C H a) (f : ∀ c ∈ a.fp, ∀ o, H c = some o → H' c = some o) : HistAt C H' a := by
  refine ⟨f _ List.mem_cons_self _ h.ix, f _ (List.mem_cons_of_mem _ List.mem_cons_self) _ h.bd, ?_, h.nd, h.nk⟩
  have : ∀ {g : List (Int × Addr)} {t : Hist}, (∀ c ∈ g.map (·.2), c ∈ a.fp) → Paired (DayR H) g t → Paired (DayR H') g t := by
    intro g t hg hp
    induction hp with
    | nil => exact .nil
    | cons r _ ih => exact .cons ⟨r.1, f _ (hg _ List.mem_cons_self) _ r.2⟩ (ih fun c hc => hg c (List.mem_cons_of_mem _ hc))
  exact this (fun c hc => List.mem_cons_of_mem _ (List.mem_cons_of_mem _ hc)) h.ta
theorem HistAt.mono {C : Addr} {H H' : Hp} {a : HA} (h : HistAt C H a) (s : Same H H') : HistAt C H' a := h.by fun c _ o e => s c o e
theorem HistAt.monoL {C : Addr} {S : List Addr} {H H' : Hp} {a : HA} (h : HistAt C H a) (s : SameL S H H') (n : ∀ c ∈ a.fp, c ∉ S) : HistAt C H' a := h.by fun c hc o e => s c o (n c hc) e
theorem HistAt.ex {C : Addr} {H : Hp} {a : HA} (h : HistAt C H a) : ∀ c ∈ a.fp, ∃ o, H c = some o := by
  intro c hc
  rcases List.mem_cons.mp hc with rfl | hc
  · exact ⟨_, h.ix⟩
  rcases List.mem_cons.mp hc with rfl | hc
  · exact ⟨_, h.bd⟩
  have : ∀ {g : List (Int × Addr)} {t : Hist}, Paired (DayR H) g t → c ∈ g.map (·.2) → ∃ o, H c = some o := by
    intro g t hp
    induction hp with
    | nil => exact nofun
    | cons r _ ih =>
      intro hc
      rcases List.mem_cons.mp hc with rfl | hc
      · exact ⟨_, r.2⟩
      · exact ih hc
  exact this h.ta hc
theorem putA_old {κ α : Type} [DecidableEq κ] {kvs : List (κ × α)} {k : κ} {v x : α} (h : getA kvs k = some x) : putA kvs k v = kvs.map fun p => if p.1 = k then (p.1, v) else p := by
  unfold putA
  rw [getA_any, h]
  rfl
theorem paired_snoc' {α β : Type} {R : α → β → Prop} : ∀ {xs : List α} {ys : List β} {x : α} {y : β}, Paired R xs ys → R x y → Paired R (xs ++ [x]) (ys ++ [y]) := by
  intro xs ys x y p r
  induction p with
  | nil => exact .cons r .nil
  | cons r' _ ih => exact .cons r' ih
def OKH (a : HA) : Prop := a.h.length ≤ 60 ∧ ∀ e ∈ a.h, e.2.length ≤ 60
theorem OKH.of {es : List Evt} {mv : Bool} {who : Str} {a : HA} (h : a.h = histE es mv who) (hl : es.length ≤ 60) : OKH a := by
  obtain ⟨k1, k2⟩ := hist_keys mv who es
  refine ⟨by rw [h]; omega, fun e he => ?_⟩
  rw [h] at he
  have := (hist_of mv who es e.1 e.2 (getA_of_mem k1 he)).2.1
  omega
/-- tuples of a day and a worth -/
def RowsP (H : Hp) (ts : List Addr) (L : List (Int × V)) : Prop := Paired (fun t (p : Int × V) => H t = some (.tup [.int p.1, p.2])) ts L
theorem RowsP.mono {H H' : Hp} {ts : List Addr} {L : List (Int × V)} (h : RowsP H ts L) (s : Same H H') : RowsP H' ts L := paired_imp (fun _ _ h => s _ _ h) h
theorem RowsP.upd {H : Hp} {ts : List Addr} {L : List (Int × V)} {F : Addr} {xs : List V} {o : HO} (h : RowsP H ts L) (e : H F = some (.lst xs)) : RowsP (L2.upd H F o) ts L := paired_imp (fun t p h => by rw [upd_ne (ne_of h e (by intro z; cases z))]; exact h) h
theorem RowsP.at_ {H : Hp} {ts : List Addr} {L : List (Int × V)} {i : Nat} {v : V} (h : RowsP H ts L) (e : (ts.map V.ref)[i]? = some v) : ∃ t p, v = .ref t ∧ L[i]? = some p ∧ H t = some (.tup [.int p.1, p.2]) := by
  rw [List.getElem?_map, Option.map_eq_some_iff] at e
  obtain ⟨t, e, rfl⟩ := e
  obtain ⟨p, h1, h2⟩ := paired_get h e
  exact ⟨t, p, rfl, h1, h2⟩
/-- a list of them -/
def RowsAt (H : Hp) (l : Addr) (L : List (Int × V)) : Prop := ∃ ts : List Addr, H l = some (.lst (ts.map V.ref)) ∧ RowsP H ts L
theorem RowsAt.mono {H H' : Hp} {l : Addr} {L : List (Int × V)} (h : RowsAt H l L) (s : Same H H') : RowsAt H' l L := by
  obtain ⟨ts, a, b⟩ := h
  exact ⟨ts, s _ _ a, b.mono s⟩
end LT
set_option Elab.async false
set_option linter.all false
set_option maxRecDepth 100000
set_option maxHeartbeats 1600000
/-! Own layer: a book on the heap. -/
namespace LT
open PySem PySem.Spec PyProof.Rows L2 NdefX
structure BA where
  b : Addr
  dx : Addr
  R : Addr
  M : Addr
  L : Addr
  mv : List (Str × HA)
  ld : List (Str × HA)
  rk : List (Str × Int)
  es : List Evt
def hsfp (hs : List (Str × HA)) : List Addr := hs.flatMap fun e => e.2.fp
def hsK (hs : List (Str × HA)) : List (Key × V) := enA Sum.inr (fun a : HA => V.ref a.x) hs
def BA.fp (B : BA) : List Addr := B.b :: B.R :: B.M :: B.L :: (hsfp B.mv ++ hsfp B.ld)
def lateV (es : List Evt) : V := match es.getLast? with
  | none => .non
  | some e => .int e.kn
/-- ranks -/
structure Rk (rk : List (Str × Int)) : Prop where
  nd : (rk.map (·.1)).Nodup
  nm : ∀ p ∈ rk, Nm p.1
  b1 : ∀ p ∈ rk, 1 ≤ p.2 ∧ p.2 ≤ 9
  ln : rk.length ≤ 30
def Pl (z : Str) : Prop := z = Str.ofString "" ∨ Nm z
structure EvOK (rk : List (Str × Int)) (e : Evt) : Prop where
  k0 : 0 ≤ e.kn
  d0 : 0 ≤ e.day
  d1 : e.day < 10 ^ 55
  mw : e.mv = true → e.who ∈ rk.map (·.1) ∧ (e.w = .non ∨ ∃ z, e.w = .str z ∧ Pl z)
  lw : e.mv = false → Nm e.who ∧ ∃ n : Int, e.w = .int n ∧ 0 ≤ n ∧ n < 10 ^ 57
structure BkH (CB CH : Addr) (H : Hp) (B : BA) (v : V) : Prop where
  ix : H B.b = some (.ins CB B.dx [("rank_of", .ref B.R), ("moves", .ref B.M), ("landings", .ref B.L), ("latest_known", v)])
  rd : H B.R = some (.dK (sd B.rk))
  md : H B.M = some (.dK (hsK B.mv))
  ldd : H B.L = some (.dK (hsK B.ld))
  hm : ∀ e ∈ B.mv, HistAt CH H e.2
  hl : ∀ e ∈ B.ld, HistAt CH H e.2
  nd : B.fp.Nodup
structure BkP (B : BA) : Prop where
  rk : Rk B.rk
  km : B.mv.map (·.1) = B.rk.map (·.1)
  lk : (B.ld.map (·.1)).Nodup
  hm : ∀ e ∈ B.mv, e.2.h = histE B.es true e.1
  hl : ∀ e ∈ B.ld, e.2.h = histE B.es false e.1
  ln : ∀ e ∈ B.es, e.mv = false → e.who ∈ B.ld.map (·.1)
  up : Rising B.es
  ev : ∀ e ∈ B.es, EvOK B.rk e
theorem hsfp_mem {hs : List (Str × HA)} {c : Addr} : c ∈ hsfp hs ↔ ∃ e ∈ hs, c ∈ e.2.fp := List.mem_flatMap
theorem BkH.ex {CB CH : Addr} {H : Hp} {B : BA} {v : V} (h : BkH CB CH H B v) : ∀ c ∈ B.fp, ∃ o, H c = some o := by
  intro c hc
  rcases List.mem_cons.mp hc with rfl | hc
  · exact ⟨_, h.ix⟩
  rcases List.mem_cons.mp hc with rfl | hc
  · exact ⟨_, h.rd⟩
  rcases List.mem_cons.mp hc with rfl | hc
  · exact ⟨_, h.md⟩
  rcases List.mem_cons.mp hc with rfl | hc
  · exact ⟨_, h.ldd⟩
  rcases List.mem_append.mp hc with hc | hc
  · obtain ⟨e, he, hc⟩ := hsfp_mem.mp hc
    exact (h.hm e he).ex c hc
  · obtain ⟨e, he, hc⟩ := hsfp_mem.mp hc
    exact (h.hl e he).ex c hc
theorem BkH.by {CB CH : Addr} {H H' : Hp} {B : BA} {v : V} (h : BkH CB CH H B v) (f : ∀ c ∈ B.fp, ∀ o, H c = some o → H' c = some o) : BkH CB CH H' B v := by
  have m1 : B.b ∈ B.fp := List.mem_cons_self
  have m2 : B.R ∈ B.fp := List.mem_cons_of_mem _ List.mem_cons_self
  have m3 : B.M ∈ B.fp := List.mem_cons_of_mem _ (List.mem_cons_of_mem _ List.mem_cons_self)
  have m4 : B.L ∈ B.fp := List.mem_cons_of_mem _ (List.mem_cons_of_mem _ (List.mem_cons_of_mem _ List.mem_cons_self))
  have mt : ∀ c ∈ hsfp B.mv ++ hsfp B.ld, c ∈ B.fp := fun c hc => List.mem_cons_of_mem _ (List.mem_cons_of_mem _ (List.mem_cons_of_mem _ (List.mem_cons_of_mem _ hc)))
  exact ⟨f _ m1 _ h.ix, f _ m2 _ h.rd, f _ m3 _ h.md, f _ m4 _ h.ldd,
    fun e he => (h.hm e he).by fun c hc => f c (mt c (List.mem_append_left _ (hsfp_mem.mpr ⟨e, he, hc⟩))),
    fun e he => (h.hl e he).by fun c hc => f c (mt c (List.mem_append_right _ (hsfp_mem.mpr ⟨e, he, hc⟩))), h.nd⟩
theorem step_eq (mv : Bool) (kn : Int) (z : Str) (d : Int) (w : V) (h : Hist) : stepH mv z h ⟨mv, kn, z, d, w⟩ = noteH h kn d w := by
  unfold stepH
  rw [show ofE mv z ⟨mv, kn, z, d, w⟩ = true from ofE_iff.mpr ⟨rfl, rfl⟩]
  rfl
theorem step_ne {mv : Bool} {who : Str} {h : Hist} {e : Evt} (n : ¬ (e.mv = mv ∧ e.who = who)) : stepH mv who h e = h := by
  unfold stepH
  rw [if_neg (fun z => n (ofE_iff.mp z))]
/-- a book of these ranks stands at b, told these things; its own addresses are fp -/
def Bk (CB CH : Addr) (H : Hp) (b : Addr) (rk : List (Str × Int)) (es : List Evt) (fp : List Addr) : Prop :=
  ∃ B : BA, B.b = b ∧ B.rk = rk ∧ B.es = es ∧ B.fp = fp ∧ BkH CB CH H B (lateV es) ∧ BkP B ∧ B.ld.length ≤ B.es.length
theorem Bk.by {CB CH : Addr} {H H' : Hp} {b : Addr} {rk : List (Str × Int)} {es : List Evt} {fp : List Addr} (h : Bk CB CH H b rk es fp) (f : ∀ c ∈ fp, ∀ o, H c = some o → H' c = some o) : Bk CB CH H' b rk es fp := by
  obtain ⟨B, rfl, rfl, rfl, rfl, h1, h2⟩ := h
  exact ⟨B, rfl, rfl, rfl, rfl, h1.by f, h2⟩
theorem Bk.mono {CB CH : Addr} {H H' : Hp} {b : Addr} {rk : List (Str × Int)} {es : List Evt} {fp : List Addr} (h : Bk CB CH H b rk es fp) (s : Same H H') : Bk CB CH H' b rk es fp := h.by fun c _ o e => s c o e
theorem Bk.monoL {CB CH : Addr} {H H' : Hp} {S : List Addr} {b : Addr} {rk : List (Str × Int)} {es : List Evt} {fp : List Addr} (h : Bk CB CH H b rk es fp) (s : SameL S H H') (n : ∀ c ∈ fp, c ∉ S) : Bk CB CH H' b rk es fp := h.by fun c hc o e => s c o (n c hc) e
theorem Bk.ex {CB CH : Addr} {H : Hp} {b : Addr} {rk : List (Str × Int)} {es : List Evt} {fp : List Addr} (h : Bk CB CH H b rk es fp) : ∀ c ∈ fp, ∃ o, H c = some o := by
  obtain ⟨B, rfl, rfl, rfl, rfl, h1, _⟩ := h
  exact h1.ex
theorem Bk.ev {CB CH : Addr} {H : Hp} {b : Addr} {rk : List (Str × Int)} {es : List Evt} {fp : List Addr} (h : Bk CB CH H b rk es fp) : Rk rk ∧ Rising es ∧ ∀ e ∈ es, EvOK rk e := by
  obtain ⟨B, rfl, rfl, rfl, rfl, _, h2, _⟩ := h
  exact ⟨h2.rk, h2.up, h2.ev⟩
theorem rising_app {es : List Evt} {e : Evt} (h : Rising es) (g : ∀ a ∈ es, a.kn ≤ e.kn) : Rising (es ++ [e]) := by
  rw [Rising, List.pairwise_append]
  refine ⟨h, List.pairwise_singleton _ _, fun a ha b hb => ?_⟩
  rw [List.mem_singleton.mp hb]
  exact g a ha
/-- the pure side of a told landing, of a light that has a history -/
theorem BkP.land {B : BA} {l1 l2 : List (Str × HA)} {z : Str} {a a' : HA} {kn d : Int} {w : V} (h : BkP B) (e : B.ld = l1 ++ (z, a) :: l2) (ha : a'.h = noteH a.h kn d w)
    (hk : ∀ x ∈ B.es, x.kn ≤ kn) (ok : EvOK B.rk ⟨false, kn, z, d, w⟩) : BkP { B with ld := l1 ++ (z, a') :: l2, es := B.es ++ [⟨false, kn, z, d, w⟩] } := by
  have nk := h.lk
  rw [e, List.map_append, List.map_cons, List.nodup_append, List.nodup_cons] at nk
  obtain ⟨_, ⟨k2, _⟩, k4⟩ := nk
  have hne : ∀ q ∈ l1 ++ l2, q.1 ≠ z := by
    intro q hq hz
    rcases List.mem_append.mp hq with hq | hq
    · exact k4 z (by rw [← hz]; exact List.mem_map.mpr ⟨q, hq, rfl⟩) z List.mem_cons_self rfl
    · exact k2 (by show z ∈ _; rw [← hz]; exact List.mem_map.mpr ⟨q, hq, rfl⟩)
  have old : ∀ q ∈ l1 ++ l2, q.2.h = histE (B.es ++ [⟨false, kn, z, d, w⟩]) false q.1 := by
    intro q hq
    rw [histE_snoc, step_ne (fun he => hne q hq he.2.symm)]
    exact h.hl q (by
      rw [e]
      rcases List.mem_append.mp hq with hq | hq
      · exact List.mem_append_left _ hq
      · exact List.mem_append_right _ (List.mem_cons_of_mem _ hq))
  have ek : (l1 ++ (z, a') :: l2).map (·.1) = B.ld.map (·.1) := by
    rw [e, List.map_append, List.map_append]
    rfl
  refine ⟨h.rk, h.km, ?_, ?_, ?_, ?_, rising_app h.up hk, ?_⟩
  · show ((l1 ++ (z, a') :: l2).map (·.1)).Nodup
    rw [ek]
    exact h.lk
  · intro q hq
    show q.2.h = histE (B.es ++ [⟨false, kn, z, d, w⟩]) true q.1
    rw [histE_snoc, step_ne (fun he => by cases he.1)]
    exact h.hm q hq
  · intro q hq
    rcases List.mem_append.mp hq with hq | hq
    · exact old q (List.mem_append_left _ hq)
    rcases List.mem_cons.mp hq with rfl | hq
    · show a'.h = histE (B.es ++ [⟨false, kn, z, d, w⟩]) false z
      rw [histE_snoc]
      rw [step_eq, ha]
      have := h.hl (z, a) (by rw [e]; exact List.mem_append_right _ List.mem_cons_self)
      rw [show a.h = _ from this]
    · exact old q (List.mem_append_right _ hq)
  · intro x hx hm
    show x.who ∈ (l1 ++ (z, a') :: l2).map (·.1)
    rw [ek]
    rcases List.mem_append.mp hx with hx | hx
    · exact h.ln x hx hm
    · rw [List.mem_singleton.mp hx, e, List.map_append]
      exact List.mem_append_right _ List.mem_cons_self
  · intro x hx
    rcases List.mem_append.mp hx with hx | hx
    · exact h.ev x hx
    · rw [List.mem_singleton.mp hx]
      exact ok
end LT
set_option Elab.async false
set_option linter.all false
set_option maxRecDepth 100000
set_option maxHeartbeats 1600000
/-! Own layer: {k: v} with a tuple as key; "".join(reversed(a list)). -/
namespace LT
open PySem PySem.Spec PyProof.Rows L2 NdefX
/-! ### {k: v}, k a tuple -/
/-! ### "".join(reversed(xs)) -/
end LT
set_option Elab.async false
set_option linter.all false
set_option maxRecDepth 100000
set_option maxHeartbeats 1600000
/-! Own layer: weathers along tables, and the search for the first one beyond (pure). -/
namespace LT
open PySem PySem.Spec PyProof.Rows L2 NdefX
/-- where some weather leads -/
def aftF (t : KTab) : Int → List Nat → Option Int
  | i, [] => some i
  | i, c :: cs => match (t[i.toNat]?).bind (fun r => getA r ⟨#[c]⟩) with
    | none => none
    | some j => aftF t j cs
def optV : Option Int → V
  | none => .non
  | some i => .int i
def rowAt (t : KTab) (i : Int) : KRow := (t[i.toNat]?).getD []
theorem rowAt_of {t : KTab} {i : Int} {r : KRow} (e : t[i.toNat]? = some r) : rowAt t i = r := by unfold rowAt; rw [e]; rfl
theorem bind_row (t : KTab) (i : Int) (z : Str) : (t[i.toNat]?).bind (fun r => getA r z) = getA (rowAt t i) z := by
  unfold rowAt
  cases t[i.toNat]? with
  | none => rfl
  | some r => rfl
theorem aft_cons (t : KTab) (i : Int) (c : Nat) (cs : List Nat) : aftF t i (c :: cs) = (getA (rowAt t i) ⟨#[c]⟩).bind fun j => aftF t j cs := by
  rw [aftF, bind_row]
  cases getA (rowAt t i) ⟨#[c]⟩ <;> rfl
theorem aft_app (t : KTab) : ∀ (a b : List Nat) (i : Int), aftF t i (a ++ b) = (aftF t i a).bind fun j => aftF t j b
  | [], b, i => rfl
  | c :: a, b, i => by
    rw [List.cons_append, aft_cons, aft_cons]
    cases getA (rowAt t i) ⟨#[c]⟩ with
    | none => rfl
    | some j => exact aft_app t a b j
theorem aft_snoc (t : KTab) (w : List Nat) (c : Nat) (i : Int) : aftF t i (w ++ [c]) = (aftF t i w).bind fun j => getA (rowAt t j) ⟨#[c]⟩ := by
  rw [aft_app]
  cases aftF t i w with
  | none => rfl
  | some j =>
    show aftF t j [c] = getA (rowAt t j) ⟨#[c]⟩
    rw [aft_cons]
    cases getA (rowAt t j) ⟨#[c]⟩ <;> rfl
theorem KTb.rowAt {t : KTab} (k : KTb t) {i : Int} (h0 : 0 ≤ i) (h1 : i < t.length) : KRw t.length (rowAt t i) := by
  have : i.toNat < t.length := by omega
  have e : t[i.toNat]? = some t[i.toNat] := List.getElem?_eq_getElem this
  rw [rowAt_of e]
  exact k.at_ e
/-! ### the search -/
abbrev Ent := (Int × Int) × List Nat
def addE (es : List Ent) (p : Int × Int) (w : List Nat) : List Ent := if p ∈ es.map (·.1) then es else es ++ [(p, w)]
theorem addE_pre (es : List Ent) (p : Int × Int) (w : List Nat) : es <+: addE es p w := by
  unfold addE
  split
  · exact List.prefix_refl _
  · exact List.prefix_append _ _
theorem addE_mem (es : List Ent) (p : Int × Int) (w : List Nat) : p ∈ (addE es p w).map (·.1) := by
  unfold addE
  split
  · assumption
  · rw [List.map_append, List.mem_append]
    exact .inr List.mem_cons_self
theorem addE_in {es : List Ent} {p : Int × Int} {w : List Nat} {e : Ent} (h : e ∈ addE es p w) : e ∈ es ∨ e = (p, w) := by
  unfold addE at h
  split at h
  · exact .inl h
  · rcases List.mem_append.mp h with h | h
    · exact .inl h
    · exact .inr (List.mem_singleton.mp h)
def scanR (w : List Nat) (o : KRow) : KRow → List Ent → (List Nat) ⊕ (List Ent)
  | [], es => .inr es
  | (z, v) :: r, es => match getA o z with
    | none => .inl (w ++ z.cps.toList)
    | some u => scanR w o r (addE es (v, u) (w ++ z.cps.toList))
inductive BSt
  | run (a : Nat) (es : List Ent)
  | stop (x : Option (List Nat))
def stepB (t u : KTab) : BSt → BSt
  | .stop x => .stop x
  | .run a es => match es[a]? with
    | none => .stop none
    | some e => match scanR e.2 (rowAt u e.1.2) (rowAt t e.1.1) es with
      | .inl w => .stop (some w)
      | .inr es' => .run (a + 1) es'
def iterB (t u : KTab) : Nat → BSt
  | 0 => .run 0 [((0, 0), [])]
  | n + 1 => stepB t u (iterB t u n)
def Res (t u : KTab) (x : Option (List Nat)) : Prop := ∃ n, iterB t u n = .stop x
theorem iter_stay {t u : KTab} {n : Nat} {x : Option (List Nat)} (h : iterB t u n = .stop x) : ∀ m, iterB t u (n + m) = .stop x
  | 0 => h
  | m + 1 => by
    show stepB t u (iterB t u (n + m)) = _
    rw [iter_stay h m]
    rfl
theorem Res.uniq {t u : KTab} {x y : Option (List Nat)} (h : Res t u x) (g : Res t u y) : x = y := by
  obtain ⟨n, h⟩ := h
  obtain ⟨m, g⟩ := g
  have a := iter_stay h m
  have b := iter_stay g n
  rw [Nat.add_comm] at b
  rw [a] at b
  injection b
/-- what holds of all that is met -/
structure BI (t u : KTab) (es : List Ent) : Prop where
  nd : (es.map (·.1)).Nodup
  bd : ∀ e ∈ es, (0 ≤ e.1.1 ∧ e.1.1 < t.length) ∧ (0 ≤ e.1.2 ∧ e.1.2 < u.length)
  re : ∀ e ∈ es, aftF t 0 e.2 = some e.1.1 ∧ aftF u 0 e.2 = some e.1.2
  hd : es[0]? = some ((0, 0), [])
theorem BI.start {t u : KTab} (k1 : KTb t) (k2 : KTb u) : BI t u [((0, 0), [])] := by
  have a := k1.l1
  have b := k2.l1
  refine ⟨List.nodup_cons.mpr ⟨nofun, List.nodup_nil⟩, fun e he => ?_, fun e he => ?_, rfl⟩
  · rw [List.mem_singleton.mp he]
    exact ⟨⟨Int.le_refl _, by show (0 : Int) < _; omega⟩, ⟨Int.le_refl _, by show (0 : Int) < _; omega⟩⟩
  · rw [List.mem_singleton.mp he]
    exact ⟨rfl, rfl⟩
theorem BI.add {t u : KTab} {es : List Ent} (h : BI t u es) {i j : Int} {w : List Nat} (hi : 0 ≤ i ∧ i < t.length) (hj : 0 ≤ j ∧ j < u.length) (ht : aftF t 0 w = some i) (hu : aftF u 0 w = some j) : BI t u (addE es (i, j) w) := by
  refine ⟨?_, fun e he => ?_, fun e he => ?_, ?_⟩
  · unfold addE
    split
    · exact h.nd
    · rename_i hn
      rw [List.map_append, List.nodup_append]
      refine ⟨h.nd, List.nodup_cons.mpr ⟨nofun, List.nodup_nil⟩, fun x hx y hy => ?_⟩
      rw [List.mem_singleton.mp hy]
      rintro rfl
      exact hn hx
  · rcases addE_in he with he | rfl
    · exact h.bd e he
    · exact ⟨hi, hj⟩
  · rcases addE_in he with he | rfl
    · exact h.re e he
    · exact ⟨ht, hu⟩
  · obtain ⟨s, hs⟩ := addE_pre es (i, j) w
    rw [← hs, List.getElem?_append_left, h.hd]
    exact (List.getElem?_eq_some_iff.mp h.hd).1
theorem box_len (n m : Nat) (ps : List (Int × Int)) (nd : ps.Nodup) (h : ∀ p ∈ ps, (0 ≤ p.1 ∧ p.1 < n) ∧ (0 ≤ p.2 ∧ p.2 < m)) : ps.length ≤ n * m := by
  have hs : ps ⊆ (List.range n).flatMap fun i => (List.range m).map fun j => (((i : Nat) : Int), ((j : Nat) : Int)) := by
    intro p hp
    obtain ⟨⟨a, b⟩, c, d⟩ := h p hp
    rw [List.mem_flatMap]
    refine ⟨p.1.toNat, List.mem_range.mpr (by omega), List.mem_map.mpr ⟨p.2.toNat, List.mem_range.mpr (by omega), ?_⟩⟩
    rw [show ((p.1.toNat : Nat) : Int) = p.1 by omega, show ((p.2.toNat : Nat) : Int) = p.2 by omega]
  have hl := List.Nodup.length_le_of_subset nd hs
  have e : ((List.range n).flatMap fun i => (List.range m).map fun j => (((i : Nat) : Int), ((j : Nat) : Int))).length = n * m := by
    clear hl hs h nd ps
    induction n with
    | zero => simp
    | succ n ih => rw [List.range_succ, List.flatMap_append, List.length_append, ih]; simp [Nat.succ_mul]
  omega
theorem BI.len {t u : KTab} {es : List Ent} (h : BI t u es) (k1 : KTb t) (k2 : KTb u) : es.length ≤ 1000000 := by
  have := box_len t.length u.length (es.map (·.1)) h.nd (fun p hp => by
    obtain ⟨e, he, rfl⟩ := List.mem_map.mp hp
    exact h.bd e he)
  rw [List.length_map] at this
  have := Nat.mul_le_mul k1.l2 k2.l2
  omega
/-- a row scanned -/
theorem scan_ok {t u : KTab} (k1 : KTb t) (k2 : KTb u) {i j : Int} {w : List Nat} (hi : 0 ≤ i ∧ i < t.length) (hj : 0 ≤ j ∧ j < u.length) (ht : aftF t 0 w = some i) (hu : aftF u 0 w = some j) :
    ∀ (r : KRow) (es : List Ent), (∀ p ∈ r, getA (rowAt t i) p.1 = some p.2) → BI t u es →
    (∀ es', scanR w (rowAt u j) r es = .inr es' → es <+: es' ∧ BI t u es' ∧ ∀ p ∈ r, ∃ l, getA (rowAt u j) p.1 = some l ∧ (p.2, l) ∈ es'.map (·.1)) ∧
    (∀ x, scanR w (rowAt u j) r es = .inl x → ∃ p ∈ r, getA (rowAt u j) p.1 = none ∧ x = w ++ p.1.cps.toList)
  | [], es, _, h => ⟨fun es' e => by cases e; exact ⟨List.prefix_refl _, h, nofun⟩, fun x e => by cases e⟩
  | (z, v) :: r, es, hr, h => by
    have hz := hr _ List.mem_cons_self
    have kt := k1.rowAt hi.1 hi.2
    have ku := k2.rowAt hj.1 hj.2
    obtain ⟨c, _, rfl⟩ : Ltr z := kt.lt _ (getA_mem hz)
    unfold scanR
    cases hg : getA (rowAt u j) ⟨#[c]⟩ with
    | none =>
      refine ⟨fun es' e => ?_, fun x e => ?_⟩
      · cases e
      · cases e
        exact ⟨_, List.mem_cons_self, hg, rfl⟩
    | some l =>
      have a1 : aftF t 0 (w ++ [c]) = some v := by rw [aft_snoc, ht]; exact hz
      have a2 : aftF u 0 (w ++ [c]) = some l := by rw [aft_snoc, hu]; exact hg
      have h' := h.add (kt.get hz) (ku.get hg) a1 a2
      obtain ⟨i1, i2⟩ := scan_ok k1 k2 hi hj ht hu r _ (fun p hp => hr p (List.mem_cons_of_mem _ hp)) h'
      refine ⟨fun es' e => ?_, fun x e => ?_⟩
      · obtain ⟨p1, p2, p3⟩ := i1 es' e
        refine ⟨(addE_pre _ _ _).trans p1, p2, fun p hp => ?_⟩
        rcases List.mem_cons.mp hp with rfl | hp
        · refine ⟨l, hg, ?_⟩
          obtain ⟨s, rfl⟩ := p1
          rw [List.map_append, List.mem_append]
          exact .inl (addE_mem _ _ _)
        · exact p3 p hp
      · obtain ⟨p, hp, q⟩ := i2 x e
        exact ⟨p, List.mem_cons_of_mem _ hp, q⟩
/-- at the head of the loop -/
structure BH (t u : KTab) (n : Nat) (es : List Ent) : Prop where
  it : iterB t u n = .run n es
  bi : BI t u es
  cl : ∀ (k : Nat) (e : Ent), k < n → es[k]? = some e → ∀ z l, getA (rowAt t e.1.1) z = some l → ∃ l', getA (rowAt u e.1.2) z = some l' ∧ (l, l') ∈ es.map (·.1)
theorem BH.start {t u : KTab} (k1 : KTb t) (k2 : KTb u) : BH t u 0 [((0, 0), [])] := ⟨rfl, BI.start k1 k2, fun k e h => by omega⟩
theorem row_all {n : Nat} {r : KRow} (h : KRw n r) : ∀ p ∈ r, getA r p.1 = some p.2 := fun p hp => getA_of_mem h.nd hp
theorem BH.next {t u : KTab} (k1 : KTb t) (k2 : KTb u) {n : Nat} {es es' : List Ent} (h : BH t u n es) {e : Ent} (he : es[n]? = some e) (hs : scanR e.2 (rowAt u e.1.2) (rowAt t e.1.1) es = .inr es') : BH t u (n + 1) es' := by
  have hm := List.mem_of_getElem? he
  obtain ⟨hi, hj⟩ := h.bi.bd e hm
  obtain ⟨ht, hu⟩ := h.bi.re e hm
  obtain ⟨p1, p2, p3⟩ := (scan_ok k1 k2 hi hj ht hu _ es (row_all (k1.rowAt hi.1 hi.2)) h.bi).1 es' hs
  refine ⟨?_, p2, fun k e' hk he' z l hz => ?_⟩
  · show stepB t u (iterB t u n) = _
    rw [h.it]
    show (match es[n]? with | none => _ | some e => _) = _
    rw [he]
    show (match scanR e.2 (rowAt u e.1.2) (rowAt t e.1.1) es with | .inl w => BSt.stop (some w) | .inr es' => .run (n + 1) es') = _
    rw [hs]
  · obtain ⟨s, rfl⟩ := p1
    by_cases hkn : k = n
    · subst hkn
      have : k < es.length := (List.getElem?_eq_some_iff.mp he).1
      rw [List.getElem?_append_left this, he] at he'
      cases he'
      exact p3 (z, l) (getA_mem hz)
    · have hk2 : k < n := by omega
      have hn : n < es.length := (List.getElem?_eq_some_iff.mp he).1
      rw [List.getElem?_append_left (by omega)] at he'
      obtain ⟨l', q1, q2⟩ := h.cl k e' hk2 he' z l hz
      exact ⟨l', q1, by rw [List.map_append, List.mem_append]; exact .inl q2⟩
theorem BH.done {t u : KTab} {n : Nat} {es : List Ent} (h : BH t u n es) (he : es.length ≤ n) : Res t u none := by
  refine ⟨n + 1, ?_⟩
  show stepB t u (iterB t u n) = _
  rw [h.it]
  show (match es[n]? with | none => _ | some e => _) = _
  rw [List.getElem?_eq_none he]
theorem BH.hit {t u : KTab} {n : Nat} {es : List Ent} (h : BH t u n es) {e : Ent} {x : List Nat} (he : es[n]? = some e) (hs : scanR e.2 (rowAt u e.1.2) (rowAt t e.1.1) es = .inl x) : Res t u (some x) := by
  refine ⟨n + 1, ?_⟩
  show stepB t u (iterB t u n) = _
  rw [h.it]
  show (match es[n]? with | none => _ | some e => _) = _
  rw [he]
  show (match scanR e.2 (rowAt u e.1.2) (rowAt t e.1.1) es with | .inl w => BSt.stop (some w) | .inr es' => .run (n + 1) es') = _
  rw [hs]
/-! ### what it tells -/
theorem bh_all {t u : KTab} (k1 : KTb t) (k2 : KTb u) : ∀ n, (∃ es, BH t u n es) ∨ ∃ m es, m < n ∧ BH t u m es ∧ iterB t u (m + 1) = iterB t u n ∧ ∀ a es', iterB t u n ≠ .run a es'
  | 0 => .inl ⟨_, BH.start k1 k2⟩
  | n + 1 => by
    rcases bh_all k1 k2 n with ⟨es, h⟩ | ⟨m, es, hm, h, e, hs⟩
    · cases he : es[n]? with
      | none =>
        refine .inr ⟨n, es, Nat.lt_succ_self _, h, rfl, fun a es' => ?_⟩
        show stepB t u (iterB t u n) ≠ _
        rw [h.it]
        show (match es[n]? with | none => _ | some e => _) ≠ _
        rw [he]
        nofun
      | some e =>
        cases hsc : scanR e.2 (rowAt u e.1.2) (rowAt t e.1.1) es with
        | inr es' => exact .inl ⟨es', h.next k1 k2 he hsc⟩
        | inl x =>
          refine .inr ⟨n, es, Nat.lt_succ_self _, h, rfl, fun a es' => ?_⟩
          show stepB t u (iterB t u n) ≠ _
          rw [h.it]
          show (match es[n]? with | none => _ | some e => _) ≠ _
          rw [he]
          show (match scanR e.2 (rowAt u e.1.2) (rowAt t e.1.1) es with | .inl w => BSt.stop (some w) | .inr es' => .run (n + 1) es') ≠ _
          rw [hsc]
          nofun
    · refine .inr ⟨m, es, by omega, h, ?_, ?_⟩
      · rw [e]
        show _ = stepB t u (iterB t u n)
        cases hi : iterB t u n with
        | run a es' => exact absurd hi (hs a es')
        | stop x => rfl
      · intro a es'
        show stepB t u (iterB t u n) ≠ _
        cases hi : iterB t u n with
        | run a es' => exact absurd hi (hs a es')
        | stop x => nofun
/-- it comes to an end -/
theorem Res.ex {t u : KTab} (k1 : KTb t) (k2 : KTb u) : ∃ x, Res t u x := by
  rcases bh_all k1 k2 1000001 with ⟨es, h⟩ | ⟨m, es, _, h, e, hs⟩
  · refine ⟨none, h.done ?_⟩
    have := h.bi.len k1 k2
    omega
  · cases hi : iterB t u 1000001 with
    | run a es' => exact absurd hi (hs a es')
    | stop x => exact ⟨x, _, hi⟩
end LT
set_option Elab.async false
set_option linter.all false
set_option maxRecDepth 100000
set_option maxHeartbeats 1600000
/-! Own layer: promises of the defs that every law over kinds has. -/
namespace LT
open PySem PySem.Spec PyProof.Rows L2 NdefX
theorem small2k {n : Nat} (h : n ≤ 2000) : n < sizeLine := by rw [sizeLine_eq]; omega
def spWhole : Sp := fun vs H Q _ => ∃ v, vs = [v] ∧ Odd H v ∧ Q (.bl (wholeB v)) H
theorem ps_no {X : Cx} {st : Stmt} : PS X st (fun _ _ _ => False) := ⟨fun _ _ _ _ _ _ h => h.elim⟩
/-- a kind stands at x, its rows as they are kept -/
def Kd (C : Addr) (H : Hp) (x : Addr) (t : KTab) : Prop := ∃ dx l ds, H x = some (.ins C dx [("rows", .ref l)]) ∧ TabAt H l ds t
theorem Kd.mono {C : Addr} {H H' : Hp} {x : Addr} {t : KTab} (h : Kd C H x t) (s : Same H H') : Kd C H' x t := by
  obtain ⟨dx, l, ds, h1, h2⟩ := h
  exact ⟨dx, l, ds, s _ _ h1, h2.mono s⟩
def spInit (C : Addr) : Sp := fun vs H Q _ => ∃ (x dx a : Addr) (ds : List Addr) (t : KTab), vs = [.ref x, .ref a] ∧ H x = some (.ins C dx []) ∧ H a = some (.lst (ds.map V.ref)) ∧ KRows H ds t ∧ KTb t ∧
  ∀ (L : Addr) (es : List Addr) (t' : KTab) (H' : Hp), H L = none → (∀ e ∈ es, H e = none) → RiseT t t' → TabAt H' L es t' → SameB x H H' → H' x = some (.ins C dx [("rows", .ref L)]) → Q .non H'
def spPot (K : PySem.W.Frag) : Sp := fun vs H Q _ => ∃ (a : Addr) (ns : List Int) (k : Nat), vs = [.ref a, .int (k : Nat)] ∧ SqL K H a (ns.map V.int) ∧ k ≤ 1000 ∧
  ∀ p H', H p = none → Same H H' → Pot H' p → Q (.ref p) H'
def spTake : Sp := fun vs H Q _ => ∃ (p : Addr) (r : Int), vs = [.ref p, .int r] ∧ Pot H p ∧ 0 < r ∧ r ≤ 1000000000 ∧
  ∀ (d : Int) (H' : Hp), 0 ≤ d → d < r → Pot H' p → SameB p H H' → Q (.int d) H'
/-- unlike letters -/
structure Lts (zs : List Str) : Prop where
  nd : zs.Nodup
  lt : ∀ z ∈ zs, Ltr z
theorem Lts.len {zs : List Str} (h : Lts zs) : zs.length ≤ 26 := letts_few h.nd h.lt
theorem str_at {zs : List Str} {i : Int} (h0 : 0 ≤ i) (h1 : i < zs.length) : ∃ z, zs[i.toNat]? = some z ∧ z ∈ zs ∧ atI (zs.map V.str) i = some (.str z) := by
  obtain ⟨m, rfl⟩ : ∃ m : Nat, i = (m : Nat) := ⟨i.toNat, by omega⟩
  have h2 : m < zs.length := by omega
  exact ⟨zs[m], List.getElem?_eq_getElem h2, List.getElem_mem h2, atI_nat (by rw [List.getElem?_map, List.getElem?_eq_getElem h2]; rfl)⟩
theorem strs_not_ints {zs : List Str} {i j : Int} : (HO.lst (zs.map V.str)) ≠ .lst [.int i, .int j] := by
  intro e
  have e := HO.lst.inj e
  cases zs with
  | nil => cases e
  | cons d r => simp at e
/-- a row under way -/
def KRq (n : Nat) (r : KRow) : Prop := r = [] ∨ KRw n r
theorem KRq.put {n : Nat} {r : KRow} {z : Str} {v : Int} (h : KRq n r) (hz : Ltr z) (h0 : 0 ≤ v) (h1 : v < n) : KRw n (putA r z v) := by
  rcases h with rfl | h
  · refine ⟨nofun, List.nodup_cons.mpr ⟨nofun, List.nodup_nil⟩, fun p hp => ?_, fun p hp => ?_⟩
    · rw [List.mem_singleton.mp hp]
      exact hz
    · rw [List.mem_singleton.mp hp]
      exact ⟨h0, h1⟩
  · exact h.put hz h0 h1
theorem KRq.len {n : Nat} {r : KRow} (h : KRq n r) : r.length ≤ 26 := by
  rcases h with rfl | h
  · exact Nat.zero_le _
  · exact h.len
/-- rows that stand, new since H -/
structure RowsN (H Hx : Hp) (F : Addr) (ds : List Addr) (t : KTab) (n : Nat) : Prop where
  at_ : TabAt Hx F ds t
  nF : H F = none
  nd : ∀ d ∈ ds, H d = none
  rw : ∀ r ∈ t, KRw n r
theorem RowsN.mono {H Hx Hy : Hp} {F : Addr} {ds : List Addr} {t : KTab} {n : Nat} (h : RowsN H Hx F ds t n) (s : Same Hx Hy) : RowsN H Hy F ds t n := ⟨h.at_.mono s, h.nF, h.nd, h.rw⟩
theorem RowsN.upd {H Hx : Hp} {F R : Addr} {o : HO} {ds : List Addr} {t : KTab} {n : Nat} (h : RowsN H Hx F ds t n) (h1 : F ≠ R) (h2 : R ∉ ds) : RowsN H (L2.upd Hx R o) F ds t n :=
  ⟨⟨by rw [upd_ne h1]; exact h.at_.ls, h.at_.rows.upd h2, h.at_.nd⟩, h.nF, h.nd, h.rw⟩
/-- the same weathers -/
def LgEq (t' t : KTab) : Prop := ∀ w, (aftF t' 0 w).isSome = (aftF t 0 w).isSome
theorem LgEq.trans {a b c : KTab} (h : LgEq a b) (g : LgEq b c) : LgEq a c := fun w => (h w).trans (g w)
theorem str_app_len (i j : Str) : (i ++ j).length = i.length + j.length := strLen_append i j
def spIs : Sp := fun vs H Q _ => ∃ o : Option Int, vs = [optV o, optV o] ∧ Q (.bl true) H
end LT
set_option Elab.async false
set_option linter.all false
set_option maxRecDepth 100000
set_option maxHeartbeats 1600000
/-! Own layer: a sign taken many times; a text within a text; dict.update with a dict; len(set(text)). -/
namespace LT
open PySem PySem.Spec PyProof.Rows L2 NdefX
end LT
set_option Elab.async false
set_option linter.all false
set_option maxRecDepth 100000
set_option maxHeartbeats 3200000
/-! Own layer: len(set(text)). -/
namespace LT
open PySem PySem.Spec PyProof.Rows L2 NdefX
end LT
set_option Elab.async false
set_option linter.all false
set_option maxRecDepth 100000
set_option maxHeartbeats 1600000
/-! Own layer: y = {k: v for ..} as a statement. -/
namespace LT
open PySem PySem.Spec PyProof.Rows L2 NdefX
end LT
set_option Elab.async false
set_option linter.all false
set_option maxRecDepth 100000
set_option maxHeartbeats 1600000
/-! Own layer: a walk on the heap. -/
namespace LT
open PySem PySem.Spec PyProof.Rows L2 NdefX
theorem RiseT.rowAt {t t' : KTab} (h : RiseT t t') (k : KTb t) (i : Int) (z : Str) : getA (rowAt t' i) z = getA (rowAt t i) z := by
  unfold LT.rowAt
  cases hr : t[i.toNat]? with
  | none =>
    have : t'[i.toNat]? = none := by
      rw [List.getElem?_eq_none_iff] at hr ⊢
      rw [h.len]
      exact hr
    rw [this]
  | some r =>
    obtain ⟨r', e1, e2⟩ := h.row hr
    rw [e1]
    exact e2.get (k.at_ hr).nd _
def keyE (p : Int × Int) : List Key := [Sum.inl p.1, Sum.inl p.2]
def numF : Nat → List Ent → List (List Key × V)
  | _, [] => []
  | n, e :: es => (keyE e.1, .int (n : Nat)) :: numF (n + 1) es
/-- a walk that has met es -/
structure WkA (C : Addr) (H : Hp) (x dx P N Y : Addr) (es : List Ent) : Prop where
  ix : H x = some (.ins C dx [("places", .ref P), ("numbers", .ref N), ("ways", .ref Y)])
  pl : ∃ ps : List Addr, H P = some (.lst (ps.map V.ref)) ∧ Paired (fun q (e : Ent) => H q = some (.tup [.int e.1.1, .int e.1.2])) ps es
  nu : H N = some (.dT (numF 0 es))
  wy : ∃ ys : List Addr, H Y = some (.lst (V.non :: ys.map V.ref)) ∧ ys.length + 1 = es.length ∧ ∀ (k : Nat) (y : Addr) (e : Ent), ys[k]? = some y → es[k + 1]? = some e →
    ∃ (o : Nat) (z : Str) (e0 : Ent), H y = some (.tup [.int (o : Nat), .str z]) ∧ o ≤ k ∧ es[o]? = some e0 ∧ Ltr z ∧ e.2 = e0.2 ++ z.cps.toList
  h0 : ∃ p, es[0]? = some (p, [])
def Same3 (P N Y : Addr) (H H' : Hp) : Prop := ∀ b o, b ≠ P → b ≠ N → b ≠ Y → H b = some o → H' b = some o
theorem Same3.of {P N Y : Addr} {H H' : Hp} (s : Same H H') : Same3 P N Y H H' := fun b o _ _ _ e => s b o e
theorem Same3.trans {P N Y : Addr} {H H1 H2 : Hp} (a : Same3 P N Y H H1) (b : Same3 P N Y H1 H2) : Same3 P N Y H H2 := fun c o h1 h2 h3 e => b c o h1 h2 h3 (a c o h1 h2 h3 e)
/-- what another thing's writing leaves -/
theorem WkA.by {C : Addr} {H H' : Hp} {x dx P N Y : Addr} {es : List Ent} (h : WkA C H x dx P N Y es) (f : ∀ b o, H b = some o → (match o with | .ins _ _ _ => True | .lst _ => True | .tup _ => True | .dT _ => True | _ => False) → H' b = some o) : WkA C H' x dx P N Y es := by
  obtain ⟨ps, p1, p2⟩ := h.pl
  obtain ⟨ys, y1, y2, y3⟩ := h.wy
  refine ⟨f _ _ h.ix trivial, ⟨ps, f _ _ p1 trivial, paired_imp (fun q e h => f _ _ h trivial) p2⟩, f _ _ h.nu trivial, ⟨ys, f _ _ y1 trivial, y2, fun k y e h1 h2 => ?_⟩, h.h0⟩
  obtain ⟨o, z, e0, a, b⟩ := y3 k y e h1 h2
  exact ⟨o, z, e0, f _ _ a trivial, b⟩
theorem WkA.mono {C : Addr} {H H' : Hp} {x dx P N Y : Addr} {es : List Ent} (h : WkA C H x dx P N Y es) (s : Same H H') : WkA C H' x dx P N Y es := h.by fun b o e _ => s b o e
theorem WkA.len {C : Addr} {H : Hp} {x dx P N Y : Addr} {es : List Ent} (h : WkA C H x dx P N Y es) : ∃ (ps : List Addr), H P = some (.lst (ps.map V.ref)) ∧ ps.length = es.length := by
  obtain ⟨ps, p1, p2⟩ := h.pl
  exact ⟨ps, p1, Paired.length p2⟩
theorem str_eq {a b : Str} (h : a.cps.toList = b.cps.toList) : a = b := by
  obtain ⟨⟨a⟩⟩ := a
  obtain ⟨⟨b⟩⟩ := b
  have : a = b := h
  rw [this]
theorem str_app_codes (a b : Str) : (a ++ b).cps.toList = a.cps.toList ++ b.cps.toList := by
  show (a.cps ++ b.cps).toList = _
  exact Array.toList_append
end LT
set_option Elab.async false
set_option linter.all false
set_option maxRecDepth 100000
set_option maxHeartbeats 1600000
/-! Own layer: == of an own thing with any thing; lists of texts; letters that rise. -/
namespace LT
open PySem PySem.Spec PyProof.Rows L2 NdefX
/-! ### lists of texts -/
/-! ### letters that rise -/
/-! ### pairs met by the law -/
end LT
namespace LT
open PySem PySem.Spec PyProof.Rows L2 NdefX
theorem LgEq.symm {a b : KTab} (h : LgEq a b) : LgEq b a := fun w => (h w).symm
end LT
set_option Elab.async false
set_option linter.all false
set_option maxRecDepth 100000
set_option maxHeartbeats 1600000
/-! Own layer: promises of the defs over books. -/
namespace LT
open PySem PySem.Spec PyProof.Rows L2 NdefX
def placeB : V → Bool
  | .str z => nameB (.str z) || decide (z = Str.ofString "")
  | _ => false
end LT
set_option Elab.async false
set_option linter.all false
set_option maxRecDepth 100000
set_option maxHeartbeats 1600000
/-! Own layer: books, what the readings want. -/
namespace LT
open PySem PySem.Spec PyProof.Rows L2 NdefX
theorem dget_sd {H : Hp} {M : Addr} {r : KRow} {z : Str} {v : Int} (h : H M = some (.dK (sd r))) (e : getA r z = some v) : DGet H M (.str z) (some (.int v)) := by
  have := DGet.k (k := Sum.inr z) h
  rw [val_row, e] at this
  exact this
end LT
set_option Elab.async false
set_option linter.all false
set_option maxRecDepth 100000
set_option maxHeartbeats 1000000
namespace LT
open PySem PySem.Spec PyProof.Rows L2 LamX
/-! ### a lambda of one parameter -/
end LT
set_option Elab.async false
set_option linter.all false
set_option maxRecDepth 100000
set_option maxHeartbeats 1000000
namespace LT
open PySem PySem.Spec PyProof.Rows L2 LamX
/-! ### sorted(list or tuple, key=f) -/
end LT
set_option Elab.async false
set_option linter.all false
set_option maxRecDepth 100000
set_option maxHeartbeats 1000000
namespace LT
open PySem PySem.Spec PyProof.Rows L2 LamX
theorem extN_seqL {K : PySem.W.Frag} {H H' : Hp} {a : Addr} {xs : List V} (e : ExtN H H') (h : SqL K H a xs) : SqL K H' a xs := by
  rcases h with (h | ⟨o, h⟩) | h
  · exact .inl (.inl (e _ _ h nofun))
  · exact .inl (.inr ⟨o, e _ _ h nofun⟩)
  · exact .inr h
theorem extN_seqT {K : PySem.W.Frag} {H H' : Hp} {a : Addr} {xs : List V} (e : ExtN H H') (h : SqT K H a xs) : SqT K H' a xs := by
  rcases h with (h | ⟨o, h⟩) | h
  · exact .inl (.inl (e _ _ h nofun))
  · exact .inl (.inr ⟨o, e _ _ h nofun⟩)
  · exact .inr h
end LT
set_option Elab.async false
set_option linter.all false
namespace LD
abbrev Row := Int × Option Int
def In (r : Row) (d : Int) : Prop := r.1 ≤ d ∧ ∀ j, r.2 = some j → d ≤ j
def Ins (L : List Row) (d : Int) : Prop := ∃ r, r ∈ L ∧ In r d
def Ok (r : Row) : Prop := 0 ≤ r.1 ∧ ∀ j, r.2 = some j → r.1 ≤ j
theorem Ok.self {r : Row} (h : Ok r) : In r r.1 := ⟨Int.le_refl _, h.2⟩
/-- told in one way alone, the last row ahead -/
def Can : List Row → Prop
  | [] => True
  | [r] => Ok r
  | r :: s :: t => Ok r ∧ (∃ j, s.2 = some j ∧ j + 1 < r.1) ∧ Can (s :: t)
theorem Can.tail {r : Row} : ∀ {t : List Row}, Can (r :: t) → Can t
  | [], _ => trivial
  | _ :: _, h => h.2.2
theorem Can.hd {r : Row} : ∀ {t : List Row}, Can (r :: t) → Ok r
  | [], h => h
  | _ :: _, h => h.1
/-- the rows behind the head end two days ahead of it -/
theorem Can.under : ∀ {t : List Row} {r : Row}, Can (r :: t) → ∀ s ∈ t, ∃ j, s.2 = some j ∧ j + 1 < r.1
  | [], _, _, s, hs => nomatch hs
  | u :: t, r, h, s, hs => by
    obtain ⟨j, e, hj⟩ := h.2.1
    rcases List.mem_cons.mp hs with rfl | hs
    · exact ⟨j, e, hj⟩
    · obtain ⟨i, e2, hi⟩ := Can.under h.2.2 s hs
      have := h.2.2.hd.2 j e
      exact ⟨i, e2, by omega⟩
theorem Can.ok : ∀ {L : List Row}, Can L → ∀ s ∈ L, Ok s
  | [], _, s, hs => nomatch hs
  | r :: t, h, s, hs => by
    rcases List.mem_cons.mp hs with rfl | hs
    · exact h.hd
    · exact h.tail.ok s hs
theorem ins_cons {r : Row} {t : List Row} {d : Int} : Ins (r :: t) d ↔ In r d ∨ Ins t d := by
  constructor
  · rintro ⟨s, hs, h⟩
    rcases List.mem_cons.mp hs with rfl | hs
    · exact .inl h
    · exact .inr ⟨s, hs, h⟩
  · rintro (h | ⟨s, hs, h⟩)
    · exact ⟨r, .head _, h⟩
    · exact ⟨s, .tail _ hs, h⟩
theorem not_nil {d : Int} : ¬ Ins [] d := fun ⟨_, h, _⟩ => nomatch h
/-- what is of the tail is two days ahead of the head -/
theorem Can.below {r : Row} {t : List Row} (h : Can (r :: t)) {d : Int} (hd : Ins t d) : d + 1 < r.1 := by
  obtain ⟨s, hs, hi⟩ := hd
  obtain ⟨j, e, hj⟩ := h.under s hs
  have := hi.2 j e
  omega
/-- the same days, told in one way -/
theorem uniq : ∀ {L L' : List Row}, Can L → Can L' → (∀ d, Ins L d ↔ Ins L' d) → L = L'
  | [], [], _, _, _ => rfl
  | [], r :: t, _, h', e => absurd ((e r.1).mpr (ins_cons.mpr (.inl h'.hd.self))) not_nil
  | r :: t, [], h, _, e => absurd ((e r.1).mp (ins_cons.mpr (.inl h.hd.self))) not_nil
  | (a, x) :: t, (b, y) :: t', h, h', e => by
    have ha := h.hd
    have hb := h'.hd
    have lo : ∀ {a b : Int} {x y : Option Int} {t t' : List Row}, Can ((a, x) :: t) → Can ((b, y) :: t') → (∀ d, Ins ((a, x) :: t) d ↔ Ins ((b, y) :: t') d) → y = x → b ≤ a := by
      intro a b x y t t' h h' e exy
      by_cases hlt : a < b
      · exfalso
        have hin : In (a, x) (b - 1) := ⟨by show a ≤ b - 1; omega, fun j ej => by
          have := h'.hd.2 j (by show y = some j; rw [exy]; exact ej)
          show b - 1 ≤ j
          have : b ≤ j := this
          omega⟩
        rcases ins_cons.mp ((e (b - 1)).mp (ins_cons.mpr (.inl hin))) with z | z
        · have := z.1
          have : b ≤ b - 1 := this
          omega
        · have := h'.below z
          have : b - 1 + 1 < b := this
          omega
      · omega
    have hi : ∀ {a b : Int} {x y : Option Int} {t t' : List Row}, Can ((a, x) :: t) → Can ((b, y) :: t') → (∀ d, Ins ((a, x) :: t) d ↔ Ins ((b, y) :: t') d) → ∀ j, y = some j → ∃ i, x = some i ∧ i ≤ j := by
      intro a b x y t t' h h' e j ej
      have top : ∀ d, Ins ((b, y) :: t') d → d ≤ j := fun d hd => by
        rcases ins_cons.mp hd with z | z
        · exact z.2 j ej
        · have := h'.below z
          have h2 := h'.hd.2 j ej
          have : d + 1 < b := this
          have : b ≤ j := h2
          omega
      cases x with
      | none =>
        exfalso
        by_cases hc : a ≤ j + 1
        · have := top (j + 1) ((e _).mp (ins_cons.mpr (.inl ⟨hc, nofun⟩)))
          omega
        · have := top a ((e _).mp (ins_cons.mpr (.inl h.hd.self)))
          omega
      | some i =>
        refine ⟨i, rfl, ?_⟩
        exact top i ((e _).mp (ins_cons.mpr (.inl ⟨h.hd.2 i rfl, fun k ek => by cases ek; exact Int.le_refl _⟩)))
    have exy : x = y := by
      cases y with
      | some j =>
        obtain ⟨i, rfl, hij⟩ := hi h h' e j rfl
        obtain ⟨k, ek, hk⟩ := hi h' h (fun d => (e d).symm) i rfl
        cases ek
        exact congrArg some (by omega)
      | none =>
        cases x with
        | none => rfl
        | some i =>
          obtain ⟨k, ek, _⟩ := hi h' h (fun d => (e d).symm) i rfl
          cases ek
    subst exy
    have eab : a = b := by
      have h1 := lo h h' e rfl
      have h2 := lo h' h (fun d => (e d).symm) rfl
      omega
    subst eab
    have et : t = t' := uniq h.tail h'.tail fun d => by
      constructor
      · intro hd
        have lt := h.below hd
        rcases ins_cons.mp ((e d).mp (ins_cons.mpr (.inr hd))) with z | z
        · have := z.1
          have : a ≤ d := this
          have : d + 1 < a := lt
          omega
        · exact z
      · intro hd
        have lt := h'.below hd
        rcases ins_cons.mp ((e d).mpr (ins_cons.mpr (.inr hd))) with z | z
        · have := z.1
          have : a ≤ d := this
          have : d + 1 < a := lt
          omega
        · exact z
    rw [et]
/-! ### merging -/
/-! ### the walk over the marks -/
/-! ### the rows' own look -/
end LD
set_option Elab.async false
set_option linter.all false
set_option maxRecDepth 100000
set_option maxHeartbeats 3200000
namespace LT
open PySem PySem.Spec PyProof.Rows L2
end LT
set_option Elab.async false
set_option linter.all false
set_option maxRecDepth 100000
namespace LT
open PySem PySem.Spec PyProof.Rows L2 LamX
/-- a list or a tuple -/
def Sq2 (K : PySem.W.Frag) (H : Hp) (a : Addr) (xs : List V) : Prop := SqL K H a xs ∨ SqT K H a xs
def Still (K : PySem.W.Frag) (H1 : Hp) (a : Addr) (xs : List V) (H : Hp) : Prop := (SqL K H1 a xs → SqL K H a xs) ∧ (SqT K H1 a xs → SqT K H a xs)
theorem Still.of {K : PySem.W.Frag} {H1 H : Hp} {a : Addr} {xs : List V} (e : ExtN H1 H) : Still K H1 a xs H := ⟨extN_seqL e, extN_seqT e⟩
theorem Sq2.ext {K : PySem.W.Frag} {H1 H : Hp} {a : Addr} {xs : List V} (h : Sq2 K H1 a xs) (e : ExtN H1 H) : Sq2 K H a xs := h.imp (extN_seqL e) (extN_seqT e)
end LT
set_option Elab.async false
set_option linter.all false
set_option maxRecDepth 100000
set_option maxHeartbeats 1600000
namespace LT
open PySem PySem.Spec PyProof.Rows L2
end LT
set_option Elab.async false
set_option linter.all false
set_option maxRecDepth 100000
set_option maxHeartbeats 1600000
/-! Own layer: what the laws over books draw: names, plans, events. -/
namespace LT
open PySem PySem.Spec PyProof.Rows L2 NdefX
/-- unlike names -/
structure Names (zs : List Str) : Prop where
  nd : zs.Nodup
  nm : ∀ z ∈ zs, Nm z
theorem Names.nil : Names [] := ⟨List.nodup_nil, nofun⟩
theorem cutS_take {z : Str} {i : Int} (h : 0 ≤ i) : (cutS z none (some i)).cps.toList = z.cps.toList.take i.toNat := by
  have hl : z.length = z.cps.toList.length := Array.length_toList.symm
  show (z.cps.toList.drop (HT.sIx z.length 0 none)).take (HT.sIx z.length z.length (some i) - HT.sIx z.length 0 none) = _
  rw [HT.sIx_none, sIx_pos h, List.drop_zero, Nat.sub_zero, hl, List.take_eq_take_iff]
  omega
/-! ### plans -/
def kindS (mv : Bool) : Str := if mv = true then Str.ofString "move" else Str.ofString "land"
theorem kind_eq (a b : Bool) : decide (V.str (kindS a) = V.str (kindS b)) = decide (a = b) := by cases a <;> cases b <;> decide +kernel
structure PlanD where
  n : Addr
  r : Addr
  l : Addr
  zs : List Str
  rk : List (Str × Int)
  ls : List Str
  far : Int
def planK (D : PlanD) (kn : Int) (la : Addr) : List (Key × V) :=
  [(.inr "names", .ref D.n), (.inr "ranks", .ref D.r), (.inr "lights", .ref D.l), (.inr "far", .int D.far), (.inr "known", .int kn), (.inr "last", .ref la)]
/-- pairs of a name and a number, as tuples -/
def PairsP (H : Hp) (ts : List Addr) (rs : List (Str × Int)) : Prop := Paired (fun t (q : Str × Int) => H t = some (.tup [.str q.1, .int q.2])) ts rs
theorem PairsP.upd {H : Hp} {ts : List Addr} {rs : List (Str × Int)} {F : Addr} {xs : List V} {o : HO} (h : PairsP H ts rs) (e : H F = some (.lst xs)) : PairsP (L2.upd H F o) ts rs := paired_imp (fun t p h => by rw [upd_ne (ne_of h e (by intro z; cases z))]; exact h) h
theorem PairsP.kv {K : PySem.W.Frag} {H : Hp} {ts : List Addr} {rs : List (Str × Int)} (h : PairsP H ts rs) : Paired (fun p (kv : Key × V) => SqT K H p [kV kv.1, kv.2]) ts (sd rs) := by
  induction h with
  | nil => exact .nil
  | cons r _ ih => exact .cons (SqT.of r) ih
structure PlanI (H : Hp) (D : PlanD) : Prop where
  hn : H D.n = some (.lst (D.zs.map V.str))
  hr : H D.r = some (.dK (sd D.rk))
  hl : H D.l = some (.lst (D.ls.map V.str))
theorem PlanI.mono {H H' : Hp} {D : PlanD} (h : PlanI H D) (s : Same H H') : PlanI H' D := ⟨s _ _ h.hn, s _ _ h.hr, s _ _ h.hl⟩
theorem strs_no_pot {zs : List Str} (a b : Int) : (HO.lst (zs.map V.str)) ≠ .lst [.int a, .int b] := strs_not_ints
structure PlanG (D : PlanD) : Prop where
  zs : Names D.zs
  ls : Names D.ls
  l0 : 0 < D.ls.length
  zk : D.rk.map (·.1) = D.zs
  rk : Rk D.rk
  f0 : 0 ≤ D.far
  f1 : D.far < 10 ^ 54
  z8 : D.zs.length ≤ 30
  l8 : D.ls.length ≤ 3
/-- an event as a tuple -/
def EvT (H : Hp) (t : Addr) (e : Evt) : Prop := H t = some (.tup [.str (kindS e.mv), .int e.kn, .str e.who, .int e.day, e.w])
/-- what was told last, in short -/
def LastAt (H : Hp) (la : Addr) : Option Evt → Prop
  | none => H la = some (.lst [])
  | some e => ∃ t, H la = some (.lst [.ref t]) ∧ H t = some (.tup [.str (kindS e.mv), .str e.who, .int e.day])
theorem LastAt.mono {H H' : Hp} {la : Addr} {o : Option Evt} (h : LastAt H la o) (s : Same H H') : LastAt H' la o := by
  cases o with
  | none => exact s _ _ h
  | some e =>
    obtain ⟨t, a, b⟩ := h
    exact ⟨t, s _ _ a, s _ _ b⟩
/-- a list of events -/
def EvsAt (H Hi : Hp) (E : Addr) (es : List Evt) : Prop := ∃ ts : List Addr, H E = some (.lst (ts.map V.ref)) ∧ Paired (EvT Hi) ts es
theorem EvsAt.mono {H H' Hi Hi' : Hp} {E : Addr} {es : List Evt} (h : EvsAt H Hi E es) (s : Same H H') (s' : Same Hi Hi') : EvsAt H' Hi' E es := by
  obtain ⟨ts, a, b⟩ := h
  exact ⟨ts, s _ _ a, paired_imp (fun _ _ h => s' _ _ h) b⟩
/-- by day, what is told last, as a dict is made of it -/
def heldD (es : List Evt) (mv : Bool) (z : Str) (kn : Option Int) : List (Int × V) := es.foldl (fun t e => if (ofE mv z e && ctK kn e.kn) = true then putA t e.day e.w else t) []
theorem heldD_snoc (es : List Evt) (e : Evt) (mv : Bool) (z : Str) (kn : Option Int) : heldD (es ++ [e]) mv z kn = if (ofE mv z e && ctK kn e.kn) = true then putA (heldD es mv z kn) e.day e.w else heldD es mv z kn := by
  unfold heldD
  rw [List.foldl_append]
  rfl
theorem heldD_get (mv : Bool) (z : Str) (kn : Option Int) (d : Int) : ∀ es : List Evt, getA (heldD es mv z kn) d = heldO es mv z kn d := by
  refine snoc_ind rfl fun es e ih => ?_
  rw [heldD_snoc, heldO_snoc]
  unfold heldP
  by_cases h : (ofE mv z e && ctK kn e.kn) = true
  · rw [if_pos h, getA_put, h]
    by_cases hd : d = e.day
    · rw [if_pos hd, if_pos (by rw [decide_eq_true hd.symm]; rfl)]
    · rw [if_neg hd, if_neg (by rw [decide_eq_false (Ne.symm hd)]; nofun), ih]
  · rw [if_neg h, bool_false h, if_neg (by nofun), ih]
theorem heldD_keys (mv : Bool) (z : Str) (kn : Option Int) : ∀ es : List Evt, ((heldD es mv z kn).map (·.1)).Nodup ∧ (heldD es mv z kn).length ≤ es.length := by
  refine snoc_ind ⟨List.nodup_nil, Nat.le_refl _⟩ fun es e ih => ?_
  rw [heldD_snoc]
  have hl : (es ++ [e]).length = es.length + 1 := by rw [List.length_append]; rfl
  rw [hl]
  split
  · refine ⟨nodup_put ih.1, ?_⟩
    have := putA_len (kvs := heldD es mv z kn) (k := e.day) (v := e.w)
    have := ih.2
    omega
  · exact ⟨ih.1, by have := ih.2; omega⟩
theorem same_put {H H' : Hp} {d : Addr} {o : HO} (n : H d = none) (s : Same H H') : Same H (L2.upd H' d o) := fun b x e => by
  rw [upd_ne (ne_of_none e n)]
  exact s b x e
end LT
set_option Elab.async false
set_option linter.all false
set_option maxRecDepth 100000
set_option maxHeartbeats 1600000
/-! Own layer: o.m(e, .., k = v, ..), defaults among the rest. -/
namespace LT
open PySem PySem.Spec PyProof.Rows L2
end LT
set_option Elab.async false
set_option linter.all false
set_option maxRecDepth 100000
set_option maxHeartbeats 1600000
/-! Own layer: a plan, its book and its list of events, side by side with others. -/
namespace LT
open PySem PySem.Spec PyProof.Rows L2 NdefX
structure Cl where
  P : Addr
  E : Addr
  b : Addr
  la : Addr
  D : PlanD
  kn : Int
  es : List Evt
  fp : List Addr
def Cl.m (c : Cl) : List Addr := c.P :: c.E :: c.fp
/-- what the plan holds as told last, if anything -/
def LastOK (H : Hp) (la : Addr) (rk : List (Str × Int)) : Prop := ∃ o, LastAt H la o ∧ ∀ e, o = some e → EvOK rk e
theorem LastOK.mono {H H' : Hp} {la : Addr} {rk : List (Str × Int)} (h : LastOK H la rk) (s : Same H H') : LastOK H' la rk := by
  obtain ⟨o, a, b⟩ := h
  exact ⟨o, a.mono s, b⟩
structure ClAt (CB CH : Addr) (H Hi : Hp) (c : Cl) : Prop where
  hP : H c.P = some (.dK (planK c.D c.kn c.la))
  hI : PlanI Hi c.D
  hG : PlanG c.D
  k0 : 0 ≤ c.kn
  la : LastOK Hi c.la c.D.rk
  ev : EvsAt H Hi c.E c.es
  bk : Bk CB CH H c.b c.D.rk c.es c.fp
  kl : ∀ e ∈ c.es, e.kn ≤ c.kn
  nPE : c.P ≠ c.E
  nPf : c.P ∉ c.fp
  nEf : c.E ∉ c.fp
theorem ClAt.frame {CB CH : Addr} {H H' Hi Hi' : Hp} {c : Cl} {S : List Addr} (h : ClAt CB CH H Hi c) (s : SameL S H H') (si : Same Hi Hi') (n : ∀ a ∈ c.m, a ∉ S) : ClAt CB CH H' Hi' c := by
  obtain ⟨ts, e1, e2⟩ := h.ev
  exact ⟨s _ _ (n _ List.mem_cons_self) h.hP, h.hI.mono si, h.hG, h.k0, h.la.mono si,
    ⟨ts, s _ _ (n _ (List.mem_cons_of_mem _ List.mem_cons_self)) e1, paired_imp (fun _ _ h => si _ _ h) e2⟩,
    h.bk.monoL s fun c hc => n c (List.mem_cons_of_mem _ (List.mem_cons_of_mem _ hc)), h.kl, h.nPE, h.nPf, h.nEf⟩
theorem ClAt.ex {CB CH : Addr} {H Hi : Hp} {c : Cl} (h : ClAt CB CH H Hi c) : ∀ a ∈ c.m, ∃ o, H a = some o := by
  intro a ha
  rcases List.mem_cons.mp ha with rfl | ha
  · exact ⟨_, h.hP⟩
  rcases List.mem_cons.mp ha with rfl | ha
  · obtain ⟨ts, e1, _⟩ := h.ev
    exact ⟨_, e1⟩
  · exact h.bk.ex a ha
theorem ClAt.evok {CB CH : Addr} {H Hi : Hp} {c : Cl} (h : ClAt CB CH H Hi c) : Rk c.D.rk ∧ Rising c.es ∧ ∀ e ∈ c.es, EvOK c.D.rk e := h.bk.ev
/-- two such, and a pot -/
structure Two (CB CH : Addr) (H : Hp) (p : Addr) (c d : Cl) : Prop where
  pot : Pot H p
  c1 : ClAt CB CH H (Ho (p :: (c.m ++ d.m)) H) c
  d1 : ClAt CB CH H (Ho (p :: (c.m ++ d.m)) H) d
  pc : p ∉ c.m
  pd : p ∉ d.m
  cd : ∀ a ∈ c.m, a ∉ d.m
theorem ho_perm {M M' : List Addr} {H : Hp} (h : ∀ a, a ∈ M' → a ∈ M) : Same (Ho M H) (Ho M' H) := fun a o e => by
  obtain ⟨h1, h2⟩ := ho_iff.mp e
  exact ho_in (fun z => h1 (h a z)) h2
theorem mem_two {p a : Addr} {x y : List Addr} : a ∈ p :: (x ++ y) ↔ a = p ∨ a ∈ x ∨ a ∈ y := by rw [List.mem_cons, List.mem_append]
theorem Two.ex {CB CH : Addr} {H : Hp} {p : Addr} {c d : Cl} (h : Two CB CH H p c d) : ∀ a ∈ p :: (c.m ++ d.m), ∃ o, H a = some o := by
  intro a ha
  rcases mem_two.mp ha with rfl | ha | ha
  · obtain ⟨x, y, e, _⟩ := h.pot
    exact ⟨_, e⟩
  · exact h.c1.ex a ha
  · exact h.d1.ex a ha
/-- what only looks, and draws -/
theorem Two.look {CB CH : Addr} {H H' : Hp} {p : Addr} {c d : Cl} (h : Two CB CH H p c d) (hp : Pot H' p) (s : SameB p H H') : Two CB CH H' p c d := by
  have sl : SameL [p] H H' := SameL.ofB List.mem_cons_self s
  have si : Same (Ho (p :: (c.m ++ d.m)) H) (Ho (p :: (c.m ++ d.m)) H') := ho_step sl (fun a ha => by rw [List.mem_singleton.mp ha]; exact List.mem_cons_self) fun a ha => .inl ha
  exact ⟨hp, h.c1.frame sl si fun a ha hm => h.pc (by rw [← List.mem_singleton.mp hm]; exact ha), h.d1.frame sl si fun a ha hm => h.pd (by rw [← List.mem_singleton.mp hm]; exact ha), h.pc, h.pd, h.cd⟩
theorem Two.mono {CB CH : Addr} {H H' : Hp} {p : Addr} {c d : Cl} (h : Two CB CH H p c d) (s : Same H H') : Two CB CH H' p c d := h.look (h.pot.mono s) (SameB.of s)
/-! ### what is asked of it -/
/-- the law's search, under way -/
def WhInv (t : List (Int × V)) (d : Int) (found : V) (since : Int) : Prop :=
  (∀ p ∈ t, p.2 ≠ .non → p.1 ≤ d → p.1 ≤ since) ∧ ((since = -1 ∧ found = .str (Str.ofString "")) ∨ ((since, found) ∈ t ∧ found ≠ .non ∧ since ≤ d))
theorem WhInv.nil {d : Int} : WhInv [] d (.str (Str.ofString "")) (-1) := ⟨nofun, .inl ⟨rfl, rfl⟩⟩
theorem WhInv.take {t : List (Int × V)} {d : Int} {found : V} {since : Int} {p : Int × V} (h : WhInv t d found since) (n : p.2 ≠ .non) (h1 : since < p.1) (h2 : p.1 ≤ d) : WhInv (t ++ [p]) d p.2 p.1 := by
  refine ⟨fun q hq a b => ?_, .inr ⟨List.mem_append_right _ List.mem_cons_self, n, h2⟩⟩
  rcases List.mem_append.mp hq with hq | hq
  · have := h.1 q hq a b
    omega
  · rw [List.mem_singleton.mp hq]
    exact Int.le_refl _
theorem WhInv.is {es : List Evt} {mv : Bool} {z : Str} {kn : Option Int} {d : Int} {found : V} {since : Int} (h : WhInv (heldD es mv z kn) d found since) (h0 : ∀ e ∈ es, 0 ≤ e.day) : IsWhere (heldE es mv z kn) d found := by
  have nd := (heldD_keys mv z kn es).1
  have key : ∀ o w, (o, w) ∈ heldD es mv z kn → heldE es mv z kn o = w := fun o w hm => by
    have := getA_of_mem nd hm
    rw [heldD_get] at this
    unfold heldE
    rw [this]
    rfl
  have back : ∀ o, heldE es mv z kn o ≠ .non → (o, heldE es mv z kn o) ∈ heldD es mv z kn := fun o ho => by
    unfold heldE at ho ⊢
    cases e : heldO es mv z kn o with
    | none => rw [e] at ho; exact absurd rfl ho
    | some w =>
      rw [← heldD_get] at e
      exact getA_mem e
  rcases h.2 with ⟨rfl, rfl⟩ | ⟨a, b, c⟩
  · refine .inr ⟨fun o ho => Classical.byContradiction fun hn => ?_, rfl⟩
    have h1 := h.1 _ (back o hn) hn ho
    have hm := getA_of_mem nd (back o hn)
    rw [heldD_get] at hm
    obtain ⟨e, he, hp, _⟩ := heldO_mem hm
    have := h0 e he
    have := (heldP_iff.mp hp).2.2
    simp only at h1
    omega
  · exact .inl ⟨since, c, key _ _ a, b, fun o ho hn => h.1 _ (back o hn) hn ho⟩
/-- one such, and a pot -/
structure One (CB CH : Addr) (H : Hp) (p : Addr) (c : Cl) : Prop where
  pot : Pot H p
  c1 : ClAt CB CH H (Ho (p :: c.m) H) c
  pc : p ∉ c.m
theorem Two.one {CB CH : Addr} {H : Hp} {p : Addr} {c d : Cl} (h : Two CB CH H p c d) : One CB CH H p c :=
  ⟨h.pot, h.c1.frame (S := []) (.of (Same.refl _)) (ho_perm fun a ha => mem_two.mpr ((List.mem_cons.mp ha).imp id .inl)) (fun _ _ => nofun), h.pc⟩
theorem One.look {CB CH : Addr} {H H' : Hp} {p : Addr} {c : Cl} (h : One CB CH H p c) (hp : Pot H' p) (s : SameB p H H') : One CB CH H' p c := by
  have sl : SameL [p] H H' := SameL.ofB List.mem_cons_self s
  have si : Same (Ho (p :: c.m) H) (Ho (p :: c.m) H') := ho_step sl (fun a ha => by rw [List.mem_singleton.mp ha]; exact List.mem_cons_self) fun a ha => .inl ha
  exact ⟨hp, h.c1.frame sl si fun a ha hm => h.pc (by rw [← List.mem_singleton.mp hm]; exact ha), h.pc⟩
theorem One.mono {CB CH : Addr} {H H' : Hp} {p : Addr} {c : Cl} (h : One CB CH H p c) (s : Same H H') : One CB CH H' p c := h.look (h.pot.mono s) (SameB.of s)
theorem One.ex {CB CH : Addr} {H : Hp} {p : Addr} {c : Cl} (h : One CB CH H p c) : ∀ a ∈ p :: c.m, ∃ o, H a = some o := by
  intro a ha
  rcases List.mem_cons.mp ha with rfl | ha
  · obtain ⟨x, y, e, _⟩ := h.pot
    exact ⟨_, e⟩
  · exact h.c1.ex a ha
section
variable {CB CH : Addr} {H : Hp} {p : Addr} {c : Cl}
theorem Bk.ix {b : Addr} {rk : List (Str × Int)} {es : List Evt} {fp : List Addr} (h : Bk CB CH H b rk es fp) : ∃ dx R M L v, H b = some (.ins CB dx [("rank_of", .ref R), ("moves", .ref M), ("landings", .ref L), ("latest_known", v)]) := by
  obtain ⟨B, rfl, rfl, rfl, rfl, bh, _⟩ := h
  exact ⟨_, _, _, _, _, bh.ix⟩
theorem One.hn (h : One CB CH H p c) : H c.D.n = some (.lst (c.D.zs.map V.str)) := ho_le _ _ h.c1.hI.hn
theorem One.hl (h : One CB CH H p c) : H c.D.l = some (.lst (c.D.ls.map V.str)) := ho_le _ _ h.c1.hI.hl
theorem One.hr (h : One CB CH H p c) : H c.D.r = some (.dK (sd c.D.rk)) := ho_le _ _ h.c1.hI.hr
theorem One.days (h : One CB CH H p c) : ∀ e ∈ c.es, 0 ≤ e.day := fun e he => (h.c1.evok.2.2 e he).d0
end
end LT
set_option Elab.async false
set_option linter.all false
set_option maxRecDepth 100000
set_option maxHeartbeats 1600000
/-! Own layer: runs of days, heads, what is left (pure). -/
namespace LT
open PySem PySem.Spec PyProof.Rows L2 NdefX
/-! ### values by day -/
def atL (s : V) (B : List (Int × V)) (d : Int) : V := B.foldl (fun r p => if p.1 ≤ d then p.2 else r) s
/-- where one is on day n -/
def plN (f : Int → V) : Nat → V
  | 0 => if f 0 = .non then .str (Str.ofString "") else f 0
  | n + 1 => if f ((n : Int) + 1) = .non then plN f n else f ((n : Int) + 1)
def plI (f : Int → V) (d : Int) : V := plN f d.toNat
/-! ### covers of all days -/
section
variable {β : Type}
def Cov (fi : β → Int) (la : β → Option Int) (K : β → Int → Prop) : Int → List β → Prop
  | _, [] => False
  | f, [b] => fi b = f ∧ la b = none ∧ ∀ d, f ≤ d → K b d
  | f, b :: c :: r => fi b = f ∧ (∃ e, la b = some e ∧ f ≤ e ∧ (∀ d, f ≤ d → d ≤ e → K b d) ∧ Cov fi la K (e + 1) (c :: r))
def CovT (fi : β → Int) (la : β → Option Int) (K : β → Int → Prop) : Int → List β → Int → Prop
  | f, [], x => f = x
  | f, b :: r, x => fi b = f ∧ ∃ e, la b = some e ∧ f ≤ e ∧ (∀ d, f ≤ d → d ≤ e → K b d) ∧ CovT fi la K (e + 1) r x
variable {fi : β → Int} {la : β → Option Int} {K : β → Int → Prop}
def HasD2 (fi : β → Int) (la : β → Option Int) (b : β) (d : Int) : Prop := fi b ≤ d ∧ ∀ e, la b = some e → d ≤ e
theorem Cov.imp {K' : β → Int → Prop} (hk : ∀ b d, K b d → K' b d) : ∀ {S : List β} {f : Int}, Cov fi la K f S → Cov fi la K' f S
  | [], _, h => h
  | [b], f, ⟨a1, a2, a3⟩ => ⟨a1, a2, fun d h => hk b d (a3 d h)⟩
  | b :: c :: r, f, ⟨a1, e, a2, a3, a4, a5⟩ => ⟨a1, e, a2, a3, fun d h1 h2 => hk b d (a4 d h1 h2), Cov.imp (S := c :: r) hk a5⟩
/-- the one that has a day -/
theorem Cov.one : ∀ {S : List β} {f : Int}, Cov fi la K f S → ∀ d, f ≤ d → ∃ (i : Nat) (b : β), S[i]? = some b ∧ HasD2 fi la b d ∧ K b d ∧ ∀ j c, S[j]? = some c → HasD2 fi la c d → j = i
  | [], _, h, _, _ => h.elim
  | [b], f, ⟨a1, a2, a3⟩, d, hd => ⟨0, b, rfl, ⟨by omega, fun e he => by rw [a2] at he; cases he⟩, a3 d hd, fun j c hj _ => by
    have := (List.getElem?_eq_some_iff.mp hj).1
    simp at this
    exact this⟩
  | b :: c :: r, f, ⟨a1, e, a2, a3, a4, a5⟩, d, hd => by
    have low : ∀ {S : List β} {f : Int}, Cov fi la K f S → ∀ x ∈ S, f ≤ fi x := by
      intro S
      induction S with
      | nil => exact fun h => h.elim
      | cons y ys ih =>
        intro f h x hx
        cases ys with
        | nil =>
          obtain ⟨h1, _⟩ := h
          rw [List.mem_singleton.mp hx]
          omega
        | cons z zs =>
          obtain ⟨h1, e, _, h3, _, h5⟩ := h
          rcases List.mem_cons.mp hx with rfl | hx
          · omega
          · have := ih h5 x hx
            omega
    by_cases hde : d ≤ e
    · refine ⟨0, b, rfl, ⟨by omega, fun e' he => by rw [a2] at he; cases he; exact hde⟩, a4 d hd hde, fun j x hj hx => ?_⟩
      cases j with
      | zero => rfl
      | succ j =>
        have := low a5 x (List.mem_of_getElem? hj)
        have := hx.1
        omega
    · obtain ⟨i, x, h1, h2, h3, h4⟩ := Cov.one (S := c :: r) a5 d (by omega)
      refine ⟨i + 1, x, h1, h2, h3, fun j y hj hy => ?_⟩
      cases j with
      | zero =>
        cases hj
        have := hy.2 e a2
        omega
      | succ j => exact congrArg Nat.succ (h4 j y hj hy)
end
/-! ### runs -/
abbrev Run := V × Int × Option Int
def rFi (r : Run) : Int := r.2.1
def rLa (r : Run) : Option Int := r.2.2
/-! ### sums by day -/
def sumLe (t : List (Int × Int)) (d : Int) : Int := ((t.filter fun p => decide (p.1 ≤ d)).map (·.2)).sum
theorem sumLe_nil (d : Int) : sumLe [] d = 0 := rfl
theorem sumLe_cons (p : Int × Int) (t : List (Int × Int)) (d : Int) : sumLe (p :: t) d = (if p.1 ≤ d then p.2 else 0) + sumLe t d := by
  unfold sumLe
  rw [List.filter_cons]
  by_cases h : p.1 ≤ d
  · rw [if_pos (decide_eq_true h), List.map_cons, List.sum_cons, if_pos h]
  · rw [if_neg (by rw [decide_eq_false h]; nofun), if_neg h, Int.zero_add]
theorem sumLe_app (a b : List (Int × Int)) (d : Int) : sumLe (a ++ b) d = sumLe a d + sumLe b d := by
  unfold sumLe
  rw [List.filter_append, List.map_append, List.sum_append]
theorem sumLe_set {k x δ d : Int} : ∀ {t : List (Int × Int)}, (t.map (·.1)).Nodup → getA t k = some x → sumLe (t.map fun p => if p.1 = k then (p.1, x + δ) else p) d = sumLe t d + if k ≤ d then δ else 0
  | [], _, h => nomatch h
  | p :: r, nd, hg => by
    have nd' := List.nodup_cons.mp nd
    rw [List.map_cons, sumLe_cons, sumLe_cons]
    by_cases e : p.1 = k
    · rw [getA_pos e] at hg
      have hx : p.2 = x := Option.some.inj hg
      have em : r.map (fun p => if p.1 = k then (p.1, x + δ) else p) = r := by
        have : ∀ q ∈ r, (if q.1 = k then (q.1, x + δ) else q) = q := fun q hq => if_neg fun z => nd'.1 (List.mem_map.mpr ⟨q, hq, z.trans e.symm⟩)
        exact (List.map_congr_left this).trans (List.map_id _)
      rw [em, if_pos e, hx, e]
      show (if k ≤ d then x + δ else 0) + _ = _
      split <;> omega
    · rw [getA_neg e] at hg
      rw [if_neg e, sumLe_set nd'.2 hg]
      omega
/-- one entry more by so much -/
theorem sumLe_put {k δ d : Int} {t : List (Int × Int)} (nd : (t.map (·.1)).Nodup) : sumLe (putA t k ((getA t k).getD 0 + δ)) d = sumLe t d + if k ≤ d then δ else 0 := by
  cases hg : getA t k with
  | none =>
    rw [putA_new hg, sumLe_app, sumLe_cons, sumLe_nil]
    show sumLe t d + ((if k ≤ d then 0 + δ else 0) + 0) = _
    rw [Int.add_zero, Int.zero_add]
  | some x =>
    rw [putA_old hg]
    exact sumLe_set nd hg
/-- the sum over the first so many days -/
def sumN (g : Nat → Int) : Nat → Int
  | 0 => 0
  | n + 1 => sumN g n + g n
theorem sumN_congr {g h : Nat → Int} : ∀ {n : Nat}, (∀ i, i < n → g i = h i) → sumN g n = sumN h n
  | 0, _ => rfl
  | n + 1, e => by
    show sumN g n + g n = sumN h n + h n
    rw [sumN_congr fun i hi => e i (by omega), e n (by omega)]
/-- so many days on which it is the same -/
theorem sumN_const {g : Nat → Int} {m : Int} {a : Nat} : ∀ {k : Nat}, (∀ i, a ≤ i → i < a + k → g i = m) → sumN g (a + k) = sumN g a + m * k
  | 0, _ => by
    show sumN g a = _
    rw [show ((0 : Nat) : Int) = 0 from rfl, Int.mul_zero, Int.add_zero]
  | k + 1, h => by
    show sumN g (a + k) + g (a + k) = _
    rw [sumN_const fun i h1 h2 => h i h1 (by omega), h (a + k) (by omega) (by omega), Int.add_assoc]
    congr 1
    rw [show ((k + 1 : Nat) : Int) = (k : Int) + 1 by omega, Int.mul_add, Int.mul_one]
/-! ### what is left -/
/-- at the end of day d, by what comes and goes on each day -/
def leftI (net : Nat → Int) (d : Int) : Int := sumN net (d + 1).toNat
theorem left_run {net : Nat → Int} {land eat : Nat → Int} (hn : ∀ i, net i = land i - eat i) {a d m : Int} (h0 : 0 ≤ a) (hd : a ≤ d) (hm : ∀ i : Nat, a ≤ i → (i : Int) ≤ d → eat i = m) (hl : ∀ i : Nat, a < i → (i : Int) ≤ d → land i = 0) :
    leftI net d = leftI net (a - 1) + land a.toNat - m * (d - a + 1) := by
  obtain ⟨n, rfl⟩ : ∃ n : Nat, a = (n : Int) := ⟨a.toNat, by omega⟩
  obtain ⟨k, rfl⟩ : ∃ k : Nat, d = (n : Int) + k := ⟨(d - n).toNat, by omega⟩
  unfold leftI
  have e1 : ((n : Int) + k + 1).toNat = n + 1 + k := by omega
  have e2 : ((n : Int) - 1 + 1).toNat = n := by omega
  have e3 : ((n : Int)).toNat = n := by omega
  rw [e1, e2, e3]
  rw [sumN_const (m := -m) fun i h1 h2 => by
    rw [hn i, hm i (by omega) (by omega), hl i (by omega) (by omega)]
    omega]
  show sumN net n + net n + -m * k = _
  rw [hn n, hm n (by omega) (by omega)]
  have : m * ((n : Int) + k - n + 1) = m * k + m := by
    rw [show (n : Int) + k - n + 1 = k + 1 by omega, Int.mul_add, Int.mul_one]
  rw [this, Int.neg_mul]
  omega
end LT
set_option Elab.async false
set_option linter.all false
set_option maxRecDepth 100000
set_option maxHeartbeats 1600000
/-! Own layer: turns, heads, parts, supplies, what is left (pure). -/
namespace LT
open PySem PySem.Spec PyProof.Rows L2 NdefX
/-! ### covers, to a last day or for ever -/
section
variable {β : Type} {fi : β → Int} {la : β → Option Int} {K : β → Int → Prop}
def CovX (fi : β → Int) (la : β → Option Int) (K : β → Int → Prop) (f : Int) (S : List β) : Option Int → Prop
  | none => Cov fi la K f S
  | some e => CovT fi la K f S (e + 1)
def NextB (fi : β → Int) (la : β → Option Int) (S : List β) (x : Option Int) (i : Nat) (b : β) : Prop :=
  (i + 1 = S.length ∧ la b = x ∧ ∀ e, x = some e → fi b ≤ e) ∨ ∃ e c, la b = some e ∧ fi b ≤ e ∧ S[i + 1]? = some c ∧ fi c = e + 1
theorem Cov.get : ∀ {S : List β} {f : Int}, Cov fi la K f S → ∀ i b, S[i]? = some b → f ≤ fi b ∧ (i = 0 → fi b = f) ∧ (∀ d, HasD2 fi la b d → K b d) ∧ NextB fi la S none i b
  | [], _, h, _, _, _ => h.elim
  | [x], f, ⟨a1, a2, a3⟩, i, b, hb => by
    cases i with
    | zero =>
      cases hb
      exact ⟨by omega, fun _ => a1, fun d hd => a3 d (by have := hd.1; omega), .inl ⟨rfl, a2, nofun⟩⟩
    | succ i => simp at hb
  | x :: y :: r, f, ⟨a1, e, a2, a3, a4, a5⟩, i, b, hb => by
    cases i with
    | zero =>
      cases hb
      obtain ⟨c1, c2, _⟩ := Cov.get (S := y :: r) a5 0 y rfl
      exact ⟨by omega, fun _ => a1, fun d hd => a4 d (by have := hd.1; omega) (hd.2 e a2), .inr ⟨e, y, a2, by omega, rfl, c2 rfl⟩⟩
    | succ i =>
      obtain ⟨c1, _, c3, c4⟩ := Cov.get (S := y :: r) a5 i b hb
      refine ⟨by omega, nofun, c3, ?_⟩
      rcases c4 with ⟨q1, q2⟩ | ⟨e', c, q1, q2, q3, q4⟩
      · exact .inl ⟨by rw [List.length_cons, ← q1], q2⟩
      · exact .inr ⟨e', c, q1, q2, q3, q4⟩
theorem CovT.get : ∀ {S : List β} {f z : Int}, CovT fi la K f S (z + 1) → ∀ i b, S[i]? = some b → f ≤ fi b ∧ (i = 0 → fi b = f) ∧ (∀ d, HasD2 fi la b d → K b d) ∧ NextB fi la S (some z) i b
  | [], _, _, h, _, _, hb => by simp at hb
  | [x], f, z, ⟨a1, e, a2, a3, a4, a5⟩, i, b, hb => by
    cases i with
    | zero =>
      cases hb
      have a5 : e + 1 = z + 1 := a5
      have ez : e = z := by omega
      subst ez
      exact ⟨by omega, fun _ => a1, fun d hd => a4 d (by have := hd.1; omega) (hd.2 e a2), .inl ⟨rfl, a2, fun e' h => by cases h; omega⟩⟩
    | succ i => simp at hb
  | x :: y :: r, f, z, ⟨a1, e, a2, a3, a4, a5⟩, i, b, hb => by
    cases i with
    | zero =>
      cases hb
      obtain ⟨c1, c2, _⟩ := CovT.get (S := y :: r) a5 0 y rfl
      exact ⟨by omega, fun _ => a1, fun d hd => a4 d (by have := hd.1; omega) (hd.2 e a2), .inr ⟨e, y, a2, by omega, rfl, c2 rfl⟩⟩
    | succ i =>
      obtain ⟨c1, _, c3, c4⟩ := CovT.get (S := y :: r) a5 i b hb
      refine ⟨by omega, nofun, c3, ?_⟩
      rcases c4 with ⟨q1, q2⟩ | ⟨e', c, q1, q2, q3, q4⟩
      · exact .inl ⟨by rw [List.length_cons, ← q1], q2⟩
      · exact .inr ⟨e', c, q1, q2, q3, q4⟩
theorem CovX.get {S : List β} {f : Int} {x : Option Int} (h : CovX fi la K f S x) (i : Nat) (b : β) (hb : S[i]? = some b) : f ≤ fi b ∧ (i = 0 → fi b = f) ∧ (∀ d, HasD2 fi la b d → K b d) ∧ NextB fi la S x i b := by
  cases x with
  | none => exact Cov.get h i b hb
  | some z => exact CovT.get h i b hb
theorem Cov.hd {S : List β} {f : Int} (h : Cov fi la K f S) : ∃ b, S[0]? = some b ∧ fi b = f := by
  match S, h with
  | [b], h => exact ⟨b, rfl, h.1⟩
  | b :: c :: r, h => exact ⟨b, rfl, h.1⟩
theorem CovX.hd {S : List β} {f : Int} {x : Option Int} (h : CovX fi la K f S x) (hx : ∀ e, x = some e → f ≤ e) : ∃ b, S[0]? = some b ∧ fi b = f := by
  cases x with
  | none => exact Cov.hd h
  | some z =>
    match S, h with
    | [], h =>
      have h : f = z + 1 := h
      have := hx z rfl
      omega
    | b :: r, h => exact ⟨b, rfl, h.1⟩
theorem Cov.le {S : List β} {f : Int} (h : Cov fi la K f S) : ∀ b ∈ S, f ≤ fi b ∧ ∀ e, la b = some e → fi b ≤ e := fun b hb => by
  obtain ⟨i, hi⟩ := List.getElem?_of_mem hb
  obtain ⟨h1, _, _, h2⟩ := h.get i b hi
  refine ⟨h1, fun e he => ?_⟩
  rcases h2 with ⟨_, q, _⟩ | ⟨e', c, q1, q2, _⟩
  · rw [he] at q
    cases q
  · rw [he] at q1
    cases q1
    exact q2
end
/-! ### parts that begin on days -/
abbrev Part := Int × Option Int
def hasB (f : Int) (x : Option Int) (d : Int) : Bool := decide (f ≤ d) && (match x with | none => true | some e => decide (d ≤ e))
theorem hasB_iff {f : Int} {x : Option Int} {d : Int} : hasB f x d = true ↔ f ≤ d ∧ ∀ e, x = some e → d ≤ e := by
  unfold hasB
  rw [Bool.and_eq_true, decide_eq_true_iff]
  cases x with
  | none => exact ⟨fun h => ⟨h.1, nofun⟩, fun h => ⟨h.1, rfl⟩⟩
  | some e => exact ⟨fun h => ⟨h.1, fun e' he => by cases he; exact of_decide_eq_true h.2⟩, fun h => ⟨h.1, decide_eq_true (h.2 e rfl)⟩⟩
theorem CovT.lt {β : Type} {fi : β → Int} {la : β → Option Int} {K : β → Int → Prop} : ∀ {S : List β} {f x : Int}, CovT fi la K f S x → f ≤ x
  | [], _, _, h => Int.le_of_eq h
  | _ :: _, _, _, ⟨_, e, _, h2, _, h4⟩ => by
    have := CovT.lt h4
    omega
/-! ### turns -/
def plE (es : List Evt) (z : Str) (kn : Option Int) (d : Int) : V := plI (heldE es true z kn) d
structure RunsOf (P : Int → Prop) (g : Int → V) (rs : List Run) : Prop where
  cov : Cov rFi rLa (fun x d => g d = x.1) 0 rs
  un : ∀ (i : Nat) a b, rs[i]? = some a → rs[i + 1]? = some b → a.1 ≠ b.1
  days : ∀ r ∈ rs, (rFi r = 0 ∨ P (rFi r)) ∧ ∀ e, rLa r = some e → P (e + 1)
theorem RunsOf.imp {P P' : Int → Prop} {g : Int → V} {rs : List Run} (h : RunsOf P g rs) (k : ∀ d, P d → P' d) : RunsOf P' g rs := ⟨h.cov, h.un, fun r hr => ⟨(h.days r hr).1.imp id (k _), fun e he => k _ ((h.days r hr).2 e he)⟩⟩
/-- an event's day -/
def EvD (es : List Evt) (mv : Bool) (z : Str) (d : Int) : Prop := ∃ e ∈ es, e.mv = mv ∧ e.who = z ∧ e.day = d
/-! ### heads -/
def manyI (es : List Evt) (zs : List Str) (z : Str) (kn : Option Int) (d : Int) : Int := ((zs.filter fun k => decide (plE es k kn d = .str z)).length : Nat)
def getI (t : List (Int × Int)) (k : Int) : Int := (getA t k).getD 0
def putStep (t : List (Int × Int)) (f : Int) : Option Int → List (Int × Int)
  | none => putA t f (getI t f + 1)
  | some e => putA (putA t f (getI t f + 1)) (e + 1) (getI (putA t f (getI t f + 1)) (e + 1) - 1)
theorem keys_putI {t : List (Int × Int)} {k v d : Int} (h : d ∈ (putA t k v).map (·.1)) : d = k ∨ d ∈ t.map (·.1) := by
  obtain ⟨p, hp, rfl⟩ := List.mem_map.mp h
  rcases mem_put hp with rfl | hp
  · exact .inl rfl
  · exact .inr (List.mem_map.mpr ⟨p, hp, rfl⟩)
structure Steps (P : Int → Prop) (t : List (Int × Int)) (g : Int → Int) : Prop where
  nd : (t.map (·.1)).Nodup
  ks : ∀ d ∈ t.map (·.1), d = 0 ∨ P d
  sum : ∀ d, sumLe t d = g d
theorem Steps.nil (P : Int → Prop) : Steps P [] (fun _ => 0) := ⟨List.nodup_nil, nofun, fun _ => rfl⟩
theorem Steps.put {P : Int → Prop} {t : List (Int × Int)} {g : Int → Int} {f : Int} {x : Option Int} (h : Steps P t g) (h1 : f = 0 ∨ P f) (h2 : ∀ e, x = some e → f ≤ e ∧ P (e + 1)) :
    Steps P (putStep t f x) (fun d => g d + if hasB f x d = true then 1 else 0) := by
  cases x with
  | none =>
    refine ⟨nodup_put h.nd, fun d hd => ?_, fun d => ?_⟩
    · rcases keys_putI hd with rfl | hd
      · exact h1
      · exact h.ks d hd
    · show sumLe (putA t f ((getA t f).getD 0 + 1)) d = _
      rw [sumLe_put h.nd, h.sum]
      by_cases hf : f ≤ d
      · rw [if_pos hf, if_pos (hasB_iff.mpr ⟨hf, fun e h => by cases h⟩)]
      · rw [if_neg hf, if_neg (fun z => hf (hasB_iff.mp z).1)]
  | some e =>
    obtain ⟨fe, pe⟩ := h2 e rfl
    refine ⟨nodup_put (nodup_put h.nd), fun d hd => ?_, fun d => ?_⟩
    · rcases keys_putI hd with rfl | hd
      · exact .inr pe
      · rcases keys_putI hd with rfl | hd
        · exact h1
        · exact h.ks d hd
    · have e1 : putStep t f (some e) = putA (putA t f ((getA t f).getD 0 + 1)) (e + 1) ((getA (putA t f ((getA t f).getD 0 + 1)) (e + 1)).getD 0 + -1) := rfl
      rw [e1, sumLe_put (nodup_put h.nd), sumLe_put h.nd, h.sum]
      by_cases hf : f ≤ d
      · rw [if_pos hf]
        by_cases he : e + 1 ≤ d
        · rw [if_pos he, if_neg (fun z => by have := (hasB_iff.mp z).2 e rfl; omega)]
          omega
        · rw [if_neg he, if_pos (hasB_iff.mpr ⟨hf, fun e' h => by cases h; omega⟩)]
          omega
      · rw [if_neg hf, if_neg (by omega), if_neg (fun z => hf (hasB_iff.mp z).1), Int.add_zero]
theorem Steps.len {es : List Evt} {mv : Bool} {t : List (Int × Int)} {g : Int → Int} (h : Steps (fun d => ∃ z, EvD es mv z d) t g) : t.length ≤ es.length + 1 := by
  have := List.Nodup.length_le_of_subset h.nd (l₂ := 0 :: es.map (·.day)) fun d hd => by
    rcases h.ks d hd with rfl | ⟨z, e, he, _, _, rfl⟩
    · exact List.mem_cons_self
    · exact List.mem_cons_of_mem _ (List.mem_map.mpr ⟨e, he, rfl⟩)
  rw [List.length_map, List.length_cons, List.length_map] at this
  exact this
instance (b : Run) (d : Int) : Decidable (HasD2 rFi rLa b d) := decidable_of_iff (hasB (rFi b) (rLa b) d = true) hasB_iff
/-! ### steps, day by day -/
def sumV (t : List (Int × Int)) (ks : List Int) : Int := (ks.map (getI t)).sum
structure Acc (t : List (Int × Int)) (ks : List Int) (rs : List (Int × V)) : Prop where
  ek : rs.map (·.1) = ks
  at_ : ∀ d, atL (.int 0) rs d = .int (sumV t (ks.filter fun k => decide (k ≤ d)))
  vs : ∀ p ∈ rs, ∃ m : Int, p.2 = .int m
theorem Acc.nil (t : List (Int × Int)) : Acc t [] [] := ⟨rfl, fun _ => rfl, nofun⟩
/-- what is told of heads -/
def HeadsOf (es : List Evt) (zs : List Str) (z : Str) (kn : Option Int) (rs : List Run) : Prop := RunsOf (fun d => ∃ k, EvD es true k d) (fun d => .int (manyI es zs z kn d)) rs
/-! ### what is left -/
def numI : V → Int
  | .int n => n
  | _ => 0
structure Shop where
  es : List Evt
  zs : List Str
  z : Str
  kn : Option Int
  R : Int
namespace Shop
def many (s : Shop) (d : Int) : Int := manyI s.es s.zs s.z s.kn d
def landW (s : Shop) (d : Int) : V := (heldO s.es false s.z s.kn d).getD (.int 0)
def land (s : Shop) (d : Int) : Int := numI (s.landW d)
def net (s : Shop) (i : Nat) : Int := s.land i - s.many i * s.R
def left (s : Shop) (d : Int) : Int := leftI s.net d
structure OK (s : Shop) (rk : List (Str × Int)) : Prop where
  ev : ∀ e ∈ s.es, EvOK rk e
  zl : s.zs.length ≤ 30
  r0 : 0 ≤ s.R
  r1 : s.R < 10 ^ 56
variable {s : Shop} {rk : List (Str × Int)}
theorem OK.d0 (h : s.OK rk) : ∀ e ∈ s.es, 0 ≤ e.day := fun e he => (h.ev e he).d0
/-- over a stretch of days on which as many eat and on none but the first anything is landed -/
theorem run {a d m : Int} (h0 : 0 ≤ a) (hd : a ≤ d) (hm : ∀ i, a ≤ i → i ≤ d → s.many i = m) (hl : ∀ i, a < i → i ≤ d → s.land i = 0) : s.left d = s.left (a - 1) + s.land a - m * s.R * (d - a + 1) := by
  have := left_run (net := s.net) (land := fun i => s.land i) (eat := fun i => s.many i * s.R) (fun _ => rfl) (m := m * s.R) h0 hd (fun i h1 h2 => by rw [hm i h1 h2]) (fun i h1 h2 => hl i h1 h2)
  have e : ((a.toNat : Nat) : Int) = a := Int.toNat_of_nonneg h0
  simp only [e] at this
  exact this
end Shop
structure Sup where
  fi : Int
  la : Option Int
  stock : Int
  eaten : Int
def supK (s : Shop) (b : Sup) (d : Int) : Prop := s.left d = b.stock - b.eaten * (d - b.fi + 1)
structure SupB (s : Shop) (b : Sup) : Prop where
  f0 : 0 ≤ b.fi
  f1 : b.fi < 10 ^ 55
  l1 : ∀ e, b.la = some e → b.fi ≤ e ∧ e < 10 ^ 55
  st : b.stock = s.left (b.fi - 1) + s.land b.fi
  e0 : 0 ≤ b.eaten
  e1 : b.eaten < 10 ^ 58
structure SupOf (s : Shop) (ss : List Sup) : Prop where
  cov : Cov Sup.fi Sup.la (supK s) 0 ss
  ok : ∀ b ∈ ss, SupB s b
/-- what is left on the one that has the day -/
theorem SupOf.at_ {s : Shop} {ss : List Sup} (h : SupOf s ss) {d : Int} (hd : 0 ≤ d) : ∃ (i : Nat) (b : Sup), ss[i]? = some b ∧ HasD2 Sup.fi Sup.la b d ∧ supK s b d ∧ ∀ j c, ss[j]? = some c → HasD2 Sup.fi Sup.la c d → j = i := h.cov.one d hd
/-! ### unfed -/
def Fed (s : Shop) (d : Int) : Prop := ∀ d', 0 ≤ d' → d' < d → 0 ≤ s.left d'
/-! ### wanted -/
structure Want (s : Shop) (till : Int) (lim : Int → Prop) (least : Int) (day : Option Int) : Prop where
  low : ∀ d, 0 ≤ d → d ≤ till → lim d → least ≤ s.left d
  is : (least = 0 ∧ day = none) ∨ ∃ x, day = some x ∧ least < 0 ∧ 0 ≤ x ∧ x ≤ till ∧ s.left x = least ∧ ∀ d, 0 ≤ d → d < x → least < s.left d
theorem Want.nil {s : Shop} {till : Int} {lim : Int → Prop} (h : ∀ d, 0 ≤ d → ¬ lim d) : Want s till lim 0 none := ⟨fun d h0 _ hl => absurd hl (h d h0), .inl ⟨rfl, rfl⟩⟩
/-! ### by the law: from mark to mark -/
end LT
set_option Elab.async false
set_option linter.all false
set_option maxRecDepth 100000
set_option maxHeartbeats 1600000
/-! Own layer: list(zip(a, b)) of two lists. -/
namespace LT
open PySem PySem.Spec PyProof.Rows L2
def ZSt (z TI TO i1 i2 a b S : Addr) (i : Nat) (h : Heap) : Prop := IsPair h TI (.ref i1) (.ref i2) ∧ h.IsListIter i1 a i ∧ h.IsListIter i2 b i ∧ (∃ o, h.get? TO = some o) ∧
  ((IsZip h z TI TO .none ∧ ∃ x y, IsPair h TO x y) ∨ ∃ T f oT, IsZipHeld h z TI TO T f ∧ h.get? T = some oT ∧ T ≠ z ∧ T ≠ i1 ∧ T ≠ i2 ∧ T ≠ S)
theorem ZSt.keep {z TI TO i1 i2 a b S : Addr} {i : Nat} {h h' : Heap} (st : ZSt z TI TO i1 i2 a b S i h) (hS : S ∉ [z, TI, TO, i1, i2]) (k : ∀ c o, c ≠ S → h.get? c = some o → h'.get? c = some o) : ZSt z TI TO i1 i2 a b S i h' := by
  obtain ⟨hTI, h1, h2, ⟨oo, hoo⟩, hz⟩ := st
  simp only [List.mem_cons, List.not_mem_nil, or_false, not_or] at hS
  obtain ⟨n1, n2, n3, n4, n5⟩ := hS
  refine ⟨k _ _ (Ne.symm n2) hTI, h1.at fun o e => k _ o (Ne.symm n4) e, h2.at fun o e => k _ o (Ne.symm n5) e, ⟨oo, k _ _ (Ne.symm n3) hoo⟩, ?_⟩
  rcases hz with ⟨hz, x, y, hTO⟩ | ⟨T, f, oT, hz, hT, r1, r2, r3, r4⟩
  · exact .inl ⟨k _ _ (Ne.symm n1) hz, x, y, k _ _ (Ne.symm n3) hTO⟩
  · exact .inr ⟨T, f, oT, k _ _ (Ne.symm n1) hz, k _ _ r4 hT, r1, r2, r3, r4⟩
/-! ### a walk over a dict that has just been made -/
end LT
set_option Elab.async false
set_option linter.all false
set_option maxRecDepth 100000
set_option maxHeartbeats 1600000
/-! Own layer: stretches, runs, supplies on the heap; promises. -/
namespace LT
open PySem PySem.Spec PyProof.Rows L2 NdefX
/-! ### stretches -/
def StrAt (CS : Addr) (H : Hp) (x : Addr) (f : Int) (la : Option Int) : Prop := ∃ dx, H x = some (.ins CS dx [("first_day", .int f), ("last_day", knV la)])
theorem StrAt.mono {CS : Addr} {H H' : Hp} {x : Addr} {f : Int} {la : Option Int} (h : StrAt CS H x f la) (s : Same H H') : StrAt CS H' x f la := h.imp fun _ e => s _ _ e
theorem StrAt.upd {CS : Addr} {H : Hp} {x F : Addr} {f : Int} {la : Option Int} {xs : List V} {o : HO} (h : StrAt CS H x f la) (e : H F = some (.lst xs)) : StrAt CS (L2.upd H F o) x f la := by
  obtain ⟨dx, h⟩ := h
  exact ⟨dx, by rw [upd_ne (ne_of h e (by intro z; cases z))]; exact h⟩
/-! ### runs -/
def RunT (CS : Addr) (H : Hp) (t : Addr) (r : Run) : Prop := ∃ x, H t = some (.tup [r.1, .ref x]) ∧ StrAt CS H x r.2.1 r.2.2
theorem RunT.mono {CS : Addr} {H H' : Hp} {t : Addr} {r : Run} (h : RunT CS H t r) (s : Same H H') : RunT CS H' t r := by
  obtain ⟨x, a, b⟩ := h
  exact ⟨x, s _ _ a, b.mono s⟩
theorem RunT.upd {CS : Addr} {H : Hp} {t F : Addr} {r : Run} {xs : List V} {o : HO} (h : RunT CS H t r) (e : H F = some (.lst xs)) : RunT CS (L2.upd H F o) t r := by
  obtain ⟨x, a, b⟩ := h
  exact ⟨x, by rw [upd_ne (ne_of a e (by intro z; cases z))]; exact a, b.upd e⟩
def RunsAt (CS : Addr) (H : Hp) (l : Addr) (rs : List Run) : Prop := ∃ ts : List Addr, H l = some (.lst (ts.map V.ref)) ∧ Paired (RunT CS H) ts rs
theorem RunsAt.mono {CS : Addr} {H H' : Hp} {l : Addr} {rs : List Run} (h : RunsAt CS H l rs) (s : Same H H') : RunsAt CS H' l rs := by
  obtain ⟨ts, a, b⟩ := h
  exact ⟨ts, s _ _ a, paired_imp (fun _ _ h => h.mono s) b⟩
/-! ### heads -/
/-! ### supplies -/
def PartsAt (CS : Addr) (H : Hp) (l : Addr) (ps : List Part) : Prop := ∃ xs : List Addr, H l = some (.lst (xs.map V.ref)) ∧ Paired (fun x (p : Part) => StrAt CS H x p.1 p.2) xs ps
theorem PartsAt.mono {CS : Addr} {H H' : Hp} {l : Addr} {ps : List Part} (h : PartsAt CS H l ps) (s : Same H H') : PartsAt CS H' l ps := by
  obtain ⟨ts, a, b⟩ := h
  exact ⟨ts, s _ _ a, paired_imp (fun _ _ h => h.mono s) b⟩
def SupT (CS : Addr) (H : Hp) (t : Addr) (b : Sup) : Prop := ∃ x, H t = some (.tup [.ref x, .int b.stock, .int b.eaten]) ∧ StrAt CS H x b.fi b.la
theorem SupT.mono {CS : Addr} {H H' : Hp} {t : Addr} {b : Sup} (h : SupT CS H t b) (s : Same H H') : SupT CS H' t b := by
  obtain ⟨x, a, b⟩ := h
  exact ⟨x, s _ _ a, b.mono s⟩
theorem SupT.upd {CS : Addr} {H : Hp} {t F : Addr} {b : Sup} {xs : List V} {o : HO} (h : SupT CS H t b) (e : H F = some (.lst xs)) : SupT CS (L2.upd H F o) t b := by
  obtain ⟨x, a, b⟩ := h
  exact ⟨x, by rw [upd_ne (ne_of a e (by intro z; cases z))]; exact a, b.upd e⟩
def SupsAt (CS : Addr) (H : Hp) (l : Addr) (ss : List Sup) : Prop := ∃ ts : List Addr, H l = some (.lst (ts.map V.ref)) ∧ Paired (SupT CS H) ts ss
theorem SupsAt.mono {CS : Addr} {H H' : Hp} {l : Addr} {ss : List Sup} (h : SupsAt CS H l ss) (s : Same H H') : SupsAt CS H' l ss := by
  obtain ⟨ts, a, b⟩ := h
  exact ⟨ts, s _ _ a, paired_imp (fun _ _ h => h.mono s) b⟩
/-- factors of which none is too wide -/
theorem wide_mul {i j : Int} (h1 : -(2 ^ 700) < i ∧ i < 2 ^ 700) (h2 : -(2 ^ 700) < j ∧ j < 2 ^ 700) : CMulW i j := by
  have key : ∀ {i : Int}, -(2 ^ 700) < i ∧ i < 2 ^ 700 → i.natAbs.log2 < 700 := fun {i} h => by
    by_cases e : i.natAbs = 0
    · rw [e]
      decide
    · rw [Nat.log2_lt e]
      omega
  have := key h1
  have := key h2
  unfold CMulW
  omega
def shopOf (es : List Evt) (rk : List (Str × Int)) (z : Str) (kn : Option Int) (R : Int) : Shop := ⟨es, rk.map (·.1), z, kn, R⟩
def UnfedV (s : Shop) (H H' : Hp) (v : V) : Prop := (v = .non ∧ ∀ d, 0 ≤ d → 0 ≤ s.left d) ∨ ∃ (t : Addr) (d n : Int), v = .ref t ∧ H t = none ∧ H' t = some (.tup [.int d, .int n]) ∧ 0 ≤ d ∧ d < 10 ^ 120 ∧ s.left d = -n ∧ 0 < n ∧ Fed s d
end LT
set_option Elab.async false
set_option linter.all false
set_option maxRecDepth 100000
set_option maxHeartbeats 1600000
namespace LT
open PySem PySem.Spec PyProof.Rows L2
end LT
set_option Elab.async false
set_option linter.all false
set_option maxRecDepth 100000
set_option maxHeartbeats 1600000
/-! Own layer: the law's own counting of stores; one book beside a pot. -/
namespace LT
open PySem PySem.Spec PyProof.Rows L2 NdefX
theorem wide_div {i j : Int} (h1 : 0 < j) (h2 : j < 2 ^ 700) : CDivW i j := by
  have : j.natAbs.log2 < 700 := by
    rw [Nat.log2_lt (by omega)]
    omega
  exact ⟨h1, by omega⟩
/-! ### the model -/
def mdlK (A B C : Addr) (z : Str) : List (Key × V) := [(.inr "moves", .ref A), (.inr "landed", .ref B), (.inr "marks", .ref C), (.inr "light", .str z)]
def MovesAt (H : Hp) (s : Shop) (ds : List Addr) (zs : List Str) : Prop := Paired (fun d k => H d = some (.dK (toldK (heldD s.es true k s.kn)))) ds zs
theorem MovesAt.mono {H H' : Hp} {s : Shop} {ds : List Addr} {zs : List Str} (h : MovesAt H s ds zs) (sm : Same H H') : MovesAt H' s ds zs := paired_imp (fun _ _ h => sm _ _ h) h
theorem MovesAt.upd {H : Hp} {s : Shop} {ds : List Addr} {zs : List Str} {F : Addr} {xs : List V} {o : HO} (h : MovesAt H s ds zs) (e : H F = some (.lst xs)) : MovesAt (L2.upd H F o) s ds zs := paired_imp (fun t p h => by rw [upd_ne (ne_of h e (by intro z; cases z))]; exact h) h
def MdlAt (H : Hp) (M : Addr) (s : Shop) (ms : List Int) : Prop := ∃ (A B C : Addr) (ds : List Addr), H M = some (.dK (mdlK A B C s.z)) ∧ H A = some (.lst (ds.map V.ref)) ∧ MovesAt H s ds s.zs ∧ H B = some (.dK (toldK (heldD s.es false s.z s.kn))) ∧ H C = some (.lst (ms.map V.int))
theorem MdlAt.mono {H H' : Hp} {M : Addr} {s : Shop} {ms : List Int} (h : MdlAt H M s ms) (sm : Same H H') : MdlAt H' M s ms := by
  obtain ⟨A, B, C, ds, h1, h2, h3, h4, h5⟩ := h
  exact ⟨A, B, C, ds, sm _ _ h1, sm _ _ h2, h3.mono sm, sm _ _ h4, sm _ _ h5⟩
/-! ### pieces -/
def PcT (ms : List Int) (H : Hp) (t : Addr) (i : Nat) : Prop := ∃ a, ms[i]? = some a ∧ H t = some (.tup [.int a, knV (ms[i + 1]?)])
def PcsAt (H : Hp) (l : Addr) (ms : List Int) : Prop := ∃ ts : List Addr, H l = some (.lst (ts.map V.ref)) ∧ ts.length = ms.length ∧ ∀ i t, ts[i]? = some t → PcT ms H t i
theorem PcsAt.mono {H H' : Hp} {l : Addr} {ms : List Int} (h : PcsAt H l ms) (s : Same H H') : PcsAt H' l ms := by
  obtain ⟨ts, a, b, c⟩ := h
  exact ⟨ts, s _ _ a, b, fun i t ht => (c i t ht).imp fun _ h => ⟨h.1, s _ _ h.2⟩⟩
theorem Want.uniq {s : Shop} {till l1 l2 : Int} {d1 d2 : Option Int} (a : Want s till (fun _ => True) l1 d1) (b : Want s till (fun _ => True) l2 d2) : l1 = l2 ∧ d1 = d2 := by
  rcases a.is with ⟨a1, a2⟩ | ⟨x, a1, a2, a3, a4, a5, a6⟩
  · rcases b.is with ⟨b1, b2⟩ | ⟨y, b1, b2, b3, b4, b5, b6⟩
    · exact ⟨a1.trans b1.symm, a2.trans b2.symm⟩
    · have := a.low y b3 b4 trivial
      omega
  · rcases b.is with ⟨b1, b2⟩ | ⟨y, b1, b2, b3, b4, b5, b6⟩
    · have := b.low x a3 a4 trivial
      omega
    · have h1 := a.low y b3 b4 trivial
      have h2 := b.low x a3 a4 trivial
      have e : l1 = l2 := by omega
      have : x = y := by
        by_cases h : x < y
        · have := b6 x a3 h
          omega
        · by_cases h' : y < x
          · have := a6 y b3 h'
            omega
          · omega
      exact ⟨e, by rw [a1, b1, this]⟩
end LT
set_option Elab.async false
set_option linter.all false
set_option maxRecDepth 100000
namespace LT
open PySem PySem.Spec PyProof.Rows L2
/-! ### rows of days as data, and how they are shown -/
end LT
set_option Elab.async false
set_option linter.all false
set_option maxRecDepth 100000
set_option maxHeartbeats 1600000
namespace LT
open PySem PySem.Spec PyProof.Rows L2 LamX
/-! ### defs whose code object is known -/
structure FunC (K : PySem.W.Frag) (x qual : Str) (st : Stmt) (f c : Addr) (fd : FuncData) : Prop where
  ex : ∃ (oc : Value) (od : Option Addr) (kV doc pm : Value) (an : Option Addr) (ct : Value) (osl : Array (Option Value)),
    fd = PySem.W.fnOf x qual (defArgs st) (defBody st) (defScope st) .none kV doc pm an (.ref c) ct ∧ K.lookup f = some ⟨oc, od, .func fd, osl⟩ ∧ PySem.W.codeIn K (.ref c) qual = true
  kp : PySem.W.keepIn K (.ref f) = true
theorem FunC.fn {K : PySem.W.Frag} {x qual : Str} {st : Stmt} {f c : Addr} {fd : FuncData} (F : FunC K x qual st f c fd) : Fun K x qual st f fd := by
  obtain ⟨oc, od, kV, doc, pm, an, ct, osl, e, l, h⟩ := F.ex
  exact ⟨⟨oc, od, kV, doc, pm, an, .ref c, ct, osl, e, l, h⟩, F.kp⟩
section
variable {P : Program} {w : World} {K : PySem.W.Frag} {mg : Str → Option Value} {base : Heap}
theorem FunC.ok {x qual : Str} {st : Stmt} {f c : Addr} {fd : FuncData} {N ps : List Str} {k : Nat} {sp : Sp} (F : FunC K x qual st f c fd) (S : FnScope N ps (defScope st)) (len : ∀ vs H Q E, sp vs H Q E → vs.length = ps.length)
    (body : ∀ (A : Around) (outer : List Env) (s : Shared) (H : Hp) (vs : List V) (Q : VK) (E : XK), Room k (A.deeper (envOfC qual (defScope st) s.heap.objs.size f (.ref c))) → sp vs H Q E →
      ∃ t, PSs (cxOf CX0 P w K mg base N qual (defScope st) f (.ref c) A outer s H E).nox (defBody st) t ∧ t { nx := fun _ H' => Q .non H', rt := Q } (start N vs) H) : FnOk P w K mg base CX0 (k + 1) f fd ps sp := by
  obtain ⟨oc, od, kV, doc, pm, an, ct, osl, rfl, lk, hcd⟩ := F.ex
  refine fn_of lk hcd S len fun A outer s H vs Q E hr hsp => ?_
  obtain ⟨t, h, q⟩ := body A outer s H vs Q E hr hsp
  exact ⟨t, h.nox, q⟩
end
/-! ### the end of a law whose defs make lambdas and show things -/
end LT
set_option Elab.async false
set_option linter.all false
namespace LD
/-! ### days of both, days of none, by rows that rise -/
def Gap (r s : Row) : Prop := ∃ j, r.2 = some j ∧ j + 1 < s.1
structure Asc (L : List Row) : Prop where
  ok : ∀ r ∈ L, Ok r
  pw : L.Pairwise Gap
theorem can_iff : ∀ {L : List Row}, Can L ↔ (∀ r ∈ L, Ok r) ∧ L.Pairwise (fun r s => Gap s r)
  | [] => ⟨fun _ => ⟨nofun, .nil⟩, fun _ => trivial⟩
  | r :: t => by
    constructor
    · intro h
      exact ⟨h.ok, List.pairwise_cons.mpr ⟨fun s hs => h.under s hs, (can_iff.mp h.tail).2⟩⟩
    · rintro ⟨h1, h2⟩
      obtain ⟨g1, g2⟩ := List.pairwise_cons.mp h2
      have ht : Can t := can_iff.mpr ⟨fun s hs => h1 s (.tail _ hs), g2⟩
      cases t with
      | nil => exact h1 r (.head _)
      | cons s t => exact ⟨h1 r (.head _), g1 s (.head _), ht⟩
theorem can_of {L : List Row} (h : Asc L) : Can L.reverse := can_iff.mpr ⟨fun r hr => h.ok r (List.mem_reverse.mp hr), List.pairwise_reverse.mpr h.pw⟩
theorem ins_rev {L : List Row} {d : Int} : Ins L.reverse d ↔ Ins L d := ⟨fun ⟨r, hr, z⟩ => ⟨r, List.mem_reverse.mp hr, z⟩, fun ⟨r, hr, z⟩ => ⟨r, List.mem_reverse.mpr hr, z⟩⟩
theorem asc_uniq {L L' : List Row} (h : Asc L) (h' : Asc L') (e : ∀ d, Ins L d ↔ Ins L' d) : L = L' := by
  have := uniq (can_of h) (can_of h') fun d => by rw [ins_rev, ins_rev, e]
  rw [← List.reverse_reverse L, this, List.reverse_reverse]
theorem Asc.tail {r : Row} {t : List Row} (h : Asc (r :: t)) : Asc t := ⟨fun s hs => h.ok s (.tail _ hs), (List.pairwise_cons.mp h.pw).2⟩
/-! ### a walk over marks, whatever is wanted -/
end LD
set_option Elab.async false
set_option linter.all false
set_option maxRecDepth 100000
set_option maxHeartbeats 1600000
namespace LT
open PySem PySem.Spec PyProof.Rows L2
/-! ### two lists of own things, equal one by one: != is False -/
/-! ### repr of a list of own things -/
end LT
set_option Elab.async false
set_option linter.all false
set_option maxRecDepth 100000
set_option maxHeartbeats 1600000
set_option pp.maxSteps 700
/-! Own layer: repr and == of lists and tuples, one within the other, that hold own things. -/
namespace LT
open PySem PySem.Spec PyProof.Rows L2
/-! ### repr -/
def RepI (X : Cx) (H : Hp) (n : Nat) (as : List Addr) (v : V) (t : Str) : Prop :=
  ∀ (σ : L2.St) (u : Value), RelV v u → ∀ (b : Nat), b + t.length ≤ sizeLine → ∀ (A : Around) (g : List Code) (pins : List (Addr × Obj)) (s : Shared), A.guards = some g → (∀ x ∈ as, Clear g x) → L2.Sub X n A → Inv X pins σ H s →
    wpAny (model X.prog X.w) A (pyReprUnder b u) (fun t' s2 => t' = t ∧ Inv X pins σ H s2) X.xe s
section
variable {X : Cx} {C f : Addr} {fd : FuncData} {ps : List Str} {sp : List Code → Sp} {k n : Nat} {H : Hp} {as : List Addr} {t : Str}
theorem sub_le {m : Nat} {A : Around} (sb : L2.Sub X n A) (h : m ≤ n) : L2.Sub X m A := ⟨sb.room.mono h, sb.fr⟩
theorem RepI.own {a dx : Addr} {fs : List (Str × V)} (hs : PySem.W.findIn X.K (.ref C) "__repr__" = some (some (.ref f))) (hf : PySem.W.isFn X.K (.ref f) = true) (F : FnGc X.prog X.w X.K X.mg X.base CX0 k f fd ps sp) (hb : L2.Binds X.K fd ps [])
    (ha : H a = some (.ins C dx fs)) (hsp : ∀ g, sp g [.ref a] H (fun z H' => ∃ u, z = .str u ∧ (z = .str t ∧ H' = H)) E0) (hk : k ≤ n) : RepI X H n as (.ref a) t := by
  intro σ u r b hbz A g pins s hg hc sb I
  cases r
  obtain ⟨mA, JI, _⟩ := ins_get I.hok ha
  obtain ⟨od, JI, _⟩ := JI.look
  refine under_ownC (by omega) sb.room.units0 I.kIn JI hs hf (wpAny_mono (run_strGc (Q := fun z H' => z = .str t ∧ H' = H) F hg (sub_le sb hk) hb I (hsp g)) (fun z s2 hz => ?_) fun e s2 he => he)
  cases z <;> first | exact hz.elim | skip
  obtain ⟨zv, H', I2, rz, rfl, rfl⟩ := hz
  obtain ⟨tk2, ez⟩ := rz
  cases ez
  exact ⟨t, _, rfl, rfl, I2⟩
variable {pins : List (Addr × Obj)} {σ : L2.St}
theorem show_loopI {A : Around} {g : List Code} (hG : A.guards = some g) (hcl : ∀ x ∈ as, Clear g x) (sb : L2.Sub X (n + 1) A) {R : Result → Shared → Prop}
    (hE : ∀ e s', X.xe e s' → R (.error e) s') {l P : Addr} {xs : List V} {ts : List Str} {b : Nat} (hna : l ∉ as) (hl : H l = some (.lst xs)) (hlen : ts.length = xs.length)
    (each : ∀ (i : Nat) (v : V) (t : Str), xs[i]? = some v → ts[i]? = some t → RepI X H n as v t)
    (hsz : b + (listText ts).length ≤ sizeLine) (fp : FpOk X pins H P) (fin : ∀ s' u, Inv X pins σ H s' → R (.ok (.ret (.str (listText ts) u))) s') :
    ∀ (k i : Nat) (s : Shared) (acc : Array Value) (c : Nat) (done : List (Str × Tok)), xs.length - i = k → i ≤ xs.length → Inv X pins σ H s →
      s.heap.get? P = some (seqObj "list" acc c) → acc.toList = strValues done → done.map (·.1) = ts.take i →
      codeAny (model X.prog X.w) A (.builtin "list.__repr__.loop" ⟨[.ref l, rawInt i, .ref P, rawInt ((b + piled (ts.take i) : Nat) : Int)], []⟩) R s := by
  have hX : (listText ts).length = (textFrom 0 "[" ts).length + 1 := by
    show (textFrom 0 "[" ts ++ "]").length = _
    rw [strLen_append]
    rfl
  have hL := textFrom_len ts 0 "["
  have hp3 := piled_le_listText ts
  intro k
  induction k with
  | zero =>
    intro i s acc c done hk hi I hP hacc hdone
    obtain ⟨its, rv, pl, hz⟩ := I.list (SqL.of hl)
    obtain ⟨o, m, e1, e2, _, e4⟩ := pl
    have il := rv.length
    refine codeAny_builtin PySem.F.entry_list_repr_loop ?_
    show wpAny _ _ (Builtin.«list.__repr__.loop» ⟨[.ref l, .int i 0, .ref P, .int ((b + piled (ts.take i) : Nat) : Int) 0], []⟩) _ _ s
    rw [repr_loop_tree]
    refine wpAny_bind (wpAny_listItems e1 e4 ?_)
    have hnone : its.toArray[(i : Int).toNat]? = none := by
      simp
      omega
    simp only [hnone]
    unfold reprEnd
    refine wpAny_bind (wpAny_listItems hP rfl ?_)
    rw [hacc, repr_fold]
    refine wpAny_bind (wpAny_pure ?_)
    have hall : done.map (·.1) = ts := by rw [hdone, List.take_of_length_le (by omega)]
    rw [hall]
    refine wpAny_bind (wpAny_mkStr (wpAny_pure ?_) (by show (listText ts).length ≤ _; omega))
    exact fin _ _ (I.tok _)
  | succ k ih =>
    intro i s acc c done hk hi I hP hacc hdone
    obtain ⟨its, rv, pl, hz⟩ := I.list (SqL.of hl)
    obtain ⟨o, m, e1, e2, _, e4⟩ := pl
    have il := rv.length
    have hlt : i < xs.length := by omega
    obtain ⟨v, ev⟩ : ∃ v, xs[i]? = some v := ⟨_, List.getElem?_eq_getElem hlt⟩
    obtain ⟨u, eu⟩ : ∃ u, its[i]? = some u := ⟨_, List.getElem?_eq_getElem (by omega)⟩
    obtain ⟨t, ht⟩ : ∃ t, ts[i]? = some t := ⟨_, List.getElem?_eq_getElem (by omega)⟩
    have hrep := each i v t ev ht
    have ru := vals_ix rv i ev eu
    have hp1 := piled_take_succ ht
    have hp2 := piled_take_le ts (i + 1)
    have htl := hL.2.1 t (List.mem_of_getElem? ht)
    refine codeAny_builtin PySem.F.entry_list_repr_loop ?_
    show wpAny _ _ (Builtin.«list.__repr__.loop» ⟨[.ref l, .int i 0, .ref P, .int ((b + piled (ts.take i) : Nat) : Int) 0], []⟩) _ _ s
    rw [repr_loop_tree]
    refine wpAny_bind (wpAny_listItems e1 e4 ?_)
    have hsome : its.toArray[(i : Int).toNat]? = some u := by simpa using eu
    simp only [hsome]
    rw [Int.toNat_natCast]
    have J : Inv X ((P, seqObj "list" acc c) :: pins) σ H s := I.pins_of fun p hp => by
      rcases List.mem_cons.mp hp with rfl | hp
      · exact ⟨hP, fp.1, fp.2.1, fp.2.2.1, fun v z => nomatch z⟩
      · exact I.pin p (List.mem_append_right _ hp)
    have sb2 := sub_guardC sb ⟨[.ref l, .int i 0, .ref P, .int ((b + piled (ts.take i) : Nat) : Int) 0], []⟩
    have hg2 : (A.under (.builtin "list.__repr__.loop" ⟨[.ref l, .int i 0, .ref P, .int ((b + piled (ts.take i) : Nat) : Int) 0], []⟩)).guards = some (.builtin "list.__repr__.loop" ⟨[.ref l, .int i 0, .ref P, .int ((b + piled (ts.take i) : Nat) : Int) 0], []⟩ :: g) := guards_under_guard (isGuard_list_loop _) hG
    refine wpAny_bind (wpAny_holding (wpAny_mono (hrep σ u ru (b + piled (ts.take i) + 1) (by omega) _ _ _ s hg2 (fun b' hb' => (hcl b' hb').cons (a := l) fun e => hna (e ▸ hb')) sb2 J) (fun t' s2 hz => ?_) fun e s2 he => hE e s2 he))
    have et := hz.1.symm
    have I2 := hz.2
    subst et
    have hP2 := (I2.pin (P, seqObj "list" acc c) (List.mem_append_right _ (.head _))).1
    have I3 : Inv X pins σ H s2 := I2.pins_of fun p hp => I2.pin p (List.mem_append_right _ (.tail _ hp))
    refine wpAny_bind (wpAny_mkStr ?_ (by omega))
    refine wpAny_bind ?_
    show wpAny _ _ (updateSeq P _) _ _ _
    have hasz : acc.size ≤ sizeLine := by
      have z1 : acc.toList.length = acc.size := by simp
      have z2 : (strValues done).length = done.length := by simp [strValues]
      have z3 : done.length = (ts.take i).length := by rw [← hdone, List.length_map]
      have z4 : (ts.take i).length ≤ i := by rw [List.length_take]; omega
      rw [hacc] at z1
      omega
    refine wpAny_updateSeq hP2 rfl (wpAny_pure ⟨PySem.F.quiet_list_repr_loop _, ?_⟩) hasz
    have e5 : ((i : Int) + 1) = ((i + 1 : Nat) : Int) := by omega
    have e6 : b + piled (ts.take i) + (t.length + 2) = b + piled (ts.take (i + 1)) := by omega
    rw [e5, e6]
    have sbt := Heap.SameBut.update s2.heap P (Obj.mapSeq (·.push (.str t s2.toks)))
    have I4 : Inv X pins σ H { s2 with heap := s2.heap.update P (Obj.mapSeq (·.push (.str t s2.toks))), toks := s2.toks + 1 } :=
      I3.turnedL (ch := [P]) (fun b o hb q => (sbt.2 b fun z => hb (by rw [z]; exact List.mem_singleton.mpr rfl)).trans q) (fun b hb => by rw [List.mem_singleton.mp hb]; exact fp)
    obtain ⟨c2, hc2⟩ : ∃ c2, (s2.heap.update P (Obj.mapSeq (·.push (.str t s2.toks)))).get? P = some (seqObj "list" (acc.push (.str t s2.toks)) c2) := ⟨_, get?_update_seq hP2 (·.push (.str t s2.toks))⟩
    exact ih (i + 1) _ (acc.push (.str t s2.toks)) c2 (done ++ [(t, s2.toks)]) (by omega) hlt I4 hc2 (by simp [hacc, strValues]) (by simp [List.take_add_one, ht, hdone])
/-- the list's own part, from its head on -/
theorem list_headI {A : Around} {g : List Code} (hG : A.guards = some g) {l : Addr} (hcl : ∀ x ∈ l :: as, Clear g x) (sb : L2.Sub X (n + 1) A) {R : Result → Shared → Prop} (hE : ∀ e s', X.xe e s' → R (.error e) s')
    {xs : List V} {ts : List Str} {b : Nat} {s : Shared} {o : Obj} {y : Value} {its : List Value} {m : Nat} (hna : l ∉ as) (hl : H l = some (.lst xs)) (hlen : ts.length = xs.length)
    (each : ∀ (i : Nat) (v : V) (t : Str), xs[i]? = some v → ts[i]? = some t → RepI X H n as v t) (hsz : b + (listText ts).length ≤ sizeLine) (I : Inv X pins σ H s) (e1 : s.heap.get? l = some o) (e4 : o.data = .seq (y :: its).toArray m)
    (fin : ∀ s' u, Inv X pins σ H s' → R (.ok (.ret (.str (listText ts) u))) s') :
    wpAny (model X.prog X.w) A.in1 (Builtin.listReprAt b ⟨[.ref l], []⟩) (fun fin s' => match fin with | .done f => R (.ok f) s' | .again c' => c'.quiet = true ∧ codeAny (model X.prog X.w) A c' R s') (fun e s' => R (.error e) s') s := by
  refine wpAny_list_repr_head (A := A.in1) hG (fun v rest kw hm => listSameRef_of_ne (hcl l List.mem_cons_self _ _ _ _ hm)) e1 e4 ?_
  refine wpAny_bind (m := newList []) (wpAny_newObj_type ?_)
  refine wpAny_pure ⟨PySem.F.quiet_list_repr_loop _, ?_⟩
  have I2 : Inv X pins σ H { s with heap := s.heap.push { cls := .type "list", data := .seq #[] } } := by
    have := I.kept (h' := s.heap.push { cls := .type "list", data := .seq #[] }) (t' := s.toks) fun b o e => Heap.get?_push_of_some _ e
    exact this
  have fp : FpOk X pins H s.heap.objs.size := I.fpOk (Nat.le_refl _) (I.hok.fresh (Nat.le_refl _))
  exact show_loopI hG (fun x hx => hcl x (List.mem_cons_of_mem _ hx)) sb hE hna hl hlen each hsz fp fin _ 0 _ #[] 0 [] rfl (Nat.zero_le _) I2 (Heap.get?_push_size _ rfl) rfl rfl
theorem RepI.lst {l : Addr} {xs : List V} {ts : List Str} (hl : H l = some (.lst xs)) (hlen : ts.length = xs.length) (hna : l ∉ as) (each : ∀ (i : Nat) (v : V) (t : Str), xs[i]? = some v → ts[i]? = some t → RepI X H n as v t) :
    RepI X H (n + 1) (l :: as) (.ref l) (listText ts) := by
  intro σ u r b hb A g pins s hg hc sb I
  cases r
  obtain ⟨its, rv, pl, hz⟩ := I.list (SqL.of hl)
  obtain ⟨o, m, e1, e2, e3, e4⟩ := pl
  have il := rv.length
  cases its with
  | nil =>
    have hx : xs = [] := List.eq_nil_of_length_eq_zero (by rw [il]; rfl)
    subst hx
    have ht : ts = [] := List.eq_nil_of_length_eq_zero hlen
    subst ht
    exact (ReprK.listEmpty (as := []) (d := 0) (h₀ := s.heap) e1 e2 e4) b hb A g X.xe s _ hg nofun sb.room.units0 (fun _ _ e => e) fun h' tk hk => ⟨rfl, I.kept hk⟩
  | cons y its =>
    refine wpAny_pyReprUnder_ref (by omega) (wpAny_pyReprObjUnder_twin (twin := "list.__repr__.under") ⟨o, e1, e2⟩ PySem.F.slot_list_repr.toG rfl sb.room.units0 ?_)
    refine call_twin_plain PySem.F.plain_list_repr_under PySem.F.entry_list_repr_under PySem.F.check_list_repr_under ⟨o, e1, e2⟩ PySem.F.slot_list_repr.toG (PySem.F.args_list_repr_1 _) ?_
    exact list_headI hg hc sb (fun e s' he => he) hna hl hlen each hb I e1 e4 fun s' u J => ⟨⟨_, _, rfl⟩, _, _, rfl, rfl, J⟩
theorem tupFoldI {A : Around} {g : List Code} (hG : A.guards = some g) (hcl : ∀ x ∈ as, Clear g x) (sb : L2.Sub X n A) : ∀ (vs : List V) (us : List Value) (ts : List Str) (acc : Array Str) (m : Nat) (s : Shared) (Q : (Array Str × Nat) → Shared → Prop), Vals vs us → ts.length = vs.length →
    (∀ (i : Nat) (v : V) (t : Str), vs[i]? = some v → ts[i]? = some t → RepI X H n as v t) → m + piled ts ≤ sizeLine → Inv X pins σ H s → (∀ s', Inv X pins σ H s' → Q ⟨acc ++ ts.toArray, m + piled ts⟩ s') →
    wpAny (model X.prog X.w) A (forIn us (⟨acc, m⟩ : (Array Str × Nat)) tupBody) Q X.xe s := by
  intro vs
  induction vs with
  | nil =>
    intro us ts acc m s Q r hl _ _ I h
    cases r
    have ht : ts = [] := List.eq_nil_of_length_eq_zero hl
    subst ht
    have h0 := h s I
    simp only [List.forIn_nil]
    exact wpAny_pure (by simpa [piled] using h0)
  | cons v vs ih =>
    intro us ts acc m s Q r hl each hn I h
    cases r with
    | cons ru rus =>
      cases ts with
      | nil => cases hl
      | cons t ts =>
        rw [piled_cons] at hn
        rw [List.forIn_cons]
        refine wpAny_bind (wpAny_bind (wpAny_mono (each 0 v t rfl rfl σ _ ru (m + 1) (by omega) _ _ _ s hG hcl sb I) (fun t' s2 hz => wpAny_pure ?_) fun _ _ x => x))
        obtain ⟨rfl, I2⟩ := hz
        refine ih _ ts (acc.push t') (m + (t'.length + 2)) _ Q rus (Nat.succ.inj hl) (fun i v t hv ht => each (i + 1) v t hv ht) (by omega) I2 fun s' J => ?_
        have h1 := h s' J
        have e : m + piled (t' :: ts) = m + (t'.length + 2) + piled ts := by rw [piled_cons]; omega
        rw [e] at h1
        simpa using h1
theorem sub_guardT {A : Around} (sb : L2.Sub X (n + 1) A) (id : String) (hid : id = "tuple.__repr__" ∨ id = "tuple.__repr__.under") (args : Args) : L2.Sub X n (A.under (.builtin id args)) := by
  have hw : (Code.builtin id args).weight ≤ 1 := by
    rcases hid with rfl | rfl
    · show (Code.builtin "tuple.__repr__" ⟨[], []⟩).weight ≤ 1
      decide +kernel
    · show (Code.builtin "tuple.__repr__.under" ⟨[], []⟩).weight ≤ 1
      decide +kernel
  have hc : (Code.builtin id args).cUnits ≤ 10 := by
    rcases hid with rfl | rfl
    · show (Code.builtin "tuple.__repr__" ⟨[], []⟩).cUnits ≤ 10
      decide +kernel
    · show (Code.builtin "tuple.__repr__.under" ⟨[], []⟩).cUnits ≤ 10
      decide +kernel
  have he : (Code.builtin id args).envs = [] := rfl
  obtain ⟨⟨h1, h2, h3⟩, h4⟩ := sb
  refine ⟨⟨h1, ?_, ?_⟩, ?_⟩
  · show A.depth + _ + 3 * n + 5 < _
    omega
  · show A.units + _ + 16 * n + 200 < _
    omega
  · unfold Around.under
    simp [he, pushEnvs, h4]
theorem RepI.tup {l : Addr} {xs : List V} {ts : List Str} (hl : H l = some (.tup xs)) (hlen : ts.length = xs.length) (hna : l ∉ as) (each : ∀ (i : Nat) (v : V) (t : Str), xs[i]? = some v → ts[i]? = some t → RepI X H n as v t) :
    RepI X H (n + 1) (l :: as) (.ref l) (tupleText ts) := by
  intro σ u r b hb A g pins s hg hc sb I
  cases r
  obtain ⟨its, rv, ⟨o, ho, hcl, m, hd⟩, _⟩ := I.tuple (SqT.of hl)
  have il := rv.length
  have hp := piled_le_tupleText ts
  refine wpAny_pyReprUnder_ref (by omega) (wpAny_pyReprObjUnder_twin (twin := "tuple.__repr__.under") ⟨o, ho, hcl⟩ PySem.F.slot_tuple_repr rfl sb.room.units0 ?_)
  refine call_twin_own (PySem.F.quiet_tuple_repr_under _) PySem.F.entry_tuple_repr_under PySem.F.check_tuple_repr_under ⟨o, ho, hcl⟩ PySem.F.slot_tuple_repr (PySem.F.args_tuple_repr_1 _) ?_
  rw [tuple_repr_tree, tupleReprUnderWay_eq]
  refine wpOwn_bind (wpOwn_stackTailAny hg (tupGuardF_off _) (tupGuardF_pos _) ?_)
  have hn : (g.any fun c => tupGuardF (.ref l) (c, default)) = false := by
    rw [List.any_eq_false]
    intro c hcm
    rw [tupGuardF_of_clear (hc l List.mem_cons_self) c hcm]
    exact Bool.false_ne_true
  rw [hn]
  refine wpOwn_of_wpAny ?_
  show wpAny _ _ (tupleReprRest b (.ref l)) _ _ s
  unfold tupleReprRest Builtin.Tuple.tupleItemsOf
  refine wpAny_bind (wpAny_bind (wpAny_seqItems ho hd (wpAny_pure ?_)))
  rw [← Array.forIn_toList]
  have sb2 : L2.Sub X n (A.under (.builtin "tuple.__repr__.under" ⟨[.ref l, rawInt b], []⟩)) := sub_guardT sb _ (.inr rfl) _
  have hg2 : (A.under (.builtin "tuple.__repr__.under" ⟨[.ref l, rawInt b], []⟩)).guards = some (.builtin "tuple.__repr__.under" ⟨[.ref l, rawInt b], []⟩ :: g) := guards_under_guard (isGuard_tuple_repr_under _) hg
  refine wpAny_bind (wpAny_mono (tupFoldI hg2 (fun b' hb' => (hc b' (List.mem_cons_of_mem _ hb')).cons (a := l) fun e => hna (e ▸ hb')) sb2 xs its ts #[] b s (fun r s' => r = ⟨#[] ++ ts.toArray, b + piled ts⟩ ∧ Inv X pins σ H s') rv hlen each (by omega) I fun s' J => ⟨rfl, J⟩) (fun r s' hz => ?_) fun _ _ x => x)
  obtain ⟨rfl, J⟩ := hz
  refine wpAny_bind (wpAny_mkStr (wpAny_pure ?_) ?_)
  · refine ⟨⟨_, _, rfl⟩, _, _, rfl, ?_, J.tok _⟩
    simp [tupleText, hlen, il]
  · have : (tupleText ts).length ≤ sizeLine := by omega
    simpa [tupleText, hlen, il] using this
end
/-! ### trees of such, told without the place that shows them -/
inductive ShV (C : Addr) (sp : List Code → Sp) (H : Hp) : Nat → List Addr → V → Str → Prop
  | int {n : Nat} {as : List Addr} (k : Int) (h : k.natAbs.log2 < 1920) : ShV C sp H n as (.int k) (toString k)
  | str {n : Nat} {as : List Addr} (z : Str) (h : (reprText z).length ≤ sizeLine) : ShV C sp H n as (.str z) (reprText z)
  | non {n : Nat} {as : List Addr} : ShV C sp H n as .non "None"
  | own {n : Nat} {as : List Addr} {a dx : Addr} {fs : List (Str × V)} {t : Str} (ha : H a = some (.ins C dx fs)) (hsp : ∀ g, sp g [.ref a] H (fun z H' => ∃ u, z = .str u ∧ (z = .str t ∧ H' = H)) E0) : ShV C sp H n as (.ref a) t
  | lst {n : Nat} {as : List Addr} {l : Addr} {xs : List V} {ts : List Str} (hl : H l = some (.lst xs)) (hlen : ts.length = xs.length) (hna : l ∉ as) (each : ∀ (i : Nat) (v : V) (t : Str), xs[i]? = some v → ts[i]? = some t → ShV C sp H n as v t) : ShV C sp H (n + 1) (l :: as) (.ref l) (listText ts)
  | tup {n : Nat} {as : List Addr} {l : Addr} {xs : List V} {ts : List Str} (hl : H l = some (.tup xs)) (hlen : ts.length = xs.length) (hna : l ∉ as) (each : ∀ (i : Nat) (v : V) (t : Str), xs[i]? = some v → ts[i]? = some t → ShV C sp H n as v t) : ShV C sp H (n + 1) (l :: as) (.ref l) (tupleText ts)
  | more {n m : Nat} {as bs : List Addr} {v : V} {t : Str} (h : ShV C sp H n as v t) (hn : n ≤ m) (hs : ∀ a ∈ as, a ∈ bs) : ShV C sp H m bs v t
/-! ### != of two lists of such, equal one by one -/
/-! ### xs == [] -/
end LT
set_option Elab.async false
set_option linter.all false
set_option maxRecDepth 100000
set_option maxHeartbeats 1600000
/-! Own layer: runs of heads: one way only; how they show; == of them. -/
namespace LT
open PySem PySem.Spec PyProof.Rows L2 NdefX
/-! ### one way only -/
def Un (rs : List Run) : Prop := ∀ (i : Nat) a b, rs[i]? = some a → rs[i + 1]? = some b → a.1 ≠ b.1
theorem Un.tail {r : Run} {rs : List Run} (h : Un (r :: rs)) : Un rs := fun i a b h1 h2 => h (i + 1) a b h1 h2
theorem Cov.fst {β : Type} {fi : β → Int} {la : β → Option Int} {K : β → Int → Prop} {c : β} {r : List β} {f : Int} (h : Cov fi la K f (c :: r)) : fi c = f ∧ K c f := by
  cases r with
  | nil => exact ⟨h.1, h.2.2 f (Int.le_refl _)⟩
  | cons d r =>
    obtain ⟨h1, e, h2, h3, h4, _⟩ := h
    exact ⟨h1, h4 f (Int.le_refl _) h3⟩
theorem run_alike {a b : Run} (h1 : a.1 = b.1) (h2 : rFi a = rFi b) (h3 : rLa a = rLa b) : a = b := by
  obtain ⟨a1, a2, a3⟩ := a
  obtain ⟨b1, b2, b3⟩ := b
  have h1 : a1 = b1 := h1
  have h2 : a2 = b2 := h2
  have h3 : a3 = b3 := h3
  rw [h1, h2, h3]
theorem cov_uniq {g : Int → V} : ∀ {rs rs' : List Run} {f : Int}, Cov rFi rLa (fun x d => g d = x.1) f rs → Cov rFi rLa (fun x d => g d = x.1) f rs' → Un rs → Un rs' → rs = rs'
  | [], _, _, h, _, _, _ => h.elim
  | _ :: _, [], _, _, h, _, _ => h.elim
  | [r], [r'], f, h, h', _, _ => by
    rw [run_alike ((h.fst.2).symm.trans h'.fst.2) (h.1.trans h'.1.symm) (h.2.1.trans h'.2.1.symm)]
  | [r], r' :: c' :: t', f, h, h', _, u' => by
    obtain ⟨h1, e, h2, h3, h4, h5⟩ := h'
    have k1 : g (e + 1) = r.1 := h.2.2 _ (by omega)
    have k2 : g f = r.1 := h.2.2 _ (Int.le_refl _)
    exact absurd ((h4 f (Int.le_refl _) h3).symm.trans (k2.trans (k1.symm.trans h5.fst.2))) (u' 0 r' c' rfl rfl)
  | r :: c :: t, [r'], f, h, h', u, _ => by
    obtain ⟨h1, e, h2, h3, h4, h5⟩ := h
    have k1 : g (e + 1) = r'.1 := h'.2.2 _ (by omega)
    have k2 : g f = r'.1 := h'.2.2 _ (Int.le_refl _)
    exact absurd ((h4 f (Int.le_refl _) h3).symm.trans (k2.trans (k1.symm.trans h5.fst.2))) (u 0 r c rfl rfl)
  | r :: c :: t, r' :: c' :: t', f, h, h', u, u' => by
    obtain ⟨h1, e, h2, h3, h4, h5⟩ := h
    obtain ⟨g1, e', g2, g3, g4, g5⟩ := h'
    have v1 : g f = r.1 := h4 f (Int.le_refl _) h3
    have v2 : g f = r'.1 := g4 f (Int.le_refl _) g3
    have ee : e = e' := by
      by_cases hlt : e < e'
      · have k : g (e + 1) = r'.1 := g4 _ (by omega) (by omega)
        exact absurd (v1.symm.trans (v2.trans (k.symm.trans h5.fst.2))) (u 0 r c rfl rfl)
      · by_cases hgt : e' < e
        · have k : g (e' + 1) = r.1 := h4 _ (by omega) (by omega)
          exact absurd (v2.symm.trans (v1.trans (k.symm.trans g5.fst.2))) (u' 0 r' c' rfl rfl)
        · omega
    subst ee
    rw [run_alike (v1.symm.trans v2) (h1.trans g1.symm) (h2.trans g2.symm), cov_uniq h5 g5 u.tail u'.tail]
theorem runs_uniq {P P' : Int → Prop} {g : Int → V} {rs rs' : List Run} (a : RunsOf P g rs) (b : RunsOf P' g rs') : rs = rs' := cov_uniq a.cov b.cov a.un b.un
/-! ### by marks -/
/-! ### how they show -/
def shS (f : Int) : Option Int → Str
  | none => ((Str.empty ++ Str.ofString "Stretch(") ++ Str.ofString (toString f)) ++ Str.ofString ")"
  | some e => ((((Str.empty ++ Str.ofString "Stretch(") ++ Str.ofString (toString f)) ++ Str.ofString ", ") ++ Str.ofString (toString e)) ++ Str.ofString ")"
def Sm62 (i : Int) : Prop := 0 ≤ i ∧ i < 10 ^ 60
def spSRepr (CS : Addr) (g : List Code) : Sp := fun vs H Q _ => ∃ (x : Addr) (f : Int) (la : Option Int), vs = [.ref x] ∧ StrAt CS H x f la ∧ Sm62 f ∧ (∀ e, la = some e → Sm62 e) ∧ Q (.str (shS f la)) H
def shR (r : Run) : Str := tupleText [toString (numI r.1), shS r.2.1 r.2.2]
/-- rows (value, day), as tuples -/
def RowsD (H : Hp) (us : List Addr) (B : List (Int × V)) : Prop := Paired (fun t (p : Int × V) => H t = some (.tup [p.2, .int p.1])) us B
theorem RowsD.mono {H H' : Hp} {us : List Addr} {B : List (Int × V)} (h : RowsD H us B) (s : Same H H') : RowsD H' us B := paired_imp (fun _ _ h => s _ _ h) h
theorem RowsD.upd {H : Hp} {us : List Addr} {B : List (Int × V)} {F : Addr} {xs : List V} {o : HO} (h : RowsD H us B) (e : H F = some (.lst xs)) : RowsD (L2.upd H F o) us B := paired_imp (fun t p h => by rw [upd_ne (ne_of h e (by intro z; cases z))]; exact h) h
/-! ### whole lists of runs -/
end LT
set_option Elab.async false
set_option linter.all false
set_option maxRecDepth 100000
set_option maxHeartbeats 1600000
/-! Own layer: entries: dicts locked, many at once; all that was told of one. -/
namespace LT
open PySem PySem.Spec PyProof.Rows L2 NdefX
/-! ### many locks -/
/-! ### all that was told, day by day -/
def flatH (h : Hist) : List (Int × Int × V) := h.flatMap fun p => p.2.map fun q => (q.1, p.1, q.2)
end LT
set_option Elab.async false
set_option linter.all false
set_option maxRecDepth 100000
set_option maxHeartbeats 1600000
/-! Own layer: sorted by keys that are tuples, made anew by each call of the key. -/
namespace LT
open PySem PySem.Spec PyProof.Rows L2
def fltD : V → PyData
  | .int i => .int i
  | .str z => .str z
  | _ => .none
def keyD (ys : List V) : PyData := .tuple (ys.map fltD)
end LT
set_option Elab.async false
set_option linter.all false
set_option maxRecDepth 100000
set_option maxHeartbeats 1600000
/-! Own layer: sorted(e, key=lambda x: a new tuple). -/
namespace LT
open PySem PySem.Spec PyProof.Rows L2 LamX
end LT
set_option Elab.async false
set_option linter.all false
set_option maxRecDepth 100000
set_option maxHeartbeats 1600000
/-! Own layer: entries of a book: sorted, one way only. -/
namespace LT
open PySem PySem.Spec PyProof.Rows L2 NdefX
def evKey (e : Evt) : List V := [.str (kindS e.mv), .int e.kn, .str e.who, .int e.day]
def evLe : Evt → Evt → Bool := PySem.W.dataLe false fun e => keyD (evKey e)
theorem kindS_inj {a b : Bool} (h : kindS a = kindS b) : a = b := by
  have := kind_eq a b
  rw [h, decide_eq_true (show V.str (kindS b) = V.str (kindS b) from rfl)] at this
  exact of_decide_eq_true this.symm
def EvSame (a b : Evt) : Prop := a.mv = b.mv ∧ a.kn = b.kn ∧ a.who = b.who ∧ a.day = b.day
theorem toks_inj {a b : Evt} (h : PySem.W.keyToks (keyD (evKey a)) = PySem.W.keyToks (keyD (evKey b))) : EvSame a b := by
  simp [keyD, evKey, fltD, PySem.W.keyToks, PySem.W.keyToksAll] at h
  exact ⟨kindS_inj (str_eq (by rw [h.1])), h.2.1, str_eq (by rw [h.2.2.1]), h.2.2.2⟩
theorem evLe_anti {a b : Evt} (h1 : evLe a b = true) (h2 : evLe b a = true) : EvSame a b := by
  refine toks_inj ((PyProof.Rows.listOrd PyProof.Rows.itemOrd).total _ _ ?_ ?_)
  · unfold evLe at h2
    rw [PySem.W.dataLe_eq] at h2
    have h2 : (!PySem.W.dataLt (keyD (evKey a)) (keyD (evKey b))) = true := h2
    have h2 : PySem.W.dataLt (keyD (evKey a)) (keyD (evKey b)) = false := by simpa using h2
    exact h2
  · unfold evLe at h1
    rw [PySem.W.dataLe_eq] at h1
    have h1 : (!PySem.W.dataLt (keyD (evKey b)) (keyD (evKey a))) = true := h1
    have h1 : PySem.W.dataLt (keyD (evKey b)) (keyD (evKey a)) = false := by simpa using h1
    exact h1
/-- what was told last of a day on a known one -/
def entA (es : List Evt) (mv : Bool) (who : Str) (d kn : Int) : Option V := getA ((getA (histE es mv who) d).getD []) kn
structure IsEnts (es L : List Evt) : Prop where
  up : L.Pairwise fun a b => evLe a b = true
  nd : L.Pairwise fun a b => ¬ EvSame a b
  mem : ∀ e, e ∈ L ↔ entA es e.mv e.who e.day e.kn = some e.w
theorem evt_ext {a b : Evt} (h : EvSame a b) (hw : a.w = b.w) : a = b := by
  obtain ⟨h1, h2, h3, h4⟩ := h
  cases a
  cases b
  simp only at h1 h2 h3 h4 hw
  subst h1 h2 h3 h4 hw
  rfl
theorem IsEnts.nodup {es L : List Evt} (h : IsEnts es L) : L.Nodup := h.nd.imp fun hn e => hn (by rw [e]; exact ⟨rfl, rfl, rfl, rfl⟩)
theorem IsEnts.uniq {es L L' : List Evt} (h : IsEnts es L) (k : IsEnts es L') : L = L' := by
  have p : L.Perm L' := (List.perm_ext_iff_of_nodup h.nodup k.nodup).mpr fun e => (h.mem e).trans (k.mem e).symm
  refine List.Perm.eq_of_pairwise (le := fun a b => evLe a b = true) (fun a b ha hb h1 h2 => ?_) h.up k.up p
  have s := evLe_anti h1 h2
  have ea := (h.mem a).mp ha
  have eb := (k.mem b).mp hb
  rw [s.1, s.2.1, s.2.2.1, s.2.2.2, eb] at ea
  exact evt_ext s (Option.some.inj ea).symm
/-! ### on the heap -/
/-! ### what the book goes through -/
theorem flatH_mem {h : Hist} {kn d : Int} {w : V} : (kn, d, w) ∈ flatH h ↔ ∃ t, (d, t) ∈ h ∧ (kn, w) ∈ t := by
  unfold flatH
  rw [List.mem_flatMap]
  constructor
  · rintro ⟨p, hp, hm⟩
    obtain ⟨q, hq, e⟩ := List.mem_map.mp hm
    cases e
    exact ⟨p.2, hp, hq⟩
  · rintro ⟨t, ht, hq⟩
    exact ⟨(d, t), ht, List.mem_map.mpr ⟨(kn, w), hq, rfl⟩⟩
theorem entA_mem {es : List Evt} {mv : Bool} {who : Str} {d kn : Int} {w : V} : (kn, d, w) ∈ flatH (histE es mv who) ↔ entA es mv who d kn = some w := by
  rw [flatH_mem]
  have nk := (hist_keys mv who es).1
  unfold entA
  constructor
  · rintro ⟨t, ht, hq⟩
    have e := getA_of_mem nk ht
    rw [e]
    exact getA_of_mem (hist_of mv who es d t e).1 hq
  · intro h
    cases e : getA (histE es mv who) d with
    | none =>
      rw [e] at h
      cases h
    | some t =>
      rw [e] at h
      exact ⟨t, getA_mem e, getA_mem h⟩
end LT
set_option Elab.async false
set_option linter.all false
set_option maxRecDepth 100000
set_option maxHeartbeats 1600000
/-! Own layer: a += b of lists; entries of a book, its promise. -/
namespace LT
open PySem PySem.Spec PyProof.Rows L2 NdefX LamX
theorem flat_ev {es : List Evt} {mv : Bool} {who : Str} {q : Int × Int × V} (h : q ∈ flatH (histE es mv who)) : (⟨mv, q.1, who, q.2.1, q.2.2⟩ : Evt) ∈ es := by
  obtain ⟨kn, d, w⟩ := q
  obtain ⟨t, ht, hq⟩ := flatH_mem.mp h
  have nk := (hist_keys mv who es).1
  obtain ⟨e', h1, ⟨h2, h3⟩, h4, h5, h6⟩ := (hist_of mv who es d t (getA_of_mem nk ht)).2.2.2 _ hq
  obtain ⟨a, b, c, d', w'⟩ := e'
  simp only at h2 h3 h4 h5 h6
  subst h2 h3 h4 h5 h6
  exact h1
/-- new, but for what tables have grown by -/
def NewN (H : Hp) (a : Addr) : Prop := ∀ o, H a = some o → ∃ ps, o = .tbl ps
end LT
set_option Elab.async false
set_option linter.all false
set_option maxRecDepth 100000
set_option maxHeartbeats 1600000
/-! Own layer: what the top has left of defs and methods that make lambdas. -/
namespace LT
open PySem PySem.Spec PyProof.Rows L2 NdefX LamX
/-- of a def -/
structure LeftLd (K : PySem.W.Frag) (x : Str) (st : Stmt) (f c P : Addr) (oc : Value) (od an : Option Addr) (kV dc pm ct : Value) (sl : Array (Option Value)) (oC : Value) (dC : Option Addr) (vC : Array Value) (sC : Array (Option Value)) : Prop where
  ns : PySem.W.nsIn K mainGlobals x = some (some (.ref f))
  lk : K.lookup f = some ⟨oc, od, .func (PySem.W.fnOf x x (defArgs st) (defBody st) (defScope st) .none kV dc pm an (.ref c) ct), sl⟩
  cd : PySem.W.codeIn K (.ref c) x = true
  kp : PySem.W.keepIn K (.ref f) = true
  lC : K.lookup c = some ⟨oC, dC, .fields vC, sC⟩
  vP : vC[11]? = some (.ref P)
  hd : PySem.W.codeHdIn K c P = true
  nP : K.lookup P = none
theorem LeftLd.fn {K : PySem.W.Frag} {x : Str} {st : Stmt} {f c P : Addr} {oc : Value} {od an : Option Addr} {kV dc pm ct : Value} {sl : Array (Option Value)} {oC : Value} {dC : Option Addr} {vC : Array Value} {sC : Array (Option Value)} (h : LeftLd K x st f c P oc od an kV dc pm ct sl oC dC vC sC) :
    FunC K x x st f c (PySem.W.fnOf x x (defArgs st) (defBody st) (defScope st) .none kV dc pm an (.ref c) ct) := ⟨⟨oc, od, kV, dc, pm, an, ct, sl, rfl, h.lk, h.cd⟩, h.kp⟩
/-- of a method -/
structure LeftLm (K : PySem.W.Frag) (C : Addr) (x q : Str) (st : Stmt) (f c P : Addr) (oc : Value) (od an : Option Addr) (kV dc pm ct : Value) (sl : Array (Option Value)) (oC : Value) (dC : Option Addr) (vC : Array Value) (sC : Array (Option Value)) : Prop where
  at_ : PySem.W.findIn K (.ref C) x = some (some (.ref f))
  lk : K.lookup f = some ⟨oc, od, .func (PySem.W.fnOf x q (defArgs st) (defBody st) (defScope st) .none kV dc pm an (.ref c) ct), sl⟩
  cd : PySem.W.codeIn K (.ref c) q = true
  kp : PySem.W.keepIn K (.ref f) = true
  isf : PySem.W.isFn K (.ref f) = true
  lC : K.lookup c = some ⟨oC, dC, .fields vC, sC⟩
  vP : vC[11]? = some (.ref P)
  hd : PySem.W.codeHdIn K c P = true
  nP : K.lookup P = none
theorem LeftLm.fn {K : PySem.W.Frag} {C : Addr} {x q : Str} {st : Stmt} {f c P : Addr} {oc : Value} {od an : Option Addr} {kV dc pm ct : Value} {sl : Array (Option Value)} {oC : Value} {dC : Option Addr} {vC : Array Value} {sC : Array (Option Value)} (h : LeftLm K C x q st f c P oc od an kV dc pm ct sl oC dC vC sC) :
    FunC K x q st f c (PySem.W.fnOf x q (defArgs st) (defBody st) (defScope st) .none kV dc pm an (.ref c) ct) := ⟨⟨oc, od, kV, dc, pm, an, ct, sl, rfl, h.lk, h.cd⟩, h.kp⟩
theorem LeftLm.me {K : PySem.W.Frag} {C : Addr} {x q : Str} {st : Stmt} {f c P : Addr} {oc : Value} {od an : Option Addr} {kV dc pm ct : Value} {sl : Array (Option Value)} {oC : Value} {dC : Option Addr} {vC : Array Value} {sC : Array (Option Value)} (h : LeftLm K C x q st f c P oc od an kV dc pm ct sl oC dC vC sC) :
    Meth K C x f := ⟨h.at_, h.isf, h.kp⟩
end LT
set_option Elab.async false
set_option linter.all false
set_option maxRecDepth 100000
set_option maxHeartbeats 1600000
/-! Own layer: books where lambdas are made; book_of. -/
namespace LT
open PySem PySem.Spec PyProof.Rows L2 NdefX LamX
/-- neither a table nor a code object -/
def Plain (o : HO) : Prop := (∀ ps, o ≠ .tbl ps) ∧ ∀ c q, o ≠ CodeO c q
theorem plain_ins {C dx : Addr} {fs : List (Str × V)} : Plain (.ins C dx fs) := ⟨nofun, fun c q z => by unfold CodeO at z; cases z⟩
theorem plain_dK {r : List (Key × V)} : Plain (.dK r) := ⟨nofun, fun c q z => by unfold CodeO at z; cases z⟩
theorem plain_lst {xs : List V} : Plain (.lst xs) := ⟨nofun, fun c q z => by unfold CodeO at z; cases z⟩
theorem HistAt.pl {C : Addr} {H : Hp} {a : HA} (h : HistAt C H a) : ∀ c ∈ a.fp, ∀ o, H c = some o → Plain o := by
  intro c hc o e
  rcases List.mem_cons.mp hc with rfl | hc
  · rw [h.ix] at e
    cases e
    exact plain_ins
  rcases List.mem_cons.mp hc with rfl | hc
  · rw [h.bd] at e
    cases e
    exact plain_dK
  obtain ⟨p, hp, rfl⟩ := List.mem_map.mp hc
  obtain ⟨i, hi⟩ := List.getElem?_of_mem hp
  obtain ⟨e', _, _, h2⟩ := paired_get h.ta hi
  rw [h2] at e
  cases e
  exact plain_dK
theorem BkH.pl {CB CH : Addr} {H : Hp} {B : BA} {v : V} (h : BkH CB CH H B v) : ∀ c ∈ B.fp, ∀ o, H c = some o → Plain o := by
  intro c hc o e
  rcases List.mem_cons.mp hc with rfl | hc
  · rw [h.ix] at e
    cases e
    exact plain_ins
  rcases List.mem_cons.mp hc with rfl | hc
  · rw [h.rd] at e
    cases e
    exact plain_dK
  rcases List.mem_cons.mp hc with rfl | hc
  · rw [h.md] at e
    cases e
    exact plain_dK
  rcases List.mem_cons.mp hc with rfl | hc
  · rw [h.ldd] at e
    cases e
    exact plain_dK
  rcases List.mem_append.mp hc with hc | hc
  · obtain ⟨x, hx, hc⟩ := hsfp_mem.mp hc
    exact (h.hm x hx).pl c hc o e
  · obtain ⟨x, hx, hc⟩ := hsfp_mem.mp hc
    exact (h.hl x hx).pl c hc o e
theorem Bk.pl {CB CH : Addr} {H : Hp} {b : Addr} {rk : List (Str × Int)} {es : List Evt} {fp : List Addr} (h : Bk CB CH H b rk es fp) : ∀ c ∈ fp, ∀ o, H c = some o → Plain o := by
  obtain ⟨B, rfl, rfl, rfl, rfl, h1, _⟩ := h
  exact h1.pl
theorem Bk.extN {CB CH : Addr} {H H' : Hp} {b : Addr} {rk : List (Str × Int)} {es : List Evt} {fp : List Addr} (h : Bk CB CH H b rk es fp) (e : ExtN H H') : Bk CB CH H' b rk es fp := h.by fun c hc o x => e c o x (h.pl c hc o x).1
theorem tabs_L {T : List (Addr × Str)} {fp : List Addr} {H H' : Hp} (t : Tabs T H) (hp : ∀ c ∈ fp, ∀ o, H c = some o → Plain o) (s : SameL fp H H') : Tabs T H' := fun x hx => by
  obtain ⟨ps, h1, h2, h3⟩ := t x hx
  refine ⟨ps, s _ _ (fun m => (hp _ m _ h1).1 ps rfl) h1, h2, fun pos cv hc => ?_⟩
  obtain ⟨c, e1, e2⟩ := h3 pos cv hc
  exact ⟨c, e1, s _ _ (fun m => (hp _ m _ e2).2 c x.2 rfl) e2⟩
/-! ### sorted by the known day -/
def knLe (a b : Evt) : Bool := decide (a.kn ≤ b.kn)
/-! ### entries of entries -/
theorem entA_has {mv : Bool} {who : Str} {d kn : Int} : ∀ es : List Evt, (∃ e ∈ es, e.mv = mv ∧ e.who = who ∧ e.day = d ∧ e.kn = kn) → ∃ w, entA es mv who d kn = some w := by
  refine snoc_ind (fun ⟨_, h, _⟩ => nomatch h) fun es e ih h => ?_
  unfold entA
  rw [histE_snoc]
  unfold stepH
  by_cases ho : ofE mv who e = true
  · rw [if_pos ho, getA_note]
    by_cases hd : d = e.day
    · rw [if_pos hd]
      show ∃ w, getA (putA ((getA (histE es mv who) e.day).getD []) e.kn e.w) kn = some w
      rw [getA_put]
      by_cases hk : kn = e.kn
      · rw [if_pos hk]
        exact ⟨_, rfl⟩
      · rw [if_neg hk]
        obtain ⟨x, hx, h1, h2, h3, h4⟩ := h
        rcases List.mem_append.mp hx with hx | hx
        · have := ih ⟨x, hx, h1, h2, h3, h4⟩
          rw [← hd]
          exact this
        · rw [List.mem_singleton.mp hx] at h4
          exact absurd h4.symm hk
    · rw [if_neg hd]
      obtain ⟨x, hx, h1, h2, h3, h4⟩ := h
      rcases List.mem_append.mp hx with hx | hx
      · exact ih ⟨x, hx, h1, h2, h3, h4⟩
      · rw [List.mem_singleton.mp hx] at h3
        exact absurd h3.symm hd
  · rw [if_neg ho]
    obtain ⟨x, hx, h1, h2, h3, h4⟩ := h
    rcases List.mem_append.mp hx with hx | hx
    · exact ih ⟨x, hx, h1, h2, h3, h4⟩
    · rw [List.mem_singleton.mp hx] at h1 h2
      exact absurd (ofE_iff.mpr ⟨h1, h2⟩) ho
theorem entA_in {es : List Evt} {mv : Bool} {who : Str} {d kn : Int} {w : V} (h : entA es mv who d kn = some w) : (⟨mv, kn, who, d, w⟩ : Evt) ∈ es := flat_ev (entA_mem.mpr h)
theorem entA_uniq {es : List Evt} (nd : es.Pairwise fun a b => ¬ EvSame a b) (e : Evt) : e ∈ es ↔ entA es e.mv e.who e.day e.kn = some e.w := by
  constructor
  · intro h
    obtain ⟨w, hw⟩ := entA_has es ⟨e, h, rfl, rfl, rfl, rfl⟩
    have h2 := entA_in hw
    rw [hw]
    by_cases he : e = ⟨e.mv, e.kn, e.who, e.day, w⟩
    · rw [show e.w = w from congrArg Evt.w he]
    · have key : ∀ (l : List Evt), (l.Pairwise fun a b => ¬ EvSame a b) → e ∈ l → (⟨e.mv, e.kn, e.who, e.day, w⟩ : Evt) ∈ l → False := by
        intro l nl h1 h2
        obtain ⟨i, hi⟩ := List.getElem?_of_mem h1
        obtain ⟨j, hj⟩ := List.getElem?_of_mem h2
        have a1 := List.getElem?_eq_some_iff.mp hi
        have a2 := List.getElem?_eq_some_iff.mp hj
        rcases Nat.lt_trichotomy i j with q | q | q
        · have := List.pairwise_iff_getElem.mp nl i j a1.1 a2.1 q
          rw [a1.2, a2.2] at this
          exact this ⟨rfl, rfl, rfl, rfl⟩
        · subst q
          rw [hi] at hj
          exact he (Option.some.inj hj)
        · have := List.pairwise_iff_getElem.mp nl j i a2.1 a1.1 q
          rw [a1.2, a2.2] at this
          exact this ⟨rfl, rfl, rfl, rfl⟩
      exact (key es nd h h2).elim
  · intro h
    have := entA_in h
    exact this
theorem IsEnts.sub {es L : List Evt} (h : IsEnts es L) : ∀ e ∈ L, e ∈ es := fun e he => entA_in ((h.mem e).mp he)
theorem IsEnts.len {es L : List Evt} (h : IsEnts es L) : L.length ≤ es.length := List.Nodup.length_le_of_subset h.nodup fun e he => h.sub e he
/-- told anew by the known days, the entries are the same -/
theorem IsEnts.again {es L : List Evt} (h : IsEnts es L) : IsEnts (L.mergeSort knLe) L := by
  have p := List.mergeSort_perm L knLe
  have nd : (L.mergeSort knLe).Pairwise fun a b => ¬ EvSame a b := p.symm.pairwise h.nd fun h s => h ⟨s.1.symm, s.2.1.symm, s.2.2.1.symm, s.2.2.2.symm⟩
  exact ⟨h.up, h.nd, fun e => p.mem_iff.symm.trans (entA_uniq nd e)⟩
end LT
set_option Elab.async false
set_option linter.all false
set_option maxRecDepth 100000
/-! Own layer: runs of what was told, a day more than once with the same. -/
namespace LT
open PySem PySem.Spec PyProof.Rows L2 NdefX
def dd : List (Int × V) → List (Int × V)
  | [] => []
  | [a] => [a]
  | a :: b :: r => if a = b then dd (b :: r) else a :: dd (b :: r)
end LT
set_option Elab.async false
set_option linter.all false
set_option maxRecDepth 100000
/-! Own layer: runs by marks, any function of days. -/
namespace LT
open PySem PySem.Spec PyProof.Rows L2 NdefX
def elseV (g1 g2 : Int → V) (d : Int) : V := .bl (!decide (g1 d = g2 d))
end LT
set_option Elab.async false
set_option linter.all false
set_option maxRecDepth 100000
/-! Own layer: the runs that are true, as days told one way only. -/
namespace LT
open PySem PySem.Spec PyProof.Rows L2 NdefX
theorem ins_nil {d : Int} : ¬ LD.Ins [] d := fun ⟨_, h, _⟩ => nomatch h
end LT
set_option Elab.async false
set_option linter.all false
set_option maxRecDepth 100000
/-! Own layer: days told mark by mark, the last row grown where it ends the day before. -/
namespace LT
open PySem PySem.Spec PyProof.Rows L2 NdefX
end LT
set_option Elab.async false
set_option linter.all false
set_option maxRecDepth 100000
/-! Own layer: texts sorted, one way only. -/
namespace LT
open PySem PySem.Spec PyProof.Rows
end LT
set_option Elab.async false
set_option linter.all false
set_option maxRecDepth 100000
set_option maxHeartbeats 1600000
/-! Own layer: what is changed between two known days. -/
namespace LT
open PySem PySem.Spec PyProof.Rows L2 NdefX
theorem elseV_true {g1 g2 : Int → V} {d : Int} : elseV g1 g2 d = .bl true ↔ g1 d ≠ g2 d := by
  unfold elseV
  by_cases h : g1 d = g2 d
  · rw [decide_eq_true h]
    exact ⟨(fun k => by cases k), fun k => absurd h k⟩
  · rw [decide_eq_false h]
    exact ⟨fun _ => h, fun _ => rfl⟩
/-- the days on which two are unlike, told one way only -/
structure IsElse (g1 g2 : Int → V) (rows : List LD.Row) : Prop where
  asc : LD.Asc rows
  ins : ∀ d, LD.Ins rows d ↔ 0 ≤ d ∧ g1 d ≠ g2 d
theorem IsElse.uniq {g1 g2 : Int → V} {r s : List LD.Row} (a : IsElse g1 g2 r) (b : IsElse g1 g2 s) : r = s := LD.asc_uniq a.asc b.asc fun d => (a.ins d).trans (b.ins d).symm
open Classical in
noncomputable def elseR (g1 g2 : Int → V) : List LD.Row := if h : ∃ r, IsElse g1 g2 r then Classical.choose h else []
theorem IsElse.eq {g1 g2 : Int → V} {r : List LD.Row} (h : IsElse g1 g2 r) : r = elseR g1 g2 := by
  have e : ∃ r, IsElse g1 g2 r := ⟨r, h⟩
  unfold elseR
  rw [dif_pos e]
  exact h.uniq (Classical.choose_spec e)
/-! ### the law's own way: mark by mark -/
structure UInv (g : Int → V) (ms : List Int) (i : Nat) (F : List LD.Row) : Prop where
  asc : LD.Asc F
  top : ∀ b, ms[i]? = some b → ∀ r ∈ F, ∃ j, r.2 = some j ∧ j < b
  ins : ∀ d, LD.Ins F d ↔ 0 ≤ d ∧ (∀ b, ms[i]? = some b → d < b) ∧ g d = .bl true
theorem UInv.nil {g : Int → V} {ms : List Int} (h : ms[0]? = some 0) : UInv g ms 0 [] := ⟨⟨(fun r hr => by cases hr), List.Pairwise.nil⟩, (fun b hb r hr => by cases hr), fun d => ⟨fun k => absurd k ins_nil, fun ⟨d0, k, _⟩ => by
  have := k 0 h
  omega⟩⟩
theorem UInv.done {g1 g2 : Int → V} {ms : List Int} {F : List LD.Row} (h : UInv (elseV g1 g2) ms ms.length F) : IsElse g1 g2 F :=
  ⟨h.asc, fun d => (h.ins d).trans ⟨fun k => ⟨k.1, elseV_true.mp k.2.2⟩, fun k => ⟨k.1, (fun b hb => by rw [List.getElem?_eq_none (Nat.le_refl _)] at hb; cases hb), elseV_true.mpr k.2⟩⟩⟩
/-! ### rows and changes on the heap -/
def RowsR (H : Hp) (us : List Addr) (F : List LD.Row) : Prop := Paired (fun t (r : LD.Row) => H t = some (.tup [.int r.1, knV r.2])) us F
theorem RowsR.mono {H H' : Hp} {us : List Addr} {F : List LD.Row} (h : RowsR H us F) (s : Same H H') : RowsR H' us F := paired_imp (fun _ _ h => s _ _ h) h
theorem RowsR.upd {H : Hp} {us : List Addr} {B : List LD.Row} {F : Addr} {xs : List V} {o : HO} (h : RowsR H us B) (e : H F = some (.lst xs)) : RowsR (L2.upd H F o) us B := paired_imp (fun t p h => by rw [upd_ne (ne_of h e (by intro z; cases z))]; exact h) h
abbrev Chg := Str × List LD.Row
def ChT (CS : Addr) (H : Hp) (c : Addr × Addr) (e : Chg) : Prop := H c.1 = some (.tup [.str e.1, .ref c.2]) ∧ PartsAt CS H c.2 e.2
theorem ChT.mono {CS : Addr} {H H' : Hp} {c : Addr × Addr} {e : Chg} (h : ChT CS H c e) (s : Same H H') : ChT CS H' c e := ⟨s _ _ h.1, h.2.mono s⟩
theorem PartsAt.upd {CS : Addr} {H : Hp} {l F : Addr} {ps : List Part} {xs : List V} {o : HO} (h : PartsAt CS H l ps) (e : H F = some (.lst xs)) (n : l ≠ F) : PartsAt CS (L2.upd H F o) l ps := by
  obtain ⟨ts, a, b⟩ := h
  exact ⟨ts, by rw [upd_ne n]; exact a, paired_imp (fun _ _ h => h.upd e) b⟩
theorem ChT.upd {CS : Addr} {H : Hp} {F : Addr} {c : Addr × Addr} {e : Chg} {xs : List V} {o : HO} (h : ChT CS H c e) (eF : H F = some (.lst xs)) (n : c.2 ≠ F) : ChT CS (L2.upd H F o) c e :=
  ⟨by rw [upd_ne (ne_of h.1 eF (by intro z; cases z))]; exact h.1, h.2.upd eF n⟩
structure ChsAt (CS : Addr) (H : Hp) (T : Addr) (cs : List (Addr × Addr)) (chs : List Chg) : Prop where
  hT : H T = some (.lst ((cs.map (·.1)).map V.ref))
  hc : Paired (ChT CS H) cs chs
theorem ChsAt.mono {CS : Addr} {H H' : Hp} {T : Addr} {cs : List (Addr × Addr)} {chs : List Chg} (h : ChsAt CS H T cs chs) (s : Same H H') : ChsAt CS H' T cs chs := ⟨s _ _ h.hT, paired_imp (fun _ _ h => h.mono s) h.hc⟩
/-! ### rows by marks -/
/-! ### how changes show and compare -/
def Parts3 (CS : Addr) (H : Hp) (l : Addr) (ps : List Part) : Prop := ∃ xs : List Addr, H l = some (.lst (xs.map V.ref ++ [V.int 3])) ∧ Paired (fun x (p : Part) => StrAt CS H x p.1 p.2) xs ps
theorem Parts3.mono {CS : Addr} {H H' : Hp} {l : Addr} {ps : List Part} (h : Parts3 CS H l ps) (s : Same H H') : Parts3 CS H' l ps := by
  obtain ⟨ts, a, b⟩ := h
  exact ⟨ts, s _ _ a, paired_imp (fun _ _ h => h.mono s) b⟩
theorem nm_repr {z : Str} (h : Nm z) : (reprText z).length ≤ 82 := by
  have h1 := StrLaws.reprText_len z fun c hc => by
    have := h.al c hc
    unfold small at this
    simp at this
    omega
  have := h.l8
  omega
end LT
set_option Elab.async false
set_option linter.all false
set_option maxRecDepth 100000
set_option maxHeartbeats 1600000
/-! Own layer: turns as a law finds them; two books where lambdas are made. -/
namespace LT
open PySem PySem.Spec PyProof.Rows L2 NdefX LamX
def RowW (H : Hp) (t : Addr) (r : Run) : Prop := H t = some (.tup [r.1, .int r.2.1, knV r.2.2])
def RowsW (H : Hp) (l : Addr) (rs : List Run) : Prop := ∃ ts : List Addr, H l = some (.lst (ts.map V.ref)) ∧ Paired (RowW H) ts rs
theorem RowsW.mono {H H' : Hp} {l : Addr} {rs : List Run} (h : RowsW H l rs) (s : Same H H') : RowsW H' l rs := by
  obtain ⟨ts, a, b⟩ := h
  exact ⟨ts, s _ _ a, paired_imp (fun _ _ k => s _ _ k) b⟩
/-! ### how turns show -/
end LT
set_option Elab.async false
set_option linter.all false
set_option maxRecDepth 100000
set_option maxHeartbeats 1600000
/-! Own layer: two books (or one) looked at where lambdas are made; lists of entries held against one another. -/
namespace LT
open PySem PySem.Spec PyProof.Rows L2 NdefX LamX
theorem ho_extN {M : List Addr} {H H' : Hp} (e : ExtN H H') : ExtN (Ho M H) (Ho M H') := fun a o h t => ho_in (ho_iff.mp h).1 (e a o (ho_iff.mp h).2 t)
theorem LastOK.extN {H H' : Hp} {la : Addr} {rk : List (Str × Int)} (h : LastOK H la rk) (e : ExtN H H') : LastOK H' la rk := by
  obtain ⟨o, a, b⟩ := h
  refine ⟨o, ?_, b⟩
  cases o with
  | none => exact e _ _ a nofun
  | some x =>
    obtain ⟨t, a1, a2⟩ := a
    exact ⟨t, e _ _ a1 nofun, e _ _ a2 nofun⟩
theorem evT_extN {H H' : Hp} {t : Addr} {x : Evt} (e : ExtN H H') (h : EvT H t x) : EvT H' t x := e t (.tup [.str (kindS x.mv), .int x.kn, .str x.who, .int x.day, x.w]) h nofun
theorem ClAt.extN {CB CH : Addr} {H H' Hi Hi' : Hp} {c : Cl} (h : ClAt CB CH H Hi c) (e : ExtN H H') (ei : ExtN Hi Hi') : ClAt CB CH H' Hi' c := by
  obtain ⟨ts, e1, e2⟩ := h.ev
  exact ⟨e _ _ h.hP nofun, ⟨ei _ _ h.hI.hn nofun, ei _ _ h.hI.hr nofun, ei _ _ h.hI.hl nofun⟩, h.hG, h.k0, h.la.extN ei, ⟨ts, e _ _ e1 nofun, paired_imp (fun _ _ k => evT_extN ei k) e2⟩, h.bk.extN e, h.kl, h.nPE, h.nPf, h.nEf⟩
theorem pot_extN {H H' : Hp} {p : Addr} (h : Pot H p) (e : ExtN H H') : Pot H' p := by
  obtain ⟨x, y, e1, e2⟩ := h
  exact ⟨x, y, e _ _ e1 nofun, e2⟩
theorem Two.extN {CB CH : Addr} {H H' : Hp} {p : Addr} {c d : Cl} (h : Two CB CH H p c d) (e : ExtN H H') : Two CB CH H' p c d :=
  ⟨pot_extN h.pot e, h.c1.extN e (ho_extN e), h.d1.extN e (ho_extN e), h.pc, h.pd, h.cd⟩
theorem One.extN {CB CH : Addr} {H H' : Hp} {p : Addr} {c : Cl} (h : One CB CH H p c) (e : ExtN H H') : One CB CH H' p c := by
  cases h with
  | mk a b c1 => exact ⟨pot_extN a e, b.extN e (ho_extN e), c1⟩
theorem ClAt.pl {CB CH : Addr} {H Hi : Hp} {c : Cl} (h : ClAt CB CH H Hi c) : ∀ a ∈ c.m, ∀ o, H a = some o → Plain o := by
  intro a ha o e
  rcases List.mem_cons.mp ha with rfl | ha
  · rw [h.hP] at e
    cases e
    exact plain_dK
  rcases List.mem_cons.mp ha with rfl | ha
  · obtain ⟨ts, e1, _⟩ := h.ev
    rw [e1] at e
    cases e
    exact plain_lst
  · exact h.bk.pl a ha o e
theorem pot_pl {H : Hp} {p : Addr} (h : Pot H p) : ∀ o, H p = some o → Plain o := fun o e => by
  obtain ⟨x, y, e1, _⟩ := h
  rw [e1] at e
  cases e
  exact plain_lst
/-! ### lists of entries -/
def EntA (H : Hp) (l : Addr) (L : List Evt) : Prop := ∃ ts : List Addr, H l = some (.lst (ts.map V.ref)) ∧ Paired (EvT H) ts L
theorem EntA.extN {H H' : Hp} {l : Addr} {L : List Evt} (h : EntA H l L) (e : ExtN H H') : EntA H' l L := by
  obtain ⟨ts, a, b⟩ := h
  exact ⟨ts, e _ _ a nofun, paired_imp (fun _ _ k => evT_extN e k) b⟩
theorem EntA.updL {H : Hp} {l G : Addr} {L : List Evt} {zs : List V} {o : HO} (h : EntA H l L) (eG : H G = some (.lst zs)) (n : l ≠ G) : EntA (L2.upd H G o) l L := by
  obtain ⟨ts, a, b⟩ := h
  exact ⟨ts, by rw [upd_ne n]; exact a, paired_imp (fun t x k => by
    show L2.upd H G o t = _
    rw [upd_ne (ne_of (show H t = some (.tup _) from k) eG (by intro z; cases z))]
    exact k) b⟩
structure EntL (H0 H : Hp) (G : Addr) (Ls : List (List Evt)) : Prop where
  n : H0 G = none
  e : ExtN H0 H
  g : ∃ ls : List Addr, H G = some (.lst (ls.map V.ref)) ∧ Paired (EntA H) ls Ls ∧ ∀ l ∈ ls, l ≠ G
theorem EntL.nil {H0 : Hp} {G : Addr} (n : H0 G = none) : EntL H0 (L2.upd H0 G (.lst [])) G [] := ⟨n, ExtN.of (same_upd n), [], upd_same, .nil, nofun⟩
theorem EntL.push {H0 H H' : Hp} {G l : Addr} {Ls : List (List Evt)} {L : List Evt} (h : EntL H0 H G Ls) (e : ExtN H H') (new : NewN H l) (hl : EntA H' l L) : ∃ zs : List V, H' G = some (.lst zs) ∧ zs.length = Ls.length ∧ EntL H0 (L2.upd H' G (.lst (zs ++ [V.ref l]))) G (Ls ++ [L]) := by
  obtain ⟨ls, eG, hls, hn⟩ := h.g
  have eG' := e _ _ eG nofun
  have nlG : l ≠ G := fun z => by
    obtain ⟨ps, k⟩ := new _ (by rw [z]; exact eG)
    cases k
  refine ⟨ls.map V.ref, eG', by rw [List.length_map, Paired.length hls], h.n, fun b o hb t => ?_, ls ++ [l], by rw [upd_same, List.map_append]; rfl, ?_, fun x hx => ?_⟩
  · rw [upd_ne (ne_of_none hb h.n)]
    exact e b o (h.e b o hb t) t
  · refine paired_snoc' ?_ (hl.updL eG' nlG)
    have key : ∀ {ls : List Addr} {Ls : List (List Evt)}, Paired (EntA H) ls Ls → (∀ l ∈ ls, l ≠ G) → Paired (EntA (L2.upd H' G (.lst (ls.map V.ref ++ [V.ref l])))) ls Ls := by
      intro ls' Ls' h1 h2
      generalize HO.lst (ls'.map V.ref ++ [V.ref l]) = o
      induction h1 with
      | nil => exact .nil
      | cons a _ ih => exact .cons ((a.extN e).updL eG' (h2 _ List.mem_cons_self)) (ih fun x hx => h2 x (List.mem_cons_of_mem _ hx))
    exact key hls hn
  · rcases List.mem_append.mp hx with hx | hx
    · exact hn x hx
    · rw [List.mem_singleton.mp hx]
      exact nlG
theorem EntL.ext {H0 H H' : Hp} {G : Addr} {Ls : List (List Evt)} (h : EntL H0 H G Ls) (e : ExtN H H') : EntL H0 H' G Ls := by
  obtain ⟨ls, eG, hls, hn⟩ := h.g
  exact ⟨h.n, h.e.trans e, ls, e _ _ eG nofun, paired_imp (fun _ _ k => k.extN e) hls, hn⟩
/-! ### as plain data -/
theorem tabs_updG {T : List (Addr × Str)} {H : Hp} {a : Addr} {zs : List V} {o : HO} (t : Tabs T H) (hl : H a = some (.lst zs)) : Tabs T (L2.upd H a o) :=
  tabs_L (fp := [a]) t (fun c hc o' e => by rw [List.mem_singleton.mp hc, hl] at e; cases e; exact plain_lst) (SameL.upd List.mem_cons_self (.of (Same.refl _)))
theorem refs_not_pot {ts : List Addr} (a b : Int) : (HO.lst (ts.map V.ref)) ≠ .lst [.int a, .int b] := by
  intro h
  have h := HO.lst.inj h
  match ts, h with
  | [], h => cases h
  | t :: r, h => cases (List.cons.inj h).1
theorem EntA.pot {H H' : Hp} {p l : Addr} {L : List Evt} (h : EntA H l L) (hp : Pot H p) (s : SameB p H H') : EntA H' l L := by
  obtain ⟨ts, a, b⟩ := h
  refine ⟨ts, s _ _ (ne_of_pot hp a refs_not_pot) a, paired_imp (fun t x k => ?_) b⟩
  have k : H t = some (.tup _) := k
  exact s _ _ (ne_of_pot hp k) k
/-- what a list of lists of entries holds -/
def EntsL (H : Hp) (G : Addr) (Ls : List (List Evt)) : Prop := ∃ ls : List Addr, H G = some (.lst (ls.map V.ref)) ∧ Paired (EntA H) ls Ls
theorem EntsL.extN {H H' : Hp} {G : Addr} {Ls : List (List Evt)} (h : EntsL H G Ls) (e : ExtN H H') : EntsL H' G Ls := by
  obtain ⟨ls, a, b⟩ := h
  exact ⟨ls, e _ _ a nofun, paired_imp (fun _ _ k => k.extN e) b⟩
theorem EntsL.pot {H H' : Hp} {p G : Addr} {Ls : List (List Evt)} (h : EntsL H G Ls) (hp : Pot H p) (s : SameB p H H') : EntsL H' G Ls := by
  obtain ⟨ls, a, b⟩ := h
  exact ⟨ls, s _ _ (ne_of_pot hp a refs_not_pot) a, paired_imp (fun _ _ k => k.pot hp s) b⟩
end LT
set_option Elab.async false
set_option linter.all false
set_option maxRecDepth 100000
set_option maxHeartbeats 1600000
/-! Own layer: the first unfed day, one only; promises of the law that looks at it. -/
namespace LT
open PySem PySem.Spec PyProof.Rows L2 NdefX
def UnfO (s : Shop) : Option (Int × Int) → Prop
  | none => ∀ d, 0 ≤ d → 0 ≤ s.left d
  | some (d, n) => 0 ≤ d ∧ d < 10 ^ 120 ∧ s.left d = -n ∧ 0 < n ∧ Fed s d
def UnfAt (H : Hp) (v : V) : Option (Int × Int) → Prop
  | none => v = .non
  | some (d, n) => ∃ t, v = .ref t ∧ H t = some (.tup [.int d, .int n])
theorem UnfAt.mono {H H' : Hp} {v : V} {o : Option (Int × Int)} (h : UnfAt H v o) (s : Same H H') : UnfAt H' v o := by
  cases o with
  | none => exact h
  | some p =>
    obtain ⟨t, e, h⟩ := h
    exact ⟨t, e, s _ _ h⟩
theorem UnfedV.o {s : Shop} {H H' : Hp} {v : V} (h : UnfedV s H H' v) : ∃ o, UnfO s o ∧ UnfAt H' v o := by
  rcases h with ⟨e, h⟩ | ⟨t, d, n, e, _, h1, h2, h3, h4, h5, h6⟩
  · exact ⟨none, h, e⟩
  · exact ⟨some (d, n), ⟨h2, h3, h4, h5, h6⟩, t, e, h1⟩
theorem UnfO.uniq {s : Shop} {o1 o2 : Option (Int × Int)} (a : UnfO s o1) (b : UnfO s o2) : o1 = o2 := by
  cases o1 with
  | none =>
    cases o2 with
    | none => rfl
    | some q =>
      obtain ⟨b1, b2, b3, b4, b5⟩ := b
      have := a q.1 b1
      omega
  | some p =>
    obtain ⟨a1, a2, a3, a4, a5⟩ := a
    cases o2 with
    | none =>
      have := b p.1 a1
      omega
    | some q =>
      obtain ⟨b1, b2, b3, b4, b5⟩ := b
      obtain ⟨d, n⟩ := p
      obtain ⟨e, m⟩ := q
      simp only at a1 a2 a3 a4 a5 b1 b2 b3 b4 b5
      have e1 : d = e := by
        by_cases h : d < e
        · have := b5 d a1 h
          omega
        · by_cases h' : e < d
          · have := a5 e b1 h'
            omega
          · omega
      subst e1
      have : n = m := by omega
      rw [this]
def unfD : Option (Int × Int) → PyData
  | none => .none
  | some (d, n) => .tuple [.int d, .int n]
theorem UnfAt.dp {K : PySem.W.Frag} {H : Hp} {v : V} {o : Option (Int × Int)} (h : UnfAt H v o) : Dp K H v (unfD o) := by
  cases o with
  | none =>
    rw [show v = .non from h]
    exact .non
  | some p =>
    obtain ⟨t, rfl, h⟩ := h
    exact .tup (SqT.of h) (.cons (.int _) (.cons (.int _) .nil))
end LT
set_option Elab.async false
set_option linter.all false
set_option maxRecDepth 100000
set_option maxHeartbeats 1600000
/-! Own layer: what more stores, and one head more, do to what is left. -/
namespace LT
open PySem PySem.Spec PyProof.Rows L2 NdefX LamX
/-! ### told anew, the same holds -/
def SameHd (es es' : List Evt) : Prop := ∀ mv z kn d, heldE es' mv z kn d = heldE es mv z kn d
/-! ### shops alike -/
theorem SameHd.pl {es es' : List Evt} (h : SameHd es es') (z : Str) (kn : Option Int) (d : Int) : plE es' z kn d = plE es z kn d := by
  unfold plE
  rw [show heldE es' true z kn = heldE es true z kn from funext fun x => h true z kn x]
theorem land_held (s : Shop) (d : Int) : s.land d = numI (heldE s.es false s.z s.kn d) := by
  unfold Shop.land Shop.landW heldE
  cases heldO s.es false s.z s.kn d with
  | none => rfl
  | some w => rfl
theorem shop_left {s s' : Shop} (hl : ∀ d, 0 ≤ d → s'.land d = s.land d) (hm : ∀ d, 0 ≤ d → s'.many d = s.many d) (hR : s'.R = s.R) (d : Int) : s'.left d = s.left d := by
  unfold Shop.left leftI
  refine sumN_congr fun i _ => ?_
  unfold Shop.net
  rw [hl _ (Int.natCast_nonneg _), hm _ (Int.natCast_nonneg _), hR]
theorem SameHd.left {es es' : List Evt} (h : SameHd es es') (rk : List (Str × Int)) (z : Str) (kn : Option Int) (R : Int) (d : Int) : (shopOf es' rk z kn R).left d = (shopOf es rk z kn R).left d := by
  refine shop_left (s := shopOf es rk z kn R) (s' := shopOf es' rk z kn R) (fun d _ => ?_) (fun d _ => ?_) rfl d
  · rw [land_held, land_held]
    show numI (heldE es' false z kn d) = numI (heldE es false z kn d)
    rw [h]
  · show manyI es' _ z kn d = manyI es _ z kn d
    unfold manyI
    congr 2
    exact List.filter_congr fun k _ => by rw [h.pl]
/-! ### one head more -/
theorem sum_nn {ind : Int → Prop} [DecidablePred ind] : ∀ n : Nat, 0 ≤ sumN (fun i => if ind i then 1 else 0) n
  | 0 => Int.le_refl _
  | n + 1 => by
    have := sum_nn (ind := ind) n
    show 0 ≤ sumN (fun i => if ind i then 1 else 0) n + if ind n then 1 else 0
    split <;> omega
/-! ### unfed, wanted -/
theorem UnfO.le {s s' : Shop} {o o' : Option (Int × Int)} (h : ∀ d, 0 ≤ d → s'.left d ≤ s.left d) (a : UnfO s o) (b : UnfO s' o') : o = none ∨ ∃ p p', o = some p ∧ o' = some p' ∧ p'.1 ≤ p.1 := by
  cases o with
  | none => exact .inl rfl
  | some p =>
    obtain ⟨d, n⟩ := p
    obtain ⟨a1, a2, a3, a4, a5⟩ := a
    have := h d a1
    cases o' with
    | none =>
      have := b d a1
      omega
    | some p' =>
      obtain ⟨d', n'⟩ := p'
      obtain ⟨b1, b2, b3, b4, b5⟩ := b
      refine .inr ⟨_, _, rfl, rfl, ?_⟩
      show d' ≤ d
      refine Classical.byContradiction fun hn => ?_
      have := b5 d a1 (by omega)
      omega
/-- with what is wanted, landed beside -/
theorem Want.full {s s' : Shop} {till least : Int} {day : Option Int} (w : Want s till (fun _ => True) least day) (h : ∀ d, 0 ≤ d → s'.left d = s.left d + -least) : Want s' till (fun _ => True) 0 none ∧ (∀ o, UnfO s' o → ∀ p, o = some p → till < p.1) ∧ ∀ x, day = some x → s'.left x = 0 := by
  refine ⟨⟨fun d d0 d1 _ => ?_, .inl ⟨rfl, rfl⟩⟩, fun o ho p hp => ?_, fun x hx => ?_⟩
  · have := w.low d d0 d1 trivial
    rw [h d d0]
    omega
  · subst hp
    obtain ⟨d, n⟩ := p
    obtain ⟨a1, a2, a3, a4, a5⟩ := ho
    refine Classical.byContradiction fun hn => ?_
    have hn : ¬ till < d := hn
    have := w.low d a1 (by omega) trivial
    rw [h d a1] at a3
    omega
  · rcases w.is with ⟨_, e⟩ | ⟨y, e, _, y0, _, y2, _⟩
    · rw [e] at hx
      cases hx
    · rw [e] at hx
      cases hx
      rw [h _ y0]
      omega
end LT
set_option Elab.async false
set_option linter.all false
set_option maxRecDepth 100000
set_option maxHeartbeats 1600000
/-! Own layer: a plan and its book beside a pot, with no list of what was told. -/
namespace LT
open PySem PySem.Spec PyProof.Rows L2 NdefX LamX
structure PbD where
  P : Addr
  b : Addr
  la : Addr
  D : PlanD
  kn : Int
  es : List Evt
  fp : List Addr
def PbD.m (c : PbD) : List Addr := c.P :: c.fp
structure Pb (CB CH : Addr) (H : Hp) (p : Addr) (c : PbD) : Prop where
  pot : Pot H p
  hP : H c.P = some (.dK (planK c.D c.kn c.la))
  hI : PlanI (Ho (p :: c.m) H) c.D
  hG : PlanG c.D
  k0 : 0 ≤ c.kn
  la : LastOK (Ho (p :: c.m) H) c.la c.D.rk
  bk : Bk CB CH H c.b c.D.rk c.es c.fp
  kl : ∀ e ∈ c.es, e.kn ≤ c.kn
  wl : ∀ e ∈ c.es, ∀ n, e.w = .int n → n < 10 ^ 55
  pP : p ≠ c.P
  pf : p ∉ c.fp
  Pf : c.P ∉ c.fp
theorem Pb.ex {CB CH : Addr} {H : Hp} {p : Addr} {c : PbD} (h : Pb CB CH H p c) : ∀ a ∈ p :: c.m, ∃ o, H a = some o := by
  intro a ha
  rcases List.mem_cons.mp ha with rfl | ha
  · obtain ⟨x, y, e, _⟩ := h.pot
    exact ⟨_, e⟩
  rcases List.mem_cons.mp ha with rfl | ha
  · exact ⟨_, h.hP⟩
  · exact h.bk.ex a ha
theorem Pb.look {CB CH : Addr} {H H' : Hp} {p : Addr} {c : PbD} (h : Pb CB CH H p c) (hp : Pot H' p) (s : SameB p H H') : Pb CB CH H' p c := by
  have sl : SameL [p] H H' := SameL.ofB List.mem_cons_self s
  have si : Same (Ho (p :: c.m) H) (Ho (p :: c.m) H') := ho_step sl (fun a ha => by rw [List.mem_singleton.mp ha]; exact List.mem_cons_self) fun a ha => .inl ha
  exact ⟨hp, s _ _ (Ne.symm h.pP) h.hP, h.hI.mono si, h.hG, h.k0, h.la.mono si, h.bk.by fun x hx o e => s _ _ (fun z => h.pf (by rw [← z]; exact hx)) e, h.kl, h.wl, h.pP, h.pf, h.Pf⟩
theorem Pb.mono {CB CH : Addr} {H H' : Hp} {p : Addr} {c : PbD} (h : Pb CB CH H p c) (s : Same H H') : Pb CB CH H' p c := h.look (h.pot.mono s) (SameB.of s)
theorem Pb.extN {CB CH : Addr} {H H' : Hp} {p : Addr} {c : PbD} (h : Pb CB CH H p c) (e : ExtN H H') : Pb CB CH H' p c :=
  ⟨pot_extN h.pot e, e _ _ h.hP nofun, ⟨ho_extN e _ _ h.hI.hn nofun, ho_extN e _ _ h.hI.hr nofun, ho_extN e _ _ h.hI.hl nofun⟩, h.hG, h.k0, h.la.extN (ho_extN e), h.bk.extN e, h.kl, h.wl, h.pP, h.pf, h.Pf⟩
theorem Pb.pl {CB CH : Addr} {H : Hp} {p : Addr} {c : PbD} (h : Pb CB CH H p c) : ∀ a ∈ p :: c.m, ∀ o, H a = some o → Plain o := by
  intro a ha o e
  rcases List.mem_cons.mp ha with rfl | ha
  · exact pot_pl h.pot o e
  rcases List.mem_cons.mp ha with rfl | ha
  · rw [h.hP] at e
    cases e
    exact plain_dK
  · exact h.bk.pl a ha o e
theorem Pb.hn {CB CH : Addr} {H : Hp} {p : Addr} {c : PbD} (h : Pb CB CH H p c) : H c.D.n = some (.lst (c.D.zs.map V.str)) := ho_le _ _ h.hI.hn
theorem Pb.hl {CB CH : Addr} {H : Hp} {p : Addr} {c : PbD} (h : Pb CB CH H p c) : H c.D.l = some (.lst (c.D.ls.map V.str)) := ho_le _ _ h.hI.hl
theorem Pb.hr {CB CH : Addr} {H : Hp} {p : Addr} {c : PbD} (h : Pb CB CH H p c) : H c.D.r = some (.dK (sd c.D.rk)) := ho_le _ _ h.hI.hr
theorem Pb.land {CB CH : Addr} {H : Hp} {p : Addr} {c : PbD} (h : Pb CB CH H p c) (z : Str) (R d : Int) : (shopOf c.es c.D.rk z none R).land d < 10 ^ 55 := by
  rw [land_held]
  show numI (heldE c.es false z none d) < _
  unfold heldE
  cases e : heldO c.es false z none d with
  | none => show (0 : Int) < 10 ^ 55; decide
  | some w =>
    obtain ⟨x, hx, _, hw⟩ := heldO_mem e
    show numI w < _
    rw [← hw]
    cases hv : x.w with
    | int n => exact h.wl x hx n hv
    | _ => show (0 : Int) < 10 ^ 55; decide
/-! ### what a book is made of -/
def OwnO (o : HO) : Prop := (∃ C d fs, o = .ins C d fs) ∨ ∃ r, o = .dK r
theorem HistAt.own {C : Addr} {H : Hp} {a : HA} (h : HistAt C H a) : ∀ c ∈ a.fp, ∀ o, H c = some o → OwnO o := by
  intro c hc o e
  rcases List.mem_cons.mp hc with rfl | hc
  · rw [h.ix] at e
    cases e
    exact .inl ⟨_, _, _, rfl⟩
  rcases List.mem_cons.mp hc with rfl | hc
  · rw [h.bd] at e
    cases e
    exact .inr ⟨_, rfl⟩
  obtain ⟨p, hp, rfl⟩ := List.mem_map.mp hc
  obtain ⟨i, hi⟩ := List.getElem?_of_mem hp
  obtain ⟨e', _, _, h2⟩ := paired_get h.ta hi
  rw [h2] at e
  cases e
  exact .inr ⟨_, rfl⟩
theorem Bk.own {CB CH : Addr} {H : Hp} {b : Addr} {rk : List (Str × Int)} {es : List Evt} {fp : List Addr} (k : Bk CB CH H b rk es fp) : ∀ c ∈ fp, ∀ o, H c = some o → OwnO o := by
  obtain ⟨B, rfl, rfl, rfl, rfl, h, _⟩ := k
  intro c hc o e
  rcases List.mem_cons.mp hc with rfl | hc
  · rw [h.ix] at e
    cases e
    exact .inl ⟨_, _, _, rfl⟩
  rcases List.mem_cons.mp hc with rfl | hc
  · rw [h.rd] at e
    cases e
    exact .inr ⟨_, rfl⟩
  rcases List.mem_cons.mp hc with rfl | hc
  · rw [h.md] at e
    cases e
    exact .inr ⟨_, rfl⟩
  rcases List.mem_cons.mp hc with rfl | hc
  · rw [h.ldd] at e
    cases e
    exact .inr ⟨_, rfl⟩
  rcases List.mem_append.mp hc with hc | hc
  · obtain ⟨x, hx, hc⟩ := hsfp_mem.mp hc
    exact (h.hm x hx).own c hc o e
  · obtain ⟨x, hx, hc⟩ := hsfp_mem.mp hc
    exact (h.hl x hx).own c hc o e
theorem Bk.nl {CB CH : Addr} {H : Hp} {b : Addr} {rk : List (Str × Int)} {es : List Evt} {fp : List Addr} (k : Bk CB CH H b rk es fp) {t : Addr} {xs : List V} (e : H t = some (.lst xs)) : t ∉ fp := fun h => by
  rcases k.own t h _ e with ⟨_, _, _, z⟩ | ⟨_, z⟩ <;> cases z
/-! ### all but tables and the pot -/
def ExtP (p : Addr) (H H' : Hp) : Prop := ∀ a o, a ≠ p → H a = some o → (∀ ps, o ≠ .tbl ps) → H' a = some o
theorem ExtP.trans {p : Addr} {H H1 H2 : Hp} (a : ExtP p H H1) (b : ExtP p H1 H2) : ExtP p H H2 := fun x o n h t => b x o n (a x o n h t) t
theorem ExtP.L {p : Addr} {fp : List Addr} {H H1 H2 : Hp} (e : ExtP p H H1) (n : ∀ c ∈ fp, NewN H c) (s : SameL fp H1 H2) : ExtP p H H2 := fun c o np h t => s c o (fun m => by
  obtain ⟨ps, z⟩ := n c m o h
  exact t ps z) (e c o np h t)
end LT
set_option Elab.async false
set_option linter.all false
set_option maxRecDepth 100000
namespace K34
open PySem PySem.Spec PyProof.Rows L2 LT NdefX
def topS (i : Nat) : Stmt := PySem.Challenge.pw_lightturns_k34_loads.main.body.getD i (.Pass ⟨0, 0, 0, 0⟩)
abbrev s_is_name : Stmt := topS 15
abbrev s_is_whole : Stmt := topS 17
abbrev s_is_from : Stmt := topS 18
abbrev s_parts_for : Stmt := topS 19
abbrev s_Boat___init__ : Stmt := inClass (topS 23) 0
abbrev s_Boat_seats : Stmt := inClass (topS 23) 1
abbrev s_Boat_carries : Stmt := inClass (topS 23) 2
abbrev s_Boat_man : Stmt := inClass (topS 23) 3
abbrev s_fewest : Stmt := topS 24
abbrev s_loads : Stmt := topS 25
abbrev s_taken : Stmt := topS 26
abbrev s_room_of : Stmt := topS 27
abbrev s_weight_out : Stmt := topS 28
abbrev s_check_wanted : Stmt := topS 29
abbrev s_are_stores : Stmt := topS 30
abbrev s__law_cell : Stmt := topS 32
abbrev s__law_pot : Stmt := topS 33
abbrev s__law_take : Stmt := topS 34
abbrev s__law_far : Stmt := topS 35
abbrev s__law_number : Stmt := topS 36
abbrev s__law_boat : Stmt := topS 37
abbrev s__law_name : Stmt := topS 38
abbrev s__law_stores : Stmt := topS 39
abbrev s__law_room : Stmt := topS 40
abbrev s__law_men : Stmt := topS 41
abbrev s__law_heavy : Stmt := topS 42
abbrev s__law_up : Stmt := topS 43
abbrev s__law_fewest : Stmt := topS 44
abbrev s__law_word : Stmt := topS 45
abbrev s__law_told : Stmt := topS 46
abbrev s__law_is_whole : Stmt := topS 47
abbrev s__law_is_load : Stmt := topS 48
abbrev s__law_carry_all : Stmt := topS 49
abbrev s__law_own : Stmt := topS 50
abbrev s__law_looked : Stmt := topS 51
abbrev s__law_turned : Stmt := topS 52
abbrev s_law : Stmt := topS 53
set_option genInjectivity false in
set_option genSizeOf false in
/-- all that the top has left -/
structure All (K : PySem.W.Frag) (P : Program) (mg : Str → Option Value) : Type where
  T : Tx mg
  t_SMALL_LETTERS : Tok
  g_SMALL_LETTERS : mg "SMALL_LETTERS" = some (.str (Str.ofString "abcdefghijklmnopqrstuvwxyz") t_SMALL_LETTERS)
  t_LONGEST_NAME : Tok
  g_LONGEST_NAME : mg "LONGEST_NAME" = some (.int (8) t_LONGEST_NAME)
  t_MOST_THINGS : Tok
  g_MOST_THINGS : mg "MOST_THINGS" = some (.int (8) t_MOST_THINGS)
  t_MOST_LOADS : Tok
  g_MOST_LOADS : mg "MOST_LOADS" = some (.int (300) t_MOST_LOADS)
  C_LightsError : Addr
  g_LightsError : mg "LightsError" = some (.ref C_LightsError)
  C_Wrong : Addr
  g_Wrong : mg "Wrong" = some (.ref C_Wrong)
  C_Barred : Addr
  g_Barred : mg "Barred" = some (.ref C_Barred)
  C_NoWeather : Addr
  g_NoWeather : mg "NoWeather" = some (.ref C_NoWeather)
  C_TooMany : Addr
  g_TooMany : mg "TooMany" = some (.ref C_TooMany)
  C_Small : Addr
  g_Small : mg "Small" = some (.ref C_Small)
  C_Early : Addr
  g_Early : mg "Early" = some (.ref C_Early)
  C_Clash : Addr
  g_Clash : mg "Clash" = some (.ref C_Clash)
  E_Small : Ev K mg "Small" C_Small
  x_Small : ExcC K C_Small
  kv_Small : PySem.W.kitOne K (.ref C_Small) (.type "ValueError") = some true
  E_TooMany : Ev K mg "TooMany" C_TooMany
  x_TooMany : ExcC K C_TooMany
  kv_TooMany : PySem.W.kitOne K (.ref C_TooMany) (.type "ValueError") = some true
  kit_Small_Wrong : PySem.W.kitOne K (.ref C_Small) (.ref C_Wrong) = some false
  kit_Small_Clash : PySem.W.kitOne K (.ref C_Small) (.ref C_Clash) = some false
  kit_Small_Early : PySem.W.kitOne K (.ref C_Small) (.ref C_Early) = some false
  kit_Small_NoWeather : PySem.W.kitOne K (.ref C_Small) (.ref C_NoWeather) = some false
  kit_Small_Small : PySem.W.kitOne K (.ref C_Small) (.ref C_Small) = some true
  kit_Small_TooMany : PySem.W.kitOne K (.ref C_Small) (.ref C_TooMany) = some false
  kit_Small_Barred : PySem.W.kitOne K (.ref C_Small) (.ref C_Barred) = some true
  kit_TooMany_Wrong : PySem.W.kitOne K (.ref C_TooMany) (.ref C_Wrong) = some false
  kit_TooMany_Clash : PySem.W.kitOne K (.ref C_TooMany) (.ref C_Clash) = some false
  kit_TooMany_Early : PySem.W.kitOne K (.ref C_TooMany) (.ref C_Early) = some false
  kit_TooMany_NoWeather : PySem.W.kitOne K (.ref C_TooMany) (.ref C_NoWeather) = some false
  kit_TooMany_Small : PySem.W.kitOne K (.ref C_TooMany) (.ref C_Small) = some false
  kit_TooMany_TooMany : PySem.W.kitOne K (.ref C_TooMany) (.ref C_TooMany) = some true
  kit_TooMany_Barred : PySem.W.kitOne K (.ref C_TooMany) (.ref C_Barred) = some true
  exm_Small_LightsError : PySem.W.exmOne K (.ref C_Small) (.ref C_LightsError) = some true
  exm_TooMany_LightsError : PySem.W.exmOne K (.ref C_TooMany) (.ref C_LightsError) = some true
  C_Boat : Addr
  Z_Boat : ClF K mg "Boat" C_Boat
  n_Boat_many_seats : PySem.W.findIn K (.ref C_Boat) "many_seats" = some none
  n_Boat_most_weight : PySem.W.findIn K (.ref C_Boat) "most_weight" = some none
  n_Boat_man_weight : PySem.W.findIn K (.ref C_Boat) "man_weight" = some none
  f_Boat___init__ : Addr
  d_Boat___init__ : FuncData
  h_Boat___init__ : Mth K C_Boat "__init__" "Boat.__init__" ["self", "seats", "carries", "man"] s_Boat___init__ f_Boat___init__ d_Boat___init__
  M_Boat : Mk K C_Boat f_Boat___init__
  f_Boat_seats : Addr
  d_Boat_seats : FuncData
  h_Boat_seats : Mth K C_Boat "seats" "Boat.seats" ["self"] s_Boat_seats f_Boat_seats d_Boat_seats
  f_Boat_carries : Addr
  d_Boat_carries : FuncData
  h_Boat_carries : Mth K C_Boat "carries" "Boat.carries" ["self"] s_Boat_carries f_Boat_carries d_Boat_carries
  f_Boat_man : Addr
  d_Boat_man : FuncData
  h_Boat_man : Mth K C_Boat "man" "Boat.man" ["self"] s_Boat_man f_Boat_man d_Boat_man
  f_is_name : Addr
  d_is_name : FuncData
  h_is_name : Has K mg "is_name" ["thing"] s_is_name f_is_name d_is_name
  f_is_whole : Addr
  d_is_whole : FuncData
  h_is_whole : Has K mg "is_whole" ["thing"] s_is_whole f_is_whole d_is_whole
  f_is_from : Addr
  d_is_from : FuncData
  h_is_from : Has K mg "is_from" ["thing", "least"] s_is_from f_is_from d_is_from
  f_parts_for : Addr
  d_parts_for : FuncData
  h_parts_for : Has K mg "parts_for" ["many", "most"] s_parts_for f_parts_for d_parts_for
  f_taken : Addr
  d_taken : FuncData
  h_taken : Has K mg "taken" ["rest", "weight"] s_taken f_taken d_taken
  f_room_of : Addr
  d_room_of : FuncData
  h_room_of : Has K mg "room_of" ["boat"] s_room_of f_room_of d_room_of
  f_weight_out : Addr
  d_weight_out : FuncData
  h_weight_out : Has K mg "weight_out" ["boat", "out", "stores"] s_weight_out f_weight_out d_weight_out
  f_check_wanted : Addr
  d_check_wanted : FuncData
  h_check_wanted : Has K mg "check_wanted" ["out", "back", "stores"] s_check_wanted f_check_wanted d_check_wanted
  f_are_stores : Addr
  d_are_stores : FuncData
  h_are_stores : Has K mg "are_stores" ["thing"] s_are_stores f_are_stores d_are_stores
  f__law_cell : Addr
  d__law_cell : FuncData
  h__law_cell : Has K mg "_law_cell" ["_law_script", "_law_k"] s__law_cell f__law_cell d__law_cell
  f__law_pot : Addr
  d__law_pot : FuncData
  h__law_pot : Has K mg "_law_pot" ["_law_script", "_law_k"] s__law_pot f__law_pot d__law_pot
  f__law_take : Addr
  d__law_take : FuncData
  h__law_take : Has K mg "_law_take" ["_law_pot_here", "_law_room_here"] s__law_take f__law_take d__law_take
  f__law_far : Addr
  d__law_far : FuncData
  h__law_far : Has K mg "_law_far" ["_law_pot_here"] s__law_far f__law_far d__law_far
  f__law_number : Addr
  d__law_number : FuncData
  h__law_number : Has K mg "_law_number" ["_law_pot_here", "_law_most"] s__law_number f__law_number d__law_number
  f__law_boat : Addr
  d__law_boat : FuncData
  h__law_boat : Has K mg "_law_boat" ["_law_pot_here"] s__law_boat f__law_boat d__law_boat
  f__law_name : Addr
  d__law_name : FuncData
  h__law_name : Has K mg "_law_name" ["_law_pot_here"] s__law_name f__law_name d__law_name
  f__law_stores : Addr
  d__law_stores : FuncData
  h__law_stores : Has K mg "_law_stores" ["_law_pot_here"] s__law_stores f__law_stores d__law_stores
  f__law_room : Addr
  d__law_room : FuncData
  h__law_room : Has K mg "_law_room" ["_law_ship"] s__law_room f__law_room d__law_room
  f__law_men : Addr
  d__law_men : FuncData
  h__law_men : Has K mg "_law_men" ["_law_pot_here", "_law_room_here"] s__law_men f__law_men d__law_men
  f__law_heavy : Addr
  d__law_heavy : FuncData
  h__law_heavy : Has K mg "_law_heavy" ["_law_pot_here", "_law_cargo", "_law_left"] s__law_heavy f__law_heavy d__law_heavy
  f__law_up : Addr
  d__law_up : FuncData
  h__law_up : Has K mg "_law_up" ["_law_many", "_law_by"] s__law_up f__law_up d__law_up
  f__law_fewest : Addr
  d__law_fewest : FuncData
  h__law_fewest : Has K mg "_law_fewest" ["_law_ship", "_law_away", "_law_home", "_law_weight"] s__law_fewest f__law_fewest d__law_fewest
  f__law_word : Addr
  d__law_word : FuncData
  h__law_word : Has K mg "_law_word" ["_law_e"] s__law_word f__law_word d__law_word
  f__law_told : Addr
  d__law_told : FuncData
  h__law_told : Has K mg "_law_told" ["_law_ship", "_law_away", "_law_home", "_law_cargo"] s__law_told f__law_told d__law_told
  f__law_is_whole : Addr
  d__law_is_whole : FuncData
  h__law_is_whole : Has K mg "_law_is_whole" ["_law_thing", "_law_least"] s__law_is_whole f__law_is_whole d__law_is_whole
  f__law_is_load : Addr
  d__law_is_load : FuncData
  h__law_is_load : Has K mg "_law_is_load" ["_law_ship", "_law_load"] s__law_is_load f__law_is_load d__law_is_load
  f__law_carry_all : Addr
  d__law_carry_all : FuncData
  h__law_carry_all : Has K mg "_law_carry_all" ["_law_found", "_law_away", "_law_home", "_law_cargo"] s__law_carry_all f__law_carry_all d__law_carry_all
  f__law_own : Addr
  d__law_own : FuncData
  h__law_own : Has K mg "_law_own" ["_law_ship", "_law_away", "_law_home", "_law_cargo", "_law_found"] s__law_own f__law_own d__law_own
  f__law_looked : Addr
  d__law_looked : FuncData
  h__law_looked : Has K mg "_law_looked" ["_law_numbers", "_law_ship", "_law_away", "_law_home", "_law_cargo"] s__law_looked f__law_looked d__law_looked
  f__law_turned : Addr
  d__law_turned : FuncData
  h__law_turned : Has K mg "_law_turned" ["_law_pot_here", "_law_cargo"] s__law_turned f__law_turned d__law_turned
  f_fewest : Addr
  d_fewest : FuncData
  q_fewest : FunD K "fewest" "fewest" (defArgs s_fewest) (defBody s_fewest) (defScope s_fewest) [.int 0, .non] [] f_fewest d_fewest
  gl_fewest : mg "fewest" = some (.ref f_fewest)
  kp_fewest : PySem.W.keepIn K (.ref f_fewest) = true
  f_loads : Addr
  d_loads : FuncData
  q_loads : FunD K "loads" "loads" (defArgs s_loads) (defBody s_loads) (defScope s_loads) [.int 0, .non] [] f_loads d_loads
  gl_loads : mg "loads" = some (.ref f_loads)
  kp_loads : PySem.W.keepIn K (.ref f_loads) = true
end K34
set_option Elab.async false
set_option linter.all false
set_option maxRecDepth 100000
set_option maxHeartbeats 1600000
namespace K34
open PySem PySem.Spec PyProof.Rows L2 LT NdefX
theorem scWhole : FnScope ["thing"] ["thing"] (defScope s_is_whole) := ⟨rfl, rfl, rfl, by decide +kernel, rfl, by decide +kernel, by decide +kernel⟩
theorem scFrom : FnScope ["thing", "least"] ["thing", "least"] (defScope s_is_from) := ⟨rfl, rfl, rfl, by decide +kernel, rfl, by decide +kernel, by decide +kernel⟩
theorem scParts : FnScope ["many", "most"] ["many", "most"] (defScope s_parts_for) := ⟨rfl, rfl, rfl, by decide +kernel, rfl, by decide +kernel, by decide +kernel⟩
theorem scIs : FnScope ["thing", "letter"] ["thing"] (defScope s_is_name) := ⟨rfl, rfl, rfl, by decide +kernel, rfl, by decide +kernel, by decide +kernel⟩
theorem scInit : FnScope ["self", "seats", "carries", "man"] ["self", "seats", "carries", "man"] (defScope s_Boat___init__) := ⟨rfl, rfl, rfl, by decide +kernel, rfl, by decide +kernel, by decide +kernel⟩
theorem scSeats : FnScope ["self"] ["self"] (defScope s_Boat_seats) := ⟨rfl, rfl, rfl, by decide +kernel, rfl, by decide +kernel, by decide +kernel⟩
theorem scCarries : FnScope ["self"] ["self"] (defScope s_Boat_carries) := ⟨rfl, rfl, rfl, by decide +kernel, rfl, by decide +kernel, by decide +kernel⟩
theorem scMan : FnScope ["self"] ["self"] (defScope s_Boat_man) := ⟨rfl, rfl, rfl, by decide +kernel, rfl, by decide +kernel, by decide +kernel⟩
theorem scRoom : FnScope ["boat"] ["boat"] (defScope s_room_of) := ⟨rfl, rfl, rfl, by decide +kernel, rfl, by decide +kernel, by decide +kernel⟩
theorem scWt : FnScope ["boat", "out", "stores"] ["boat", "out", "stores"] (defScope s_weight_out) := ⟨rfl, rfl, rfl, by decide +kernel, rfl, by decide +kernel, by decide +kernel⟩
theorem scCw : FnScope ["out", "back", "stores"] ["out", "back", "stores"] (defScope s_check_wanted) := ⟨rfl, rfl, rfl, by decide +kernel, rfl, by decide +kernel, by decide +kernel⟩
theorem scSt : FnScope ["thing", "name", "weight"] ["thing"] (defScope s_are_stores) := ⟨rfl, rfl, rfl, by decide +kernel, rfl, by decide +kernel, by decide +kernel⟩
theorem scFw : FnScope ["boat", "out", "back", "stores", "for_weight", "room"] ["boat", "out", "back", "stores"] (defScope s_fewest) := ⟨rfl, rfl, rfl, by decide +kernel, rfl, by decide +kernel, by decide +kernel⟩
def spWhole : Sp := fun vs H Q _ => ∃ v, vs = [v] ∧ Odd H v ∧ Q (.bl (wholeB v)) H
def spFrom : Sp := fun vs H Q _ => ∃ v l, vs = [v, .int l] ∧ Odd H v ∧ Q (.bl (fromB v l)) H
theorem ps_no {X : Cx} {st : Stmt} : PS X st (fun _ _ _ => False) := ⟨fun _ _ _ _ _ _ h => h.elim⟩
theorem small1000 {n : Nat} (h : n ≤ 1000) : n < sizeLine := by rw [sizeLine_eq]; omega
theorem all_true (bs : List Bool) (h : ∀ b ∈ bs, b = true) : bs.all id = true := by
  rw [List.all_eq_true]
  exact fun b hb => h b hb
section
variable {P : Program} {w : World} {K : PySem.W.Frag} {mg : Str → Option Value} {base : Heap}
theorem ok_whole {f : Addr} {fd : FuncData} {k : Nat} (F : Fun K "is_whole" "is_whole" s_is_whole f fd) (T : Tx mg) : FnOk P w K mg base CX0 (k + 1) f fd ["thing"] spWhole := by
  refine F.ok scWhole (fun vs H Q E h => ?_) (fun cdv A outer s H vs Q E hr h => ?_)
  · obtain ⟨v, rfl, _⟩ := h
    rfl
  · obtain ⟨v, rfl, hv, q⟩ := h
    refine ⟨_, pss_one (ps_ret (pe_and (pe_callB call_isi (by rfl) T.isi (by decide +kernel) (pa_cons (pv 0) (pa_cons (pe_bltn (v := .ty "int") (by rfl) T.int (by decide +kernel) rfl) pa_nil)))
      (pe_one (pe_not (pe_callB call_isi (by rfl) T.isi (by decide +kernel) (pa_cons (pv 0) (pa_cons (pe_bltn (v := .ty "bool") (by rfl) T.bool (by decide +kernel) rfl) pa_nil))))))), ?_⟩
    obtain ⟨t, ty, k1, k2⟩ := hv.ty (K := K)
    refine ⟨_, rfl, v, .ty "int", t, _, isInt v, rfl, .ty _, ty, k1, _, rfl, ?_⟩
    rw [← whole_eq v] at q
    cases hb : isInt v with
    | false =>
      rw [hb] at q
      exact q
    | true =>
      rw [hb] at q
      exact ⟨_, rfl, v, .ty "bool", t, _, isBl v, rfl, .ty _, ty, k2, _, rfl, q⟩
theorem ok_from {f fW : Addr} {fd fdW : FuncData} {k : Nat} (F : Fun K "is_from" "is_from" s_is_from f fd) (T : Tx mg) (FW : Has K mg "is_whole" ["thing"] s_is_whole fW fdW) : FnOk P w K mg base CX0 (k + 2) f fd ["thing", "least"] spFrom := by
  have GW : FnOk P w K mg base CX0 (k + 1) fW fdW ["thing"] spWhole := ok_whole FW.fn T
  refine F.ok scFrom (fun vs H Q E h => ?_) (fun cdv A outer s H vs Q E hr h => ?_)
  · obtain ⟨v, l, rfl, _⟩ := h
    rfl
  · obtain ⟨v, l, rfl, hv, q⟩ := h
    refine ⟨_, pss_one (ps_ret (pe_and (pe_call GW hr (by rfl) FW.gl FW.fn.kp FW.bd .nil pass0 (pa_cons (pv 0) pa_nil)) (pe_one (pe_cmpR op_ge (pv 0) (pv 1) (nomark _))))), ?_⟩
    refine ⟨_, rfl, v, rfl, hv, _, rfl, ?_⟩
    cases hv with
    | int i => exact ⟨_, rfl, _, rfl, i, l, rfl, rfl, q⟩
    | _ => exact q
/-! ### parts -/
def spParts : Sp := fun vs H Q _ => ∃ m k : Int, vs = [.int m, .int k] ∧ 0 < k ∧ k.natAbs ≤ 10 ^ 62 ∧ Q (.int ((m + k - 1) / k)) H
theorem ok_parts {f : Addr} {fd : FuncData} {k : Nat} (F : Fun K "parts_for" "parts_for" s_parts_for f fd) : FnOk P w K mg base CX0 (k + 1) f fd ["many", "most"] spParts := by
  refine F.ok scParts (fun vs H Q E h => ?_) (fun cdv A outer s H vs Q E hr h => ?_)
  · obtain ⟨m, k, rfl, _⟩ := h
    rfl
  · obtain ⟨m, k, rfl, k0, k1, q⟩ := h
    refine ⟨_, pss_one (ps_ret (pe_op op_fdivW (pe_op op_sub (pe_op op_add (pv 0) (pv 1)) pe_int) (pv 1))), ?_⟩
    exact ⟨_, rfl, _, rfl, _, _, rfl, rfl, _, _, rfl, rfl, _, rfl, _, _, rfl, rfl, wide_div (b := 210) k0 (Nat.lt_of_le_of_lt k1 (by decide)) (by decide) (by decide), q⟩
/-! ### Boat -/
structure Ct (K : PySem.W.Frag) (mg : Str → Option Value) (C : Addr) : Prop where
  cl : Cls K C
  nS : PySem.W.findIn K (.ref C) "many_seats" = some none
  nW : PySem.W.findIn K (.ref C) "most_weight" = some none
  nM : PySem.W.findIn K (.ref C) "man_weight" = some none
  mgC : mg "Boat" = some (.ref C)
  kC : PySem.W.keepIn K (.ref C) = true
def bf (s c m : V) : List (Str × V) := [("many_seats", s), ("most_weight", c), ("man_weight", m)]
def spInit (C : Addr) : Sp := fun vs H Q _ => ∃ (x dx : Addr) (s c m : Int), vs = [.ref x, .int s, .int c, .int m] ∧ H x = some (.ins C dx []) ∧ 1 ≤ s ∧ 1 ≤ c ∧ 1 ≤ m ∧ Q .non (upd H x (.ins C dx (bf (.int s) (.int c) (.int m))))
theorem ok_init {f fF fW C : Addr} {fd fdF fdW : FuncData} {k : Nat} (F : Fun K "__init__" "Boat.__init__" s_Boat___init__ f fd) (T : Tx mg) (Z : Ct K mg C)
    (FF : Has K mg "is_from" ["thing", "least"] s_is_from fF fdF) (FW : Has K mg "is_whole" ["thing"] s_is_whole fW fdW) : FnOk P w K mg base CX0 (k + 3) f fd ["self", "seats", "carries", "man"] (spInit C) := by
  have GF : FnOk P w K mg base CX0 (k + 2) fF fdF ["thing", "least"] spFrom := ok_from FF.fn T FW
  refine F.ok scInit (fun vs H Q E h => ?_) (fun cdv A outer s H vs Q E hr h => ?_)
  · obtain ⟨x, dx, s, c, m, rfl, _⟩ := h
    rfl
  · obtain ⟨x, dx, sv, cv, mv, rfl, hx, hs, hc, hm, q1⟩ := h
    refine ⟨_, pss_cons (ps_if (pt_not (pt_val (pe_call GF hr (by rfl) FF.gl FF.fn.kp FF.bd .nil pass0 (pa_cons (pv 1) (pa_cons pe_int pa_nil))))) (pss_one ps_no) pss_nil)
      (pss_cons (ps_if (pt_not (pt_val (pe_call GF hr (by rfl) FF.gl FF.fn.kp FF.bd .nil pass0 (pa_cons (pv 2) (pa_cons pe_int pa_nil))))) (pss_one ps_no) pss_nil)
      (pss_cons (ps_if (pt_not (pt_val (pe_call GF hr (by rfl) FF.gl FF.fn.kp FF.bd .nil pass0 (pa_cons (pv 3) (pa_cons pe_int pa_nil))))) (pss_one ps_no) pss_nil)
      (pss_cons (ps_fld (pv 0) (pv 1) rfl) (pss_cons (ps_fld (pv 0) (pv 2) rfl) (pss_one (ps_fld (pv 0) (pv 3) rfl)))))), ?_⟩
    refine ⟨_, rfl, .int sv, 1, rfl, .int sv, _, rfl, ?_⟩
    rw [show fromB (.int sv) 1 = true from decide_eq_true hs]
    refine ⟨_, rfl, .int cv, 1, rfl, .int cv, _, rfl, ?_⟩
    rw [show fromB (.int cv) 1 = true from decide_eq_true hc]
    refine ⟨_, rfl, .int mv, 1, rfl, .int mv, _, rfl, ?_⟩
    rw [show fromB (.int mv) 1 = true from decide_eq_true hm]
    refine ⟨_, rfl, _, rfl, x, C, dx, _, rfl, hx, Z.cl, Z.nS, (by decide), ?_⟩
    refine ⟨_, rfl, _, rfl, x, C, dx, _, rfl, upd_same, Z.cl, Z.nW, (by show 1 < 1000; decide), ?_⟩
    refine ⟨_, rfl, _, rfl, x, C, dx, _, rfl, upd_same, Z.cl, Z.nM, (by show 2 < 1000; decide), ?_⟩
    rw [upd_upd, upd_upd]
    exact q1
/-- a method that tells a field -/
def spGet (C : Addr) (g : V → V → V → V) : Sp := fun vs H Q _ => ∃ x dx s c m, vs = [.ref x] ∧ H x = some (.ins C dx (bf s c m)) ∧ Q (g s c m) H
theorem ok_seats {f : Addr} {fd : FuncData} {k : Nat} (F : Fun K "seats" "Boat.seats" s_Boat_seats f fd) (Z : Ct K mg C) : FnOk P w K mg base CX0 (k + 1) f fd ["self"] (spGet C fun s _ _ => s) := by
  refine F.ok scSeats (fun vs H Q E h => ?_) (fun cdv A outer s H vs Q E hr h => ?_)
  · obtain ⟨x, dx, s, c, m, rfl, _⟩ := h
    rfl
  · obtain ⟨x, dx, s, c, m, rfl, hx, q⟩ := h
    exact ⟨_, pss_one (ps_ret (pe_fld (pv 0) rfl)), _, rfl, x, C, dx, _, _, rfl, hx, Z.cl, Z.nS, (by unfold bf; rfl), q⟩
theorem ok_carries {f : Addr} {fd : FuncData} {k : Nat} (F : Fun K "carries" "Boat.carries" s_Boat_carries f fd) (Z : Ct K mg C) : FnOk P w K mg base CX0 (k + 1) f fd ["self"] (spGet C fun _ c _ => c) := by
  refine F.ok scCarries (fun vs H Q E h => ?_) (fun cdv A outer s H vs Q E hr h => ?_)
  · obtain ⟨x, dx, s, c, m, rfl, _⟩ := h
    rfl
  · obtain ⟨x, dx, s, c, m, rfl, hx, q⟩ := h
    exact ⟨_, pss_one (ps_ret (pe_fld (pv 0) rfl)), _, rfl, x, C, dx, _, _, rfl, hx, Z.cl, Z.nW, (by unfold bf; rfl), q⟩
theorem ok_man {f : Addr} {fd : FuncData} {k : Nat} (F : Fun K "man" "Boat.man" s_Boat_man f fd) (Z : Ct K mg C) : FnOk P w K mg base CX0 (k + 1) f fd ["self"] (spGet C fun _ _ m => m) := by
  refine F.ok scMan (fun vs H Q E h => ?_) (fun cdv A outer s H vs Q E hr h => ?_)
  · obtain ⟨x, dx, s, c, m, rfl, _⟩ := h
    rfl
  · obtain ⟨x, dx, s, c, m, rfl, hx, q⟩ := h
    exact ⟨_, pss_one (ps_ret (pe_fld (pv 0) rfl)), _, rfl, x, C, dx, _, _, rfl, hx, Z.cl, Z.nM, (by unfold bf; rfl), q⟩
/-- a boat stands at x -/
structure Bt (C : Addr) (H : Hp) (x : Addr) (s c m : Int) : Prop where
  at_ : ∃ dx, H x = some (.ins C dx (bf (.int s) (.int c) (.int m)))
  s1 : 1 ≤ s
  c1 : 1 ≤ c
  m1 : 1 ≤ m
  s2 : s ≤ 10 ^ 40
  c2 : c ≤ 10 ^ 40
  m2 : m ≤ 10 ^ 40
theorem Bt.mono {C : Addr} {H H' : Hp} {x : Addr} {s c m : Int} (h : Bt C H x s c m) (e : Same H H') : Bt C H' x s c m := by
  obtain ⟨⟨dx, h1⟩, a, b, c, d, e', f⟩ := h
  exact ⟨⟨dx, e _ _ h1⟩, a, b, c, d, e', f⟩
theorem bf_no {a b c : V} {m : Str} (h1 : m ≠ "many_seats") (h2 : m ≠ "most_weight") (h3 : m ≠ "man_weight") : (bf a b c).lookup m = none := by
  unfold bf
  rw [List.lookup_cons, show (m == ("many_seats" : Str)) = false from beq_eq_false_iff_ne.mpr h1, List.lookup_cons, show (m == ("most_weight" : Str)) = false from beq_eq_false_iff_ne.mpr h2, List.lookup_cons, show (m == ("man_weight" : Str)) = false from beq_eq_false_iff_ne.mpr h3]
  rfl
theorem g1 {a b c : V} : (bf a b c).lookup ("seats" : Str) = none := bf_no (by decide +kernel) (by decide +kernel) (by decide +kernel)
theorem g2 {a b c : V} : (bf a b c).lookup ("carries" : Str) = none := bf_no (by decide +kernel) (by decide +kernel) (by decide +kernel)
theorem g3 {a b c : V} : (bf a b c).lookup ("man" : Str) = none := bf_no (by decide +kernel) (by decide +kernel) (by decide +kernel)
def roomI (s c m : Int) : Int := if c / m < s then c / m else s
def spRoom (C : Addr) : Sp := fun vs H Q _ => ∃ (x : Addr) (s c m : Int), vs = [.ref x] ∧ Bt C H x s c m ∧ Q (.int (roomI s c m)) H
/-- the three methods -/
structure M3 (K : PySem.W.Frag) (C : Addr) (f1 f2 f3 : Addr) (fd1 fd2 fd3 : FuncData) : Prop where
  se : Mth K C "seats" "Boat.seats" ["self"] s_Boat_seats f1 fd1
  ca : Mth K C "carries" "Boat.carries" ["self"] s_Boat_carries f2 fd2
  mn : Mth K C "man" "Boat.man" ["self"] s_Boat_man f3 fd3
theorem ok_room {f f1 f2 f3 C : Addr} {fd fd1 fd2 fd3 : FuncData} {k : Nat} (F : Fun K "room_of" "room_of" s_room_of f fd) (T : Tx mg) (Z : Ct K mg C) (M : M3 K C f1 f2 f3 fd1 fd2 fd3) : FnOk P w K mg base CX0 (k + 2) f fd ["boat"] (spRoom C) := by
  have G1 : FnOk P w K mg base CX0 (k + 1) f1 fd1 ["self"] (spGet C fun s _ _ => s) := ok_seats M.se.fn Z
  have G2 : FnOk P w K mg base CX0 (k + 1) f2 fd2 ["self"] (spGet C fun _ c _ => c) := ok_carries M.ca.fn Z
  have G3 : FnOk P w K mg base CX0 (k + 1) f3 fd3 ["self"] (spGet C fun _ _ m => m) := ok_man M.mn.fn Z
  refine F.ok scRoom (fun vs H Q E h => ?_) (fun cdv A outer s H vs Q E hr h => ?_)
  · obtain ⟨x, s, c, m, rfl, _⟩ := h
    rfl
  · obtain ⟨x, s, c, m, rfl, B, q⟩ := h
    obtain ⟨dx, hx⟩ := B.at_
    have := B.m1
    have := B.m2
    refine ⟨_, pss_one (ps_ret (pe_callB (call_min2 rfl) (by rfl) T.min (by decide +kernel) (pa_cons (pe_meth0 (pv 0) Z.cl M.se.me G1 hr M.se.bd .nil pass0)
      (pa_cons (pe_op op_fdivW (pe_meth0 (pv 0) Z.cl M.ca.me G2 hr M.ca.bd .nil pass0) (pe_meth0 (pv 0) Z.cl M.mn.me G3 hr M.mn.bd .nil pass0)) pa_nil)))), ?_⟩
    refine ⟨_, rfl, x, dx, _, rfl, hx, g1, x, dx, _, _, _, rfl, hx, _, rfl, x, dx, _, rfl, hx, g2, x, dx, _, _, _, rfl, hx, _, rfl, x, dx, _, rfl, hx, g3, x, dx, _, _, _, rfl, hx, _, _, rfl, rfl,
      wide_div (b := 210) (by omega) (Nat.lt_of_le_of_lt (show m.natAbs ≤ 10 ^ 40 by omega) (by decide)) (by decide) (by decide), _, _, rfl, q⟩
def spWt (C : Addr) : Sp := fun vs H Q _ => ∃ (x : Addr) (s c m o k : Int) (v : V), vs = [.ref x, .int o, v] ∧ Bt C H x s c m ∧ 0 ≤ o ∧ o ≤ 10 ^ 60 ∧ StV H v k ∧ Q (.int (o * m + k)) H
theorem ok_wt {f f1 f2 f3 C : Addr} {fd fd1 fd2 fd3 : FuncData} {k : Nat} (F : Fun K "weight_out" "weight_out" s_weight_out f fd) (T : Tx mg) (Z : Ct K mg C) (M : M3 K C f1 f2 f3 fd1 fd2 fd3) : FnOk P w K mg base CX0 (k + 2) f fd ["boat", "out", "stores"] (spWt C) := by
  have G3 : FnOk P w K mg base CX0 (k + 1) f3 fd3 ["self"] (spGet C fun _ _ m => m) := ok_man M.mn.fn Z
  refine F.ok scWt (fun vs H Q E h => ?_) (fun cdv A outer s H vs Q E hr h => ?_)
  · obtain ⟨x, s, c, m, o, k, v, rfl, _⟩ := h
    rfl
  · obtain ⟨x, s, c, m, o, k, v, rfl, B, o0, o1, hs, q⟩ := h
    obtain ⟨dx, hx⟩ := B.at_
    have := B.m1
    have := B.m2
    refine ⟨_, pss_one (ps_ret (pe_op op_add (pe_op op_mulW (pv 1) (pe_meth0 (pv 0) Z.cl M.mn.me G3 hr M.mn.bd .nil pass0)) (pe_ifExp (pt_cmpR op_isN (pv 2) pe_non (nomark _)) pe_int (pe_sumVals rfl (by rfl) T.sum (pv 2))))), ?_⟩
    refine ⟨_, rfl, _, rfl, x, dx, _, rfl, hx, g3, x, dx, _, _, _, rfl, hx, _, _, rfl, rfl, wide_mul (a := 210) (b := 210) (Nat.lt_of_le_of_lt (show o.natAbs ≤ 10 ^ 60 by omega) (by decide)) (Nat.lt_of_le_of_lt (show m.natAbs ≤ 10 ^ 40 by omega) (by decide)) (by decide) (by decide) (by decide), ?_⟩
    refine ⟨_, rfl, rfl, _, rfl, ?_⟩
    cases hs with
    | non => exact ⟨_, _, rfl, rfl, q⟩
    | @dict d kvs e hk hl =>
      rw [decide_eq_false (show ¬ V.ref d = V.non from nofun)]
      exact ⟨_, rfl, d, _, _, rfl, e, sd_vals kvs, _, _, rfl, rfl, q⟩
end
end K34
set_option Elab.async false
set_option linter.all false
set_option maxRecDepth 100000
set_option maxHeartbeats 1600000
namespace K34
open PySem PySem.Spec PyProof.Rows L2 LT NdefX
/-- the module's constants -/
structure Cs (mg : Str → Option Value) : Prop where
  sl : ∃ t, mg "SMALL_LETTERS" = some (.str (Str.ofString "abcdefghijklmnopqrstuvwxyz") t)
  ln : ∃ t, mg "LONGEST_NAME" = some (.int 8 t)
  mt : ∃ t, mg "MOST_THINGS" = some (.int 8 t)
section
variable {P : Program} {w : World} {K : PySem.W.Frag} {mg : Str → Option Value} {base : Heap} {C CS : Addr}
def spIs : Sp := fun vs H Q _ => ∃ z, vs = [.str z] ∧ Nm z ∧ ∀ H', Same H H' → Q (.bl true) H'
theorem ok_is {f : Addr} {fd : FuncData} {k : Nat} (F : Fun K "is_name" "is_name" s_is_name f fd) (T : Tx mg) (S : Cs mg) : FnOk P w K mg base CX0 (k + 1) f fd ["thing"] spIs := by
  obtain ⟨⟨tS, gS⟩, ⟨tL, gL⟩, _⟩ := S
  refine F.ok scIs (fun vs H Q E h => ?_) (fun cdv A outer s H vs Q E hr h => ?_)
  · obtain ⟨v, rfl, _⟩ := h
    rfl
  · obtain ⟨z, rfl, hz, q⟩ := h
    have nd := scIs.nd
    refine ⟨_, pss_cons (ps_if (pt_not (pt_val (pe_callB call_isi (by rfl) T.isi (by decide +kernel) (pa_cons (pv 0) (pa_cons (pe_bltn (v := .ty "str") (by rfl) T.str (by decide +kernel) rfl) pa_nil))))) (pss_one (ps_ret pe_bl)) pss_nil)
      (pss_cons (ps_if (pt_not (pt_chain op_le op_le pe_int (pe_callB call_len_str (by rfl) T.len PySem.boot_len (pa_cons (pv 0) pa_nil)) (pe_glob (v := .int 8) (by rfl) gL ⟨_, rfl⟩))) (pss_one (ps_ret pe_bl)) pss_nil)
      (pss_one (ps_ret (pe_callB (cr_all rfl) (by rfl) T.all (by decide +kernel) (pa_cons
        (pe_lc (own := [("letter", 1)]) (g := gName 1) (tt := tYes) rfl nd (pi_str (pv 0)) (blkOk_by (N := ["thing", "letter"]) (sc := defScope s_is_name) (by decide +kernel))
          (fun _ _ _ _ _ => pg_name (i := 1) nd rfl (Or.inl rfl)) (fun _ _ _ _ _ => pts_nil)
          (fun _ _ _ _ _ => pe_cmpR op_in_sign (pv 1) (pe_glob (v := .str "abcdefghijklmnopqrstuvwxyz") (by rfl) gS ⟨_, rfl⟩) (by rfl))) pa_nil))))), ?_⟩
    have l1 := hz.l1
    have l8 := hz.l8
    refine ⟨_, rfl, .str z, .ty "str", _, _, true, rfl, .ty _, .base (.str z), kit_ty (show kitB "str" "str" = some true by decide +kernel), _, rfl, ?_⟩
    refine ⟨_, rfl, z, rfl, Nat.le_of_lt (small1000 (by omega)), _, _, rfl, rfl, _, rfl, ?_⟩
    rw [if_pos (decide_eq_true (show (1 : Int) ≤ (z.length : Nat) by omega))]
    refine ⟨_, _, rfl, rfl, _, rfl, ?_⟩
    rw [decide_eq_true (show ((z.length : Nat) : Int) ≤ 8 by omega)]
    refine ⟨_, rfl, z, rfl, fun D nD => ?_⟩
    refine lc_it walk_str (fun i H' => Same H H' ∧ H' D = some (.lst (List.replicate i (.bl true)))) ⟨same_upd nD, upd_same⟩ (fun _ _ _ _ => trivial) ?_ ?_
    · rintro i x H1 H2 hi ⟨sm, eD⟩ ⟨rfl, c, hc, rfl⟩
      have hm := hz.al c (by
        have : z.cps.toList[i]? = some c := by rw [Array.getElem?_toList]; exact hc
        exact List.mem_of_getElem? this)
      refine ⟨rfl, _, rfl, c, _, rfl, rfl, ?_⟩
      rw [small_mem, hm]
      refine ⟨_, eD, ?_, same_app nD sm, ?_⟩
      · rw [List.length_replicate]
        have hsz : z.cps.size = z.length := rfl
        exact small1000 (by omega)
      · rw [upd_same, List.replicate_succ']
    · rintro H2 ⟨sm, eD⟩
      refine ⟨D, List.replicate _ true, rfl, SqL.of (by rw [List.map_replicate]; exact eD), ?_⟩
      rw [all_true _ fun b hb => List.eq_of_mem_replicate hb]
      exact q H2 sm
/-! ### stores -/
def spSt : Sp := fun vs H Q _ => ∃ (d : Addr) (kvs : List (Str × Int)), vs = [.ref d] ∧ H d = some (.dK (sd kvs)) ∧ Kv kvs ∧ kvs.length ≤ 8 ∧ ∀ H', Same H H' → Q (.bl true) H'
theorem ok_st {f fN fF fW : Addr} {fd fdN fdF fdW : FuncData} {k : Nat} (F : Fun K "are_stores" "are_stores" s_are_stores f fd) (T : Tx mg) (S : Cs mg) (FN : Has K mg "is_name" ["thing"] s_is_name fN fdN)
    (FF : Has K mg "is_from" ["thing", "least"] s_is_from fF fdF) (FW : Has K mg "is_whole" ["thing"] s_is_whole fW fdW) : FnOk P w K mg base CX0 (k + 3) f fd ["thing"] spSt := by
  have GN : FnOk P w K mg base CX0 (k + 1) fN fdN ["thing"] spIs := ok_is FN.fn T S
  have GF : FnOk P w K mg base CX0 (k + 2) fF fdF ["thing", "least"] spFrom := ok_from FF.fn T FW
  obtain ⟨_, _, ⟨tM, gM⟩⟩ := S
  refine F.ok scSt (fun vs H Q E h => ?_) (fun cdv A outer s H vs Q E hr h => ?_)
  · obtain ⟨d, kvs, rfl, _⟩ := h
    rfl
  · obtain ⟨d, kvs, rfl, hd, hk, hl, q⟩ := h
    have nd := scSt.nd
    have hr1 : Room (k + 1) _ := hr.mono (by omega)
    refine ⟨_, pss_cons (ps_if (PW.pt (pw_or (pt_not (pt_val (pe_callB call_isi (by rfl) T.isi (by decide +kernel) (pa_cons (pv 0) (pa_cons (pe_bltn (v := .ty "dict") (by rfl) T.dict (by decide +kernel) rfl) pa_nil)))))
        (pw_or1 (pt_cmpR op_gt (pe_callB call_lenD (by rfl) T.len PySem.boot_len (pa_cons (pv 0) pa_nil)) (pe_glob (v := .int 8) (by rfl) gM ⟨_, rfl⟩) (nomark _))))) (pss_one (ps_ret pe_bl)) pss_nil)
      (pss_one (ps_ret (pe_callB (cr_all rfl) (by rfl) T.all (by decide +kernel) (pa_cons
        (pe_lock (pe_lc (own := [("name", 1), ("weight", 2)]) (g := gTup K 2 (gCons (gName 1) (gCons (gName 2) gNil))) (tt := tYes) rfl nd (pi_items (pv 0)) (blkOk_by (N := ["thing", "name", "weight"]) (sc := defScope s_are_stores) (by decide +kernel))
          (fun _ _ _ _ _ => pg_tup rfl (pgs_cons (pg_name (i := 1) nd rfl (.inl rfl)) (pgs_cons (pg_name (i := 2) nd rfl (.inl rfl)) pgs_nil))) (fun _ _ _ _ _ => pts_nil)
          (fun _ _ _ _ _ => pe_and (pe_call GN hr1 (by rfl) FN.gl FN.fn.kp FN.bd .nil pass0 (pa_cons (pv 1) pa_nil)) (pe_one (pe_call GF hr (by rfl) FF.gl FF.fn.kp FF.bd .nil pass0 (pa_cons (pv 2) (pa_cons pe_int pa_nil))))))) pa_nil)))), ?_⟩
    refine ⟨_, rfl, .ref d, .ty "dict", _, _, true, rfl, .ty _, .base (.dK hd), kit_ty (show kitB "dict" "dict" = some true by decide +kernel), _, rfl, ?_⟩
    refine ⟨_, rfl, d, _, rfl, hd, _, _, rfl, rfl, _, rfl, ?_⟩
    rw [decide_eq_false (show ¬ ((sd kvs).length : Int) > 8 by rw [sd_len]; omega)]
    refine ⟨d, _, hd, trivial, fun od => ?_⟩
    refine ⟨_, rfl, d, od, sd kvs, rfl, upd_same, fun D nD => ?_⟩
    have hlk := upd_same (H := H) (a := d) (o := .frz od (.dK (sd kvs)))
    have back : ∀ {Hx : Hp}, Same (upd H d (.frz od (.dK (sd kvs)))) Hx → Same H (upd Hx d (.dK (sd kvs))) := fun {Hx} s b o e => by
      by_cases hb : b = d
      · subst hb
        rw [upd_same, ← e, hd]
      · rw [upd_ne hb]
        exact s _ _ (by rw [upd_ne hb]; exact e)
    generalize upd H d (.frz od (.dK (sd kvs))) = H1 at *
    refine lc_it walk_items (fun i H' => Same H1 H' ∧ H' D = some (.lst (List.replicate i (.bl true)))) ⟨same_upd nD, upd_same⟩ (fun i H' _ h => h.1 _ _ hlk) ?_ ?_
    · rintro i x H2 H2' hi ⟨sm, eD⟩ ⟨T1, kx, vx, rfl, nT, rfl, h1, h2⟩
      have hi2 : i < kvs.length := by rw [sd_len] at hi; exact hi
      have eg : (sd kvs)[i]? = some (Sum.inr kvs[i].1, V.int kvs[i].2) := by
        unfold sd
        rw [List.getElem?_map, List.getElem?_eq_getElem hi2]
        rfl
      have h1' : kx = .str kvs[i].1 := by
        have h1 : ((sd kvs)[i]?.map fun kv => kV kv.1) = some kx := h1
        rw [eg] at h1
        exact (Option.some.inj h1).symm
      have h2' : vx = .int kvs[i].2 := by
        have h2 : ((sd kvs)[i]?.map Prod.snd) = some vx := h2
        rw [eg] at h2
        exact (Option.some.inj h2).symm
      subst h1' h2'
      have s2 := same_upd (o := .tup [V.str kvs[i].1, .int kvs[i].2]) nT
      refine ⟨T1, _, rfl, SqT.of upd_same, rfl, _, _, rfl, _, _, rfl, rfl, rfl, ?_⟩
      refine ⟨_, rfl, kvs[i].1, rfl, hk.nm _ (List.getElem_mem hi2), fun H3 s3 => ⟨_, rfl, ?_⟩⟩
      refine ⟨_, rfl, .int kvs[i].2, 1, rfl, .int _, ?_⟩
      rw [show fromB (.int kvs[i].2) 1 = true from decide_eq_true (hk.w1 _ (List.getElem_mem hi2))]
      have sA := s2.trans s3
      refine ⟨_, sA _ _ eD, ?_, same_app nD (sm.trans sA), ?_⟩
      · rw [List.length_replicate]
        exact small1000 (by omega)
      · rw [upd_same, List.replicate_succ']
    · rintro H2 ⟨sm, eD⟩
      refine ⟨sm _ _ hlk, ?_⟩
      have nDd : D ≠ d := fun e => by rw [e, hlk] at nD; cases nD
      refine ⟨D, List.replicate (sd kvs).length true, rfl, SqL.of (by rw [upd_ne nDd, List.map_replicate]; exact eD), ?_⟩
      rw [all_true _ fun b hb => List.eq_of_mem_replicate hb]
      exact q _ (back sm)
def spCw : Sp := fun vs H Q _ => ∃ (o b k : Int) (v : V), vs = [.int o, .int b, v] ∧ 0 ≤ o ∧ 0 ≤ b ∧ StV H v k ∧ ∀ H', Same H H' → Q .non H'
theorem ok_cw {f fS fN fF fW : Addr} {fd fdS fdN fdF fdW : FuncData} {k : Nat} (F : Fun K "check_wanted" "check_wanted" s_check_wanted f fd) (T : Tx mg) (S : Cs mg) (FS : Has K mg "are_stores" ["thing"] s_are_stores fS fdS) (FN : Has K mg "is_name" ["thing"] s_is_name fN fdN)
    (FF : Has K mg "is_from" ["thing", "least"] s_is_from fF fdF) (FW : Has K mg "is_whole" ["thing"] s_is_whole fW fdW) : FnOk P w K mg base CX0 (k + 4) f fd ["out", "back", "stores"] spCw := by
  have GF : FnOk P w K mg base CX0 (k + 2) fF fdF ["thing", "least"] spFrom := ok_from FF.fn T FW
  have GS : FnOk P w K mg base CX0 (k + 3) fS fdS ["thing"] spSt := ok_st FS.fn T S FN FF FW
  refine F.ok scCw (fun vs H Q E h => ?_) (fun cdv A outer s H vs Q E hr h => ?_)
  · obtain ⟨o, b, k, v, rfl, _⟩ := h
    rfl
  · obtain ⟨o, b, k', v, rfl, o0, b0, hs, q⟩ := h
    have hr2 : Room (k + 2) _ := hr.mono (by omega)
    refine ⟨_, pss_cons (ps_if (PW.pt (pw_or (pt_not (pt_val (pe_call GF hr2 (by rfl) FF.gl FF.fn.kp FF.bd .nil pass0 (pa_cons (pv 0) (pa_cons pe_int pa_nil)))))
        (pw_or1 (pt_not (pt_val (pe_call GF hr2 (by rfl) FF.gl FF.fn.kp FF.bd .nil pass0 (pa_cons (pv 1) (pa_cons pe_int pa_nil)))))))) (pss_one ps_no) pss_nil)
      (pss_one (ps_if (PW.pt (pw_and (pt_cmpR op_notN (pv 2) pe_non (nomark _)) (pw_and1 (pt_not (pt_val (pe_call GS hr (by rfl) FS.gl FS.fn.kp FS.bd .nil pass0 (pa_cons (pv 2) pa_nil))))))) (pss_one ps_no) pss_nil)), ?_⟩
    refine ⟨_, rfl, .int o, 0, rfl, .int o, _, rfl, ?_⟩
    rw [show fromB (.int o) 0 = true from decide_eq_true o0]
    refine ⟨_, rfl, .int b, 0, rfl, .int b, _, rfl, ?_⟩
    rw [show fromB (.int b) 0 = true from decide_eq_true b0]
    refine ⟨_, rfl, rfl, _, rfl, ?_⟩
    cases hs with
    | non => exact q H (Same.refl H)
    | @dict d kvs e hk hl =>
      rw [decide_eq_false (show ¬ V.ref d = V.non from nofun)]
      refine ⟨_, rfl, d, kvs, rfl, e, hk, hl, fun H' s' => ⟨_, rfl, ?_⟩⟩
      exact q H' s'
/-! ### fewest -/
structure Ev (K : PySem.W.Frag) (mg : Str → Option Value) (x : Str) (D : Addr) : Prop where
  g : mg x = some (.ref D)
  x : PySem.W.excIn K D [.type "ValueError", .type "Exception", .type "BaseException", .type "object"] "ValueError.__new__" = true
  k : PySem.W.keepIn K (.ref D) = true
  b : PySem.W.subIn K (.ref D) (.type "BaseException") = some true
  t : PySem.W.typeIn K (.ref D) = some (.type "type")
def partsI (m k : Int) : Int := (m + k - 1) / k
def maxI (a b : Int) : Int := if b > a then b else a
def fewI (s c m o b k : Int) : Option Int := if o = 0 ∧ b = 0 then some (partsI (o * m + k) c) else if roomI s c m = 0 then none else some (maxI (partsI (maxI o b) (roomI s c m)) (partsI (o * m + k) c))
def spFw (C CS : Addr) : Sp := fun vs H Q E => ∃ (x : Addr) (s c m o b k : Int) (v : V), vs = [.ref x, .int o, .int b, v] ∧ Bt C H x s c m ∧ 0 ≤ o ∧ o ≤ 10 ^ 60 ∧ 0 ≤ b ∧ b ≤ 10 ^ 60 ∧ StV H v k ∧
  (fewI s c m o b k = none → ∀ H', Same H H' → E (.ref CS) none H') ∧ (∀ n, fewI s c m o b k = some n → ∀ H', Same H H' → Q (.int n) H')
theorem room_bd {s c m : Int} (hs : 1 ≤ s) (hc : 1 ≤ c) (hm : 1 ≤ m) : 0 ≤ roomI s c m ∧ roomI s c m ≤ s := by
  unfold roomI
  have := Int.ediv_nonneg (show 0 ≤ c by omega) (show 0 ≤ m by omega)
  split <;> omega
abbrev FwFn (K : PySem.W.Frag) (f : Addr) (fd : FuncData) : Prop := FunD K "fewest" "fewest" (defArgs s_fewest) (defBody s_fewest) (defScope s_fewest) [.int 0, .non] [] f fd
theorem ok_fw {f fR fT fP fC fS fN fF fW f1 f2 f3 : Addr} {fd fdR fdT fdP fdC fdS fdN fdF fdW fd1 fd2 fd3 : FuncData} {k : Nat} (F : FwFn K f fd) (T : Tx mg) (S : Cs mg) (Z : Ct K mg C) (U : Ev K mg "Small" CS) (M : M3 K C f1 f2 f3 fd1 fd2 fd3)
    (FR : Has K mg "room_of" ["boat"] s_room_of fR fdR) (FT : Has K mg "weight_out" ["boat", "out", "stores"] s_weight_out fT fdT) (FP : Has K mg "parts_for" ["many", "most"] s_parts_for fP fdP) (FC : Has K mg "check_wanted" ["out", "back", "stores"] s_check_wanted fC fdC)
    (FS : Has K mg "are_stores" ["thing"] s_are_stores fS fdS) (FN : Has K mg "is_name" ["thing"] s_is_name fN fdN) (FF : Has K mg "is_from" ["thing", "least"] s_is_from fF fdF) (FW : Has K mg "is_whole" ["thing"] s_is_whole fW fdW) :
    FnOk P w K mg base (L2.CX P w) (k + 5) f fd ["boat", "out", "back", "stores"] (spFw C CS) := by
  have GR : FnOk P w K mg base CX0 (k + 2) fR fdR ["boat"] (spRoom C) := ok_room FR.fn T Z M
  have GT : FnOk P w K mg base CX0 (k + 2) fT fdT ["boat", "out", "stores"] (spWt C) := ok_wt FT.fn T Z M
  have GP : FnOk P w K mg base CX0 (k + 1) fP fdP ["many", "most"] spParts := ok_parts FP.fn
  have GC : FnOk P w K mg base CX0 (k + 4) fC fdC ["out", "back", "stores"] spCw := ok_cw FC.fn T S FS FN FF FW
  have G2 : FnOk P w K mg base CX0 (k + 1) f2 fd2 ["self"] (spGet C fun _ c _ => c) := ok_carries M.ca.fn Z
  refine F.ok scFw (fun vs H Q E h => ?_) (fun cdv A outer s H vs Q E hr h => ?_)
  · obtain ⟨x, s, c, m, o, b, k, v, rfl, _⟩ := h
    rfl
  · obtain ⟨x, s, c, m, o, b, k', v, rfl, B, o0, o1, b0, b1, hs, q1, q2⟩ := h
    have nd := scFw.nd
    have hr2 : Room (k + 2) _ := hr.mono (by omega)
    have hr1 : Room (k + 1) _ := hr.mono (by omega)
    refine ⟨_, pss_cons (ps_expr (pe_call GC hr (by rfl) FC.gl FC.fn.kp FC.bd .nil pass0 (pa_cons (pv 1) (pa_cons (pv 2) (pa_cons (pv 3) pa_nil)))))
      (pss_cons (ps_set (i := 4) nd rfl (.inl rfl) (pe_call GP hr1 (by rfl) FP.gl FP.fn.kp FP.bd .nil pass0 (pa_cons (pe_call GT hr2 (by rfl) FT.gl FT.fn.kp FT.bd .nil pass0 (pa_cons (pv 0) (pa_cons (pv 1) (pa_cons (pv 3) pa_nil)))) (pa_cons (pe_meth0 (pv 0) Z.cl M.ca.me G2 hr1 M.ca.bd .nil pass0) pa_nil))))
      (pss_cons (ps_if (PW.pt (pw_and (pt_cmpR op_eq (pv 1) pe_int (nomark _)) (pw_and1 (pt_cmpR op_eq (pv 2) pe_int (nomark _))))) (pss_one (ps_ret (pv 4))) pss_nil)
      (pss_cons (ps_set (i := 5) nd rfl (.inl rfl) (pe_call GR hr2 (by rfl) FR.gl FR.fn.kp FR.bd .nil pass0 (pa_cons (pv 0) pa_nil)))
      (pss_cons (ps_if (pt_cmpR op_eq (pv 5) pe_int (nomark _)) (pss_one (ps_raise rfl (takes_of rfl rfl rfl rfl) (pmk_own PySem.F.excBase_ValueError U.x U.g U.k (raises_own U.b U.t) (by rfl)))) pss_nil)
      (pss_one (ps_ret (pe_callB (call_max2 rfl) (by rfl) T.max (by decide +kernel) (pa_cons (pe_call GP hr1 (by rfl) FP.gl FP.fn.kp FP.bd .nil pass0 (pa_cons (pe_callB (call_max2 rfl) (by rfl) T.max (by decide +kernel) (pa_cons (pv 1) (pa_cons (pv 2) pa_nil))) (pa_cons (pv 5) pa_nil))) (pa_cons (pv 4) pa_nil))))))))), ?_⟩
    refine ⟨_, rfl, _, rfl, _, rfl, o, b, k', v, rfl, o0, b0, hs, fun H1 s1 => ?_⟩
    have B1 := B.mono s1
    obtain ⟨dx, hx⟩ := B1.at_
    have hc1 := B.c1
    have hc2 := B.c2
    obtain ⟨rm0, rm1⟩ := room_bd B.s1 B.c1 B.m1
    have hs2 := B.s2
    refine ⟨_, rfl, _, rfl, _, rfl, x, s, c, m, o, k', v, rfl, B1, o0, o1, hs.mono s1, _, rfl, x, dx, _, rfl, hx, g2, x, dx, _, _, _, rfl, hx, _, _, rfl, by omega, by omega, ?_⟩
    refine ⟨_, rfl, rfl, _, rfl, ?_⟩
    by_cases ho : o = 0
    · rw [decide_eq_true (show V.int o = V.int 0 by rw [ho])]
      refine ⟨_, rfl, rfl, _, rfl, ?_⟩
      by_cases hb : b = 0
      · rw [decide_eq_true (show V.int b = V.int 0 by rw [hb])]
        exact ⟨_, rfl, q2 _ (by unfold fewI; rw [if_pos ⟨ho, hb⟩]; rfl) H1 s1⟩
      · rw [decide_eq_false (show ¬ V.int b = V.int 0 from fun e => hb (V.int.inj e))]
        refine ⟨_, rfl, x, s, c, m, rfl, B1, _, rfl, rfl, _, rfl, ite2 (fun e => ?_) (fun e => ?_)⟩
        · have e0 : roomI s c m = 0 := V.int.inj (of_decide_eq_true e)
          exact q1 (by unfold fewI; rw [if_neg (fun z => hb z.2), if_pos e0]) H1 s1
        · have e0 : ¬ roomI s c m = 0 := fun z => e (decide_eq_true (by rw [z]))
          refine ⟨_, rfl, _, rfl, _, _, rfl, _, rfl, _, _, rfl, by omega, by omega, _, rfl, _, _, rfl, ?_⟩
          exact q2 _ (by unfold fewI; rw [if_neg (fun z => hb z.2), if_neg e0]; rfl) H1 s1
    · rw [decide_eq_false (show ¬ V.int o = V.int 0 from fun e => ho (V.int.inj e))]
      refine ⟨_, rfl, x, s, c, m, rfl, B1, _, rfl, rfl, _, rfl, ite2 (fun e => ?_) (fun e => ?_)⟩
      · have e0 : roomI s c m = 0 := V.int.inj (of_decide_eq_true e)
        exact q1 (by unfold fewI; rw [if_neg (fun z => ho z.1), if_pos e0]) H1 s1
      · have e0 : ¬ roomI s c m = 0 := fun z => e (decide_eq_true (by rw [z]))
        refine ⟨_, rfl, _, rfl, _, _, rfl, _, rfl, _, _, rfl, by omega, by omega, _, rfl, _, _, rfl, ?_⟩
        exact q2 _ (by unfold fewI; rw [if_neg (fun z => ho z.1), if_neg e0]; rfl) H1 s1
end
end K34
set_option Elab.async false
set_option linter.all false
set_option maxRecDepth 100000
set_option maxHeartbeats 1600000
namespace K34
open PySem PySem.Spec PyProof.Rows L2 LT NdefX
theorem scCell : FnScope ["_law_script", "_law_k"] ["_law_script", "_law_k"] (defScope s__law_cell) := ⟨rfl, rfl, rfl, by decide +kernel, rfl, by decide +kernel, by decide +kernel⟩
theorem scPot : FnScope ["_law_script", "_law_k", "_law_cell_here"] ["_law_script", "_law_k"] (defScope s__law_pot) := ⟨rfl, rfl, rfl, by decide +kernel, rfl, by decide +kernel, by decide +kernel⟩
theorem scTake : FnScope ["_law_pot_here", "_law_room_here", "_law_digit"] ["_law_pot_here", "_law_room_here"] (defScope s__law_take) := ⟨rfl, rfl, rfl, by decide +kernel, rfl, by decide +kernel, by decide +kernel⟩
section
variable {P : Program} {w : World} {K : PySem.W.Frag} {mg : Str → Option Value} {base : Heap}
/-- a cell of the script -/
def spCell (K : PySem.W.Frag) : Sp := fun vs H Q _ => ∃ (a : Addr) (ns : List Int) (k : Nat), vs = [.ref a, .int (k : Nat)] ∧ SqL K H a (ns.map V.int) ∧
  ∀ z : Int, (z = 0 ∨ z ∈ ns) → Q (.int z) H
theorem ok_cell {f : Addr} {fd : FuncData} {k : Nat} (F : Fun K "_law_cell" "_law_cell" s__law_cell f fd) (T : Tx mg) : FnOk P w K mg base CX0 (k + 1) f fd ["_law_script", "_law_k"] (spCell K) := by
  refine F.ok scCell (fun vs H Q E h => ?_) (fun cdv A outer s H vs Q E hr h => ?_)
  · obtain ⟨a, ns, k, rfl, _⟩ := h
    rfl
  · obtain ⟨a, ns, k, rfl, hS, q⟩ := h
    refine ⟨_, pss_one (ps_ret (pe_ifExp (pt_cmpR op_lt (pv 1) (pe_callB call_len_seq (by rfl) T.len PySem.boot_len (pa_cons (pv 0) pa_nil)) (nomark _))
      (pe_ix ix_list (pv 0) (pv 1) (fun _ _ => rfl)) pe_int)), ?_⟩
    refine ⟨_, rfl, _, rfl, a, _, rfl, .inl hS, _, _, rfl, rfl, _, rfl, ?_⟩
    by_cases hk : k < ns.length
    · rw [decide_eq_true (show ((k : Nat) : Int) < ((ns.map V.int).length : Nat) by rw [List.length_map]; omega)]
      refine iteT ?_
      refine ⟨_, rfl, _, rfl, a, _, _, .int ns[k], rfl, rfl, hS, atI_nat (by rw [List.getElem?_map, List.getElem?_eq_getElem hk]; rfl), ?_⟩
      exact q _ (.inr (List.getElem_mem hk))
    · rw [decide_eq_false (show ¬ ((k : Nat) : Int) < ((ns.map V.int).length : Nat) by rw [List.length_map]; omega)]
      exact iteF (q 0 (.inl rfl))
def spPot (K : PySem.W.Frag) : Sp := fun vs H Q _ => ∃ (a : Addr) (ns : List Int) (k : Nat), vs = [.ref a, .int (k : Nat)] ∧ SqL K H a (ns.map V.int) ∧ k ≤ 1000 ∧
  ∀ p H', H p = none → Same H H' → Pot H' p → Q (.ref p) H'
theorem ok_pot {f fC : Addr} {fd fdC : FuncData} {k : Nat} (F : Fun K "_law_pot" "_law_pot" s__law_pot f fd) (T : Tx mg) (FC : Fun K "_law_cell" "_law_cell" s__law_cell fC fdC) (bC : L2.Binds K fdC ["_law_script", "_law_k"] []) (gC : mg "_law_cell" = some (.ref fC)) :
    FnOk P w K mg base CX0 (k + 2) f fd ["_law_script", "_law_k"] (spPot K) := by
  have GC : FnOk P w K mg base CX0 (k + 1) fC fdC ["_law_script", "_law_k"] (spCell K) := ok_cell FC T
  refine F.ok scPot (fun vs H Q E h => ?_) (fun cdv A outer s H vs Q E hr h => ?_)
  · obtain ⟨a, ns, k, rfl, _⟩ := h
    rfl
  · obtain ⟨a, ns, k, rfl, hS, hk, q⟩ := h
    refine ⟨_, pss_cons (ps_set (i := 2) scPot.nd rfl (.inl rfl) (pe_callB call_abs (by rfl) T.abs (by decide +kernel) (pa_cons (pe_call GC hr (by rfl) gC FC.kp bC .nil pass0 (pa_cons (pv 0) (pa_cons (pv 1) pa_nil))) pa_nil)))
      (pss_one (ps_ret (pe_lst (pa_cons (pe_callB (call_max2 rfl) (by rfl) T.max (by decide +kernel) (pa_cons pe_int (pa_cons (pe_op op_sub (pv 2) (pe_op op_pow pe_int pe_int)) pa_nil)))
        (pa_cons (pe_op op_mod (pe_op op_add (pe_op op_add (pe_op op_add (pe_op op_mul (pe_op op_mod (pv 2) pe_int) pe_int) (pe_op op_mul (pe_op op_mul pe_int (pv 1)) (pv 1))) (pe_op op_mul pe_int (pv 1))) pe_int) pe_int) pa_nil))))), ?_⟩
    refine ⟨_, rfl, _, rfl, a, ns, k, rfl, hS, fun z hz => ?_⟩
    refine ⟨z, rfl, ?_⟩
    have hk0 : (0 : Int) ≤ (k : Nat) := Int.natCast_nonneg k
    have hk1 : ((k : Nat) : Int) ≤ 1000 := by omega
    have hm := Int.emod_nonneg (if z < 0 then -z else z) (show (2147483563 : Int) ≠ 0 by decide)
    have hm2 := Int.emod_lt_of_pos (if z < 0 then -z else z) (show (0 : Int) < 2147483563 by decide)
    refine ⟨_, rfl, _, _, rfl, rfl, ⟨by decide, by decide, by decide⟩, _, _, rfl, rfl, 0, _, rfl, ?_⟩
    refine ⟨_, rfl, _, _, rfl, rfl, by show (0 : Int) < 2147483563; decide, _, _, rfl, rfl, .inl ⟨by omega, by omega⟩, ?_⟩
    refine ⟨_, rfl, _, _, rfl, rfl, .inl ⟨by decide, by decide⟩, _, rfl, _, _, rfl, rfl, .inr ⟨by omega, by omega⟩, _, _, rfl, rfl, ?_⟩
    refine ⟨_, rfl, _, _, rfl, rfl, .inl ⟨by decide, by decide⟩, _, _, rfl, rfl, _, _, rfl, rfl, _, _, rfl, rfl, by show (0 : Int) < 2147483563; decide, ?_⟩
    refine ⟨by show 2 ≤ sizeLine; decide, fun l nl => q l _ nl (same_upd nl) ⟨_, _, upd_same, ?_, Int.emod_nonneg _ (by decide), Int.lt_trans (Int.emod_lt_of_pos _ (by decide)) (by decide)⟩⟩
    split <;> omega
/-- a draw from a pot -/
def spTake : Sp := fun vs H Q _ => ∃ (p : Addr) (r : Int), vs = [.ref p, .int r] ∧ Pot H p ∧ 0 < r ∧ r ≤ 1000000000 ∧
  ∀ (d : Int) (H' : Hp), 0 ≤ d → d < r → Pot H' p → SameB p H H' → Q (.int d) H'
theorem ok_take {f : Addr} {fd : FuncData} {k : Nat} (F : Fun K "_law_take" "_law_take" s__law_take f fd) (T : Tx mg) : FnOk P w K mg base CX0 (k + 1) f fd ["_law_pot_here", "_law_room_here"] spTake := by
  refine F.ok scTake (fun vs H Q E h => ?_) (fun cdv A outer s H vs Q E hr h => ?_)
  · obtain ⟨p, r, rfl, _⟩ := h
    rfl
  · obtain ⟨p, r, rfl, ⟨a, b, hp, a0, b0, bB⟩, r0, r1, q⟩ := h
    refine ⟨_, pss_cons (ps_if (pt_cmpR op_gt (pe_ix ix_list (pv 0) pe_int (fun _ _ => rfl)) pe_int (nomark _))
        (pss_cons (ps_asg (pe_callB call_divmodW (by rfl) T.divmod (by decide +kernel) (pa_cons (pe_ix ix_list (pv 0) pe_int (fun _ _ => rfl)) (pa_cons (pv 1) pa_nil)))
            (pg_tup rfl (pgs_cons (pg_sub (pv 0) pe_int set_list) (pgs_cons (pg_name (i := 2) scTake.nd rfl (.inl rfl)) pgs_nil))))
          (pss_one (ps_ret (pv 2)))) pss_nil)
      (pss_cons (ps_asg (pe_op op_mod (pe_op op_add (pe_op op_mul (pe_ix ix_list (pv 0) pe_int (fun _ _ => rfl)) pe_int) pe_int) pe_int) (pg_sub (pv 0) pe_int set_list))
        (pss_one (ps_ret (pe_op op_mod (pe_op op_fdiv (pe_op op_mod (pe_op op_mul (pe_ix ix_list (pv 0) pe_int (fun _ _ => rfl)) (pe_ix ix_list (pv 0) pe_int (fun _ _ => rfl))) pe_int) pe_int) (pv 1))))), ?_⟩
    refine ⟨_, rfl, p, _, 0, _, rfl, rfl, SqL.of hp, atI_nat (j := 0) rfl, _, _, rfl, rfl, _, rfl, ite2 (fun h => ?_) (fun h => ?_)⟩
    · have ha : 0 < a := of_decide_eq_true h
      refine ⟨_, rfl, p, _, 0, _, rfl, rfl, SqL.of hp, atI_nat (j := 0) rfl, _, rfl, a, r, rfl, ⟨r0, PyProof.noPylong_small (by omega)⟩, fun t nt => ?_⟩
      have npt : p ≠ t := ne_of_none hp nt
      have hp2 : (upd H t (.tup [.int (a / r), .int (a % r)])) p = some (.lst [.int a, .int b]) := by
        rw [upd_ne npt]
        exact hp
      refine ⟨t, _, rfl, SqT.of upd_same, rfl, _, _, rfl, ?_⟩
      refine ⟨_, rfl, p, _, 0, 0, rfl, rfl, hp2, rfl, _, _, rfl, rfl, ?_⟩
      refine ⟨_, rfl, q _ _ (Int.emod_nonneg _ (by omega)) (Int.emod_lt_of_pos _ r0) ⟨_, _, upd_same, Int.ediv_nonneg a0 (by omega), b0, bB⟩ (SameB.upd (SameB.new nt (SameB.of (Same.refl H))))⟩
    · refine ⟨_, rfl, p, _, 1, _, rfl, rfl, SqL.of hp, atI_nat (j := 1) rfl, _, _, rfl, rfl, .inl ⟨by omega, by omega⟩, _, _, rfl, rfl, _, _, rfl, rfl, by show (0 : Int) < 2147483647; decide, ?_⟩
      refine ⟨_, rfl, p, _, 1, 1, rfl, rfl, hp, rfl, ?_⟩
      have n0 := Int.emod_nonneg (b * 48271 + 12347) (show (2147483647 : Int) ≠ 0 by decide)
      have n1 := Int.emod_lt_of_pos (b * 48271 + 12347) (show (0 : Int) < 2147483647 by decide)
      refine ⟨_, rfl, p, _, 1, _, rfl, rfl, SqL.of upd_same, atI_nat (j := 1) rfl, _, rfl, p, _, 1, _, rfl, rfl, SqL.of upd_same, atI_nat (j := 1) rfl, _, _, rfl, rfl, .inl ⟨by omega, by omega⟩, ?_⟩
      refine ⟨_, _, rfl, rfl, by show (0 : Int) < 2147483629; decide, _, _, rfl, rfl, ⟨by decide, by decide⟩, _, rfl, _, _, rfl, rfl, r0, ?_⟩
      exact q _ _ (Int.emod_nonneg _ (by omega)) (Int.emod_lt_of_pos _ r0) ⟨_, _, upd_same, a0, n0, n1⟩ (SameB.upd (SameB.of (Same.refl H)))
end
theorem scFar : FnScope ["_law_pot_here"] ["_law_pot_here"] (defScope s__law_far) := ⟨rfl, rfl, rfl, by decide +kernel, rfl, by decide +kernel, by decide +kernel⟩
theorem scNumber : FnScope ["_law_pot_here", "_law_most"] ["_law_pot_here", "_law_most"] (defScope s__law_number) := ⟨rfl, rfl, rfl, by decide +kernel, rfl, by decide +kernel, by decide +kernel⟩
theorem scBoat : FnScope ["_law_pot_here", "_law_way", "_law_seats", "_law_carries", "_law_man"] ["_law_pot_here"] (defScope s__law_boat) := ⟨rfl, rfl, rfl, by decide +kernel, rfl, by decide +kernel, by decide +kernel⟩
section
variable {P : Program} {w : World} {K : PySem.W.Frag} {mg : Str → Option Value} {base : Heap} {C CS : Addr}
def spFar : Sp := fun vs H Q _ => ∃ (p : Addr), vs = [.ref p] ∧ Pot H p ∧ ∀ (d : Int) (H' : Hp), 1 ≤ d → d ≤ 10 ^ 16 → Pot H' p → SameB p H H' → Q (.int d) H'
theorem ok_far {f fT : Addr} {fd fdT : FuncData} {k : Nat} (F : Fun K "_law_far" "_law_far" s__law_far f fd) (T : Tx mg) (FT : Has K mg "_law_take" ["_law_pot_here", "_law_room_here"] s__law_take fT fdT) : FnOk P w K mg base CX0 (k + 2) f fd ["_law_pot_here"] spFar := by
  have GT : FnOk P w K mg base CX0 (k + 1) fT fdT ["_law_pot_here", "_law_room_here"] spTake := ok_take FT.fn T
  refine F.ok scFar (fun vs H Q E h => ?_) (fun cdv A outer s H vs Q E hr h => ?_)
  · obtain ⟨p, rfl, _⟩ := h
    rfl
  · obtain ⟨p, rfl, hp1, q⟩ := h
    refine ⟨_, pss_one (ps_ret (pe_op op_add (pe_op op_add pe_int (pe_op op_mul (pe_call GT hr (by rfl) FT.gl FT.fn.kp FT.bd .nil pass0 (pa_cons (pv 0) (pa_cons (pe_op op_pow pe_int pe_int) pa_nil))) (pe_op op_pow pe_int pe_int)))
          (pe_call GT hr (by rfl) FT.gl FT.fn.kp FT.bd .nil pass0 (pa_cons (pv 0) (pa_cons (pe_op op_pow pe_int pe_int) pa_nil))))), ?_⟩
    refine ⟨_, rfl, _, _, rfl, rfl, ⟨by decide, by decide, by decide⟩, p, 10 ^ Int.toNat 8, rfl, hp1, by decide, by decide, fun x H2 x0 x1 hp2 sb2 => ?_⟩
    have x1' : x < 100000000 := x1
    refine ⟨_, _, rfl, rfl, ⟨by decide, by decide, by decide⟩, _, _, rfl, rfl, .inl ⟨by omega, by omega⟩, _, _, rfl, rfl, ?_⟩
    refine ⟨_, rfl, _, _, rfl, rfl, ⟨by decide, by decide, by decide⟩, p, 10 ^ Int.toNat 8, rfl, hp2, by decide, by decide, fun y H3 y0 y1 hp3 sb3 => ?_⟩
    have y1' : y < 100000000 := y1
    refine ⟨_, _, rfl, rfl, q _ H3 ?_ ?_ hp3 (sb2.trans sb3)⟩
    · show 1 ≤ 1 + x * 100000000 + y
      omega
    · show 1 + x * 100000000 + y ≤ 10 ^ 16
      omega
def spNumber : Sp := fun vs H Q _ => ∃ (p : Addr) (r : Int), vs = [.ref p, .int r] ∧ Pot H p ∧ 0 < r ∧ r ≤ 1000000000 ∧
  ∀ (d : Int) (H' : Hp), 1 ≤ d → d ≤ 10 ^ 16 → Pot H' p → SameB p H H' → Q (.int d) H'
theorem ok_number {f fA fT : Addr} {fd fdA fdT : FuncData} {k : Nat} (F : Fun K "_law_number" "_law_number" s__law_number f fd) (T : Tx mg) (FA : Has K mg "_law_far" ["_law_pot_here"] s__law_far fA fdA) (FT : Has K mg "_law_take" ["_law_pot_here", "_law_room_here"] s__law_take fT fdT) : FnOk P w K mg base CX0 (k + 3) f fd ["_law_pot_here", "_law_most"] spNumber := by
  have GT : FnOk P w K mg base CX0 (k + 1) fT fdT ["_law_pot_here", "_law_room_here"] spTake := ok_take FT.fn T
  have GA : FnOk P w K mg base CX0 (k + 2) fA fdA ["_law_pot_here"] spFar := ok_far FA.fn T FT
  refine F.ok scNumber (fun vs H Q E h => ?_) (fun cdv A outer s H vs Q E hr h => ?_)
  · obtain ⟨p, r, rfl, _⟩ := h
    rfl
  · obtain ⟨p, r, rfl, hp, r0, r1, q⟩ := h
    have hr1 : Room (k + 1) _ := hr.mono (by omega)
    refine ⟨_, pss_cons (ps_if (pt_cmpR op_eq (pe_call GT hr1 (by rfl) FT.gl FT.fn.kp FT.bd .nil pass0 (pa_cons (pv 0) (pa_cons pe_int pa_nil))) pe_int (nomark _))
        (pss_one (ps_ret (pe_call GA hr (by rfl) FA.gl FA.fn.kp FA.bd .nil pass0 (pa_cons (pv 0) pa_nil)))) pss_nil)
      (pss_one (ps_ret (pe_op op_add pe_int (pe_call GT hr1 (by rfl) FT.gl FT.fn.kp FT.bd .nil pass0 (pa_cons (pv 0) (pa_cons (pv 1) pa_nil)))))), ?_⟩
    refine ⟨_, rfl, p, 5, rfl, hp, by decide, by decide, fun d5 H1 _ _ hp1 sb1 => ?_⟩
    refine ⟨rfl, _, rfl, ite2 (fun _ => ?_) (fun _ => ?_)⟩
    · exact ⟨_, rfl, p, rfl, hp1, fun d H2 d0 d1 hp2 sb2 => q d H2 d0 d1 hp2 (sb1.trans sb2)⟩
    · refine ⟨_, rfl, _, rfl, p, r, rfl, hp1, r0, r1, fun x H2 x0 x1 hp2 sb2 => ?_⟩
      exact ⟨_, _, rfl, rfl, q _ H2 (by omega) (by omega) hp2 (sb1.trans sb2)⟩
/-! ### a boat's numbers -/
theorem join {α : Type} {J : α → Hp → Prop} {sl : α → L2.St} {rest : L2.St → Hp → Prop} {goal : Prop} (k : (∀ a Hx, J a Hx → rest (sl a) Hx) → goal) (h : ∀ a Hx, J a Hx → rest (sl a) Hx) : goal := k h
structure N3 (s c m : Int) : Prop where
  s1 : 1 ≤ s
  c1 : 1 ≤ c
  m1 : 1 ≤ m
  s2 : s ≤ 10 ^ 40
  c2 : c ≤ 10 ^ 40
  m2 : m ≤ 10 ^ 40
def spBoat : Sp := fun vs H Q _ => ∃ (p : Addr), vs = [.ref p] ∧ Pot H p ∧ ∀ (t : Addr) (s c m : Int) (H' : Hp), N3 s c m → H' t = some (.tup [.int s, .int c, .int m]) → Pot H' p → SameB p H H' → Q (.ref t) H'
theorem mul_le16 {a b : Int} (ha : 0 ≤ a) (hb : 0 ≤ b) (h1 : a ≤ 10 ^ 17) (h2 : b ≤ 10 ^ 17) : a * b ≤ 10 ^ 34 := by
  have := Int.mul_le_mul h1 h2 hb (by decide)
  exact Int.le_trans this (by decide)
theorem ok_boat {f fN fA fT : Addr} {fd fdN fdA fdT : FuncData} {k : Nat} (F : Fun K "_law_boat" "_law_boat" s__law_boat f fd) (T : Tx mg) (FN : Has K mg "_law_number" ["_law_pot_here", "_law_most"] s__law_number fN fdN) (FA : Has K mg "_law_far" ["_law_pot_here"] s__law_far fA fdA) (FT : Has K mg "_law_take" ["_law_pot_here", "_law_room_here"] s__law_take fT fdT) : FnOk P w K mg base CX0 (k + 4) f fd ["_law_pot_here"] spBoat := by
  have GT : FnOk P w K mg base CX0 (k + 1) fT fdT ["_law_pot_here", "_law_room_here"] spTake := ok_take FT.fn T
  have GN : FnOk P w K mg base CX0 (k + 3) fN fdN ["_law_pot_here", "_law_most"] spNumber := ok_number FN.fn T FA FT
  refine F.ok scBoat (fun vs H Q E h => ?_) (fun cdv A outer s H vs Q E hr h => ?_)
  · obtain ⟨p, rfl, _⟩ := h
    rfl
  · obtain ⟨p, rfl, hp, q⟩ := h
    have nd := scBoat.nd
    have hr1 : Room (k + 1) _ := hr.mono (by omega)
    refine ⟨_, pss_cons (ps_set (i := 1) nd rfl (.inl rfl) (pe_call GT hr1 (by rfl) FT.gl FT.fn.kp FT.bd .nil pass0 (pa_cons (pv 0) (pa_cons pe_int pa_nil))))
      (pss_cons (ps_par3 (i := 2) (j := 3) (l := 4) (by rfl) nd rfl rfl rfl (by decide) (by decide) (by decide) rfl rfl rfl (pa_cons (pe_call GN hr (by rfl) FN.gl FN.fn.kp FN.bd .nil pass0 (pa_cons (pv 0) (pa_cons pe_int pa_nil))) (pa_cons (pe_call GN hr (by rfl) FN.gl FN.fn.kp FN.bd .nil pass0 (pa_cons (pv 0) (pa_cons pe_int pa_nil))) (pa_cons (pe_call GN hr (by rfl) FN.gl FN.fn.kp FN.bd .nil pass0 (pa_cons (pv 0) (pa_cons pe_int pa_nil))) pa_nil))) (by rfl))
      (pss_cons (ps_if (pt_cmpR op_eq (pv 1) pe_int (nomark _)) (pss_one (ps_set (i := 4) nd rfl (.inl rfl) (pe_op op_add (pe_op op_add (pv 3) pe_int) (pe_call GT hr1 (by rfl) FT.gl FT.fn.kp FT.bd .nil pass0 (pa_cons (pv 0) (pa_cons pe_int pa_nil)))))) pss_nil)
      (pss_cons (ps_if (pt_cmpR op_eq (pv 1) pe_int (nomark _)) (pss_one (ps_set (i := 3) nd rfl (.inl rfl) (pe_op op_mul (pv 4) (pe_op op_add pe_int (pe_call GT hr1 (by rfl) FT.gl FT.fn.kp FT.bd .nil pass0 (pa_cons (pv 0) (pa_cons pe_int pa_nil))))))) pss_nil)
      (pss_cons (ps_if (pt_cmpR op_eq (pv 1) pe_int (nomark _)) (pss_one (ps_set (i := 3) nd rfl (.inl rfl) (pe_op op_add (pe_op op_mulW (pv 4) (pv 2)) (pe_call GT hr1 (by rfl) FT.gl FT.fn.kp FT.bd .nil pass0 (pa_cons (pv 0) (pa_cons pe_int pa_nil)))))) pss_nil)
      (pss_one (ps_ret (pe_tup (pa_cons (pv 2) (pa_cons (pv 3) (pa_cons (pv 4) pa_nil)))))))))), ?_⟩
    refine ⟨_, rfl, p, 6, rfl, hp, by decide, by decide, fun way H1 _ _ hp1 sb1 => ?_⟩
    refine ⟨_, rfl, p, 12, rfl, hp1, by decide, by decide, fun s H2 s0 s1 hp2 sb2 => ?_⟩
    refine ⟨_, rfl, p, 200, rfl, hp2, by decide, by decide, fun c H3 c0 c1 hp3 sb3 => ?_⟩
    refine ⟨_, rfl, p, 12, rfl, hp3, by decide, by decide, fun m H4 m0 m1 hp4 sb4 => ?_⟩
    have sbA := ((sb1.trans sb2).trans sb3).trans sb4
    refine ⟨_, _, _, rfl, ?_⟩
    apply join (α := Int) (J := fun m' Hx => 1 ≤ m' ∧ m' ≤ 10 ^ 17 ∧ Pot Hx p ∧ SameB p H Hx) (sl := fun m' => [some (.ref p), some (.int way), some (.int s), some (.int c), some (.int m')])
    · intro h
      refine ⟨_, rfl, rfl, _, rfl, ite2 ?yy ?nn⟩
      case nn => intro _; exact h m H4 ⟨m0, by omega, hp4, sbA⟩
      case yy =>
        intro _
        refine ⟨_, rfl, _, _, rfl, rfl, _, rfl, p, 3, rfl, hp4, by decide, by decide, fun d H5 d0 d1 hp5 sb5 => ?_⟩
        exact ⟨_, _, rfl, rfl, h (c + 1 + d) H5 ⟨by omega, by omega, hp5, sbA.trans sb5⟩⟩
    rintro m' H5 ⟨m0', m1', hp5, sb5⟩
    apply join (α := Int) (J := fun c' Hx => 1 ≤ c' ∧ c' ≤ 10 ^ 39 ∧ Pot Hx p ∧ SameB p H Hx) (sl := fun c' => [some (.ref p), some (.int way), some (.int s), some (.int c'), some (.int m')])
    · intro h
      refine ⟨_, rfl, rfl, _, rfl, ite2 ?yy ?nn⟩
      case nn => intro _; exact h c H5 ⟨c0, by omega, hp5, sb5⟩
      case yy =>
        intro _
        refine ⟨_, rfl, _, rfl, p, 9, rfl, hp5, by decide, by decide, fun d H6 d0 d1 hp6 sb6 => ?_⟩
        have e1 : 0 ≤ m' * (1 + d) := Int.mul_nonneg (by omega) (by omega)
        have e2 : m' * 1 ≤ m' * (1 + d) := Int.mul_le_mul_of_nonneg_left (by omega) (by omega)
        have e3 := mul_le16 (a := m') (b := 1 + d) (by omega) (by omega) m1' (by omega)
        exact ⟨_, _, rfl, rfl, _, _, rfl, rfl, .inr ⟨by omega, by omega⟩, h (m' * (1 + d)) H6 ⟨by omega, by omega, hp6, sb5.trans sb6⟩⟩
    rintro c' H6 ⟨c0', c1', hp6, sb6⟩
    apply join (α := Int) (J := fun c'' Hx => 1 ≤ c'' ∧ c'' ≤ 10 ^ 40 ∧ Pot Hx p ∧ SameB p H Hx) (sl := fun c'' => [some (.ref p), some (.int way), some (.int s), some (.int c''), some (.int m')])
    · intro h
      refine ⟨_, rfl, rfl, _, rfl, ite2 ?yy ?nn⟩
      case nn => intro _; exact h c' H6 ⟨c0', by omega, hp6, sb6⟩
      case yy =>
        intro _
        refine ⟨_, rfl, _, rfl, _, _, rfl, rfl, wide_mul (a := 210) (b := 210) (Nat.lt_of_le_of_lt (show m'.natAbs ≤ 10 ^ 17 by omega) (by decide)) (Nat.lt_of_le_of_lt (show s.natAbs ≤ 10 ^ 17 by omega) (by decide)) (by decide) (by decide) (by decide), _, rfl, p, 3, rfl, hp6, by decide, by decide, fun d H7 d0 d1 hp7 sb7 => ?_⟩
        have e1 : 0 ≤ m' * s := Int.mul_nonneg (by omega) (by omega)
        have e2 : m' * 1 ≤ m' * s := Int.mul_le_mul_of_nonneg_left (by omega) (by omega)
        have e3 := mul_le16 (a := m') (b := s) (by omega) (by omega) m1' (by omega)
        exact ⟨_, _, rfl, rfl, h (m' * s + d) H7 ⟨by omega, by omega, hp7, sb6.trans sb7⟩⟩
    rintro c'' H7 ⟨c0'', c1'', hp7, sb7⟩
    refine ⟨_, rfl, _, rfl, _, rfl, by show 3 ≤ sizeLine; decide, fun t nt => ?_⟩
    exact q t s c'' m' _ ⟨s0, c0'', m0', by omega, c1'', by omega⟩ upd_same (hp7.mono (same_upd nt)) (sb7.trans (SameB.of (same_upd nt)))
end
end K34
set_option Elab.async false
set_option linter.all false
set_option maxRecDepth 100000
set_option maxHeartbeats 1600000
namespace K34
open PySem PySem.Spec PyProof.Rows L2 LT NdefX
theorem scName : FnScope ["_law_pot_here", "_law_letters", "_law_k"] ["_law_pot_here"] (defScope s__law_name) := ⟨rfl, rfl, rfl, by decide +kernel, rfl, by decide +kernel, by decide +kernel⟩
theorem scStores : FnScope ["_law_pot_here", "_law_found", "_law_k"] ["_law_pot_here"] (defScope s__law_stores) := ⟨rfl, rfl, rfl, by decide +kernel, rfl, by decide +kernel, by decide +kernel⟩
theorem scLroom : FnScope ["_law_ship"] ["_law_ship"] (defScope s__law_room) := ⟨rfl, rfl, rfl, by decide +kernel, rfl, by decide +kernel, by decide +kernel⟩
theorem at_small {d : Int} (d0 : 0 ≤ d) (d1 : d < 26) : ∃ c, atI (Str.ofString "abcdefghijklmnopqrstuvwxyz").cps.toList d = some c ∧ small c = true := by
  obtain ⟨j, rfl⟩ := Int.eq_ofNat_of_zero_le d0
  have hj : j < (Str.ofString "abcdefghijklmnopqrstuvwxyz").cps.toList.length := by
    rw [letters, List.length_range']
    omega
  refine ⟨_, atI_nat (List.getElem?_eq_getElem hj), ?_⟩
  rw [← small_mem]
  exact decide_eq_true (List.getElem_mem hj)
section
variable {P : Program} {w : World} {K : PySem.W.Frag} {mg : Str → Option Value} {base : Heap} {C CS : Addr}
def spName : Sp := fun vs H Q _ => ∃ (p : Addr), vs = [.ref p] ∧ Pot H p ∧ ∀ (z : Str) (H' : Hp), Nm z → Pot H' p → SameB p H H' → Q (.str z) H'
theorem ok_name {f fT : Addr} {fd fdT : FuncData} {k : Nat} (F : Fun K "_law_name" "_law_name" s__law_name f fd) (T : Tx mg) (FT : Has K mg "_law_take" ["_law_pot_here", "_law_room_here"] s__law_take fT fdT) :
    FnOk P w K mg base CX0 (k + 2) f fd ["_law_pot_here"] spName := by
  have GT : FnOk P w K mg base CX0 (k + 1) fT fdT ["_law_pot_here", "_law_room_here"] spTake := ok_take FT.fn T
  refine F.ok scName (fun vs H Q E h => ?_) (fun cdv A outer s H vs Q E hr h => ?_)
  · obtain ⟨p, rfl, _⟩ := h
    rfl
  · obtain ⟨p, rfl, hp, q⟩ := h
    refine ⟨_, pss_cons (ps_set (i := 1) scName.nd rfl (.inr rfl) pe_str)
      (pss_one (ps_ret (pe_join pe_str (pe_lc (own := [("_law_k", 2)]) (g := gName 2) (tt := tYes) rfl scName.nd
        (pi_range1 (by rfl) T.range (pa_cons (pe_op op_add pe_int (pe_call GT hr (by rfl) FT.gl FT.fn.kp FT.bd .nil pass0 (pa_cons (pv 0) (pa_cons pe_int pa_nil)))) pa_nil))
        (blkOk_by (N := ["_law_pot_here", "_law_letters", "_law_k"]) (sc := defScope s__law_name) (by decide +kernel))
        (fun _ _ _ _ _ => pg_name (i := 2) scName.nd rfl (Or.inl rfl)) (fun _ _ _ _ _ => pts_nil)
        (fun _ _ _ _ _ => pe_ix ix_str (pv 1) (pe_call GT hr (by rfl) FT.gl FT.fn.kp FT.bd .nil pass0 (pa_cons (pv 0) (pa_cons pe_int pa_nil))) (fun _ _ => rfl)))))), ?_⟩
    refine ⟨⟨_, rfl⟩, _, rfl, p, 8, rfl, hp, by decide, by decide, fun d H1 d0 d1 hp1 sm1 => ?_⟩
    refine ⟨1, d, rfl, rfl, 1 + d, rfl, by omega, by omega, fun D nD => ?_⟩
    have nDp := hp1.ne nD
    refine lc_range (lo := 0) (n := (1 + d).toNat) (fun i H' => Pot H' p ∧ SameB p H H' ∧ ∃ ys : List Str, ys.length = i ∧ (∀ y ∈ ys, y.length = 1 ∧ ∀ c ∈ y.cps.toList, small c = true) ∧ H' D = some (.lst (ys.map V.str)))
      ⟨hp1.upd nDp, SameB.new (sm1.none hp1 nD) sm1, [], rfl, fun y hy => absurd hy List.not_mem_nil, upd_same⟩ ?_ ?_
    · rintro i H2 hi ⟨hp2, sm2, ys, hl, hy, eD⟩
      refine ⟨rfl, ?_⟩
      refine ⟨_, rfl, _, rfl, p, 26, rfl, hp2, by decide, by decide, fun e H3 e0 e1 hp3 sm3 => ?_⟩
      obtain ⟨c, hc, lc⟩ := at_small e0 e1
      have eD3 := sm3 D _ nDp eD
      refine ⟨_, e, c, rfl, rfl, by decide +kernel, hc, _, eD3, ?_, hp3.upd nDp, SameB.new (sm1.none hp1 nD) (sm2.trans sm3), ys ++ [⟨#[c]⟩], ?_, ?_, ?_⟩
      · rw [List.length_map, hl]
        exact small1000 (by omega)
      · rw [List.length_append, hl]
        rfl
      · intro y hm
        rcases List.mem_append.mp hm with h | h
        · exact hy y h
        · obtain rfl := List.mem_singleton.mp h
          refine ⟨rfl, fun x hx => ?_⟩
          obtain rfl : x = c := by simpa using hx
          exact lc
      · rw [upd_same, List.map_append]
        rfl
    · rintro H2 ⟨hp2, sm2, ys, hl, hy, eD⟩
      have h1 : ∀ y ∈ ys, y.length = 1 := fun y h => (hy y h).1
      have ec := join_codes ys
      have el : (Txt.join (Str.ofString "") ys).length = (1 + d).toNat := by
        show (Txt.join (Str.ofString "") ys).cps.size = _
        rw [← Array.length_toList, ec, flat_len ys h1, hl]
      refine ⟨_, D, ys, rfl, rfl, .inl (SqL.of eD), ?_, q _ _ ⟨by omega, by omega, ?_⟩ hp2 sm2⟩
      · rw [sum_len ys h1, hl, show (Str.ofString "").length = 0 by decide +kernel]
        omega
      · intro c hc
        rw [ec] at hc
        obtain ⟨l, h2, h3⟩ := List.mem_flatten.mp hc
        obtain ⟨y, h4, rfl⟩ := List.mem_map.mp h2
        exact (hy y h4).2 c h3
theorem putS_le {kvs : List (Str × Int)} {z : Str} {w b : Int} (h : ∀ q ∈ kvs, q.2 ≤ b) (hw : w ≤ b) : ∀ q ∈ putS kvs z w, q.2 ≤ b := by
  intro q hq
  unfold putS at hq
  split at hq
  · obtain ⟨x, hx, rfl⟩ := List.mem_map.mp hq
    split
    · exact hw
    · exact h x hx
  · rcases List.mem_append.mp hq with h1 | h1
    · exact h q h1
    · rw [List.mem_singleton.mp h1]
      exact hw
def spStores : Sp := fun vs H Q _ => ∃ (p : Addr), vs = [.ref p] ∧ Pot H p ∧ ∀ (d : Addr) (kvs : List (Str × Int)) (H' : Hp), H d = none → H' d = some (.dK (sd kvs)) → Kv kvs → kvs.length ≤ 8 → (∀ q ∈ kvs, q.2 ≤ 10 ^ 17) → Pot H' p → SameB p H H' → Q (.ref d) H'
theorem ok_stores {f fM fN fA fT : Addr} {fd fdM fdN fdA fdT : FuncData} {k : Nat} (F : Fun K "_law_stores" "_law_stores" s__law_stores f fd) (T : Tx mg) (FM : Has K mg "_law_name" ["_law_pot_here"] s__law_name fM fdM) (FN : Has K mg "_law_number" ["_law_pot_here", "_law_most"] s__law_number fN fdN) (FA : Has K mg "_law_far" ["_law_pot_here"] s__law_far fA fdA) (FT : Has K mg "_law_take" ["_law_pot_here", "_law_room_here"] s__law_take fT fdT) : FnOk P w K mg base CX0 (k + 4) f fd ["_law_pot_here"] spStores := by
  have GT : FnOk P w K mg base CX0 (k + 1) fT fdT ["_law_pot_here", "_law_room_here"] spTake := ok_take FT.fn T
  have GN : FnOk P w K mg base CX0 (k + 3) fN fdN ["_law_pot_here", "_law_most"] spNumber := ok_number FN.fn T FA FT
  have GM : FnOk P w K mg base CX0 (k + 2) fM fdM ["_law_pot_here"] spName := ok_name FM.fn T FT
  refine F.ok scStores (fun vs H Q E h => ?_) (fun cdv A outer s H vs Q E hr h => ?_)
  · obtain ⟨p, rfl, _⟩ := h
    rfl
  · obtain ⟨p, rfl, hp, q⟩ := h
    have nd := scStores.nd
    have hu := hu_of hr
    have hr1 : Room (k + 1) _ := hr.mono (by omega)
    have hr2 : Room (k + 2) _ := hr.mono (by omega)
    refine ⟨_, pss_cons (ps_set (i := 1) nd rfl (.inl rfl) pe_dnewK)
      (pss_cons (ps_for PassesOwn.never rfl (pi_range1 (by rfl) T.range (pa_cons (pe_ix ix_list (pe_lst (pa_cons pe_int (pa_cons pe_int (pa_cons pe_int (pa_cons pe_int (pa_cons (pe_call GT hr1 (by rfl) FT.gl FT.fn.kp FT.bd .nil pass0 (pa_cons (pv 0) (pa_cons pe_int pa_nil))) pa_nil))))))
          (pe_call GT hr1 (by rfl) FT.gl FT.fn.kp FT.bd .nil pass0 (pa_cons (pv 0) (pa_cons pe_int pa_nil))) (fun _ _ => rfl)) pa_nil)) (pg_name (i := 2) nd rfl (.inl rfl))
        (pss_one (ps_dput hu (pv 1) (pe_call GM hr2 (by rfl) FM.gl FM.fn.kp FM.bd .nil pass0 (pa_cons (pv 0) pa_nil)) (pe_call GN hr (by rfl) FN.gl FN.fn.kp FN.bd .nil pass0 (pa_cons (pv 0) (pa_cons pe_int pa_nil))) rfl)))
      (pss_one (ps_ret (pv 1)))), ?_⟩
    refine fun d nd' => ?_
    have s1 := same_upd (o := .dK []) nd'
    have e1 := upd_same (H := H) (a := d) (o := .dK [])
    have ndp : d ≠ p := hp.ne nd'
    have hp1 := hp.mono s1
    generalize upd H d (.dK []) = H1 at *
    refine ⟨_, rfl, p, 9, rfl, hp1, by decide, by decide, fun n9 H2 n0 n1 hp2 sb2 => ?_⟩
    refine ⟨by show 5 ≤ sizeLine; decide, fun l nl => ?_⟩
    have s3 := same_upd (o := .lst [V.int 0, .int 1, .int 2, .int 8, .int n9]) nl
    have el := upd_same (H := H2) (a := l) (o := .lst [V.int 0, .int 1, .int 2, .int 8, .int n9])
    have nlp : l ≠ p := hp2.ne nl
    have hp3 := hp2.mono s3
    have ed3 := s3 _ _ (sb2 _ _ ndp e1)
    have sb3 : SameB p H (upd H2 l (.lst [V.int 0, .int 1, .int 2, .int 8, .int n9])) := ((SameB.of s1).trans sb2).trans (SameB.of s3)
    generalize upd H2 l (.lst [V.int 0, .int 1, .int 2, .int 8, .int n9]) = H3 at *
    refine ⟨_, rfl, p, 5, rfl, hp3, by decide, by decide, fun n5 H4 m0 m1 hp4 sb4 => ?_⟩
    obtain ⟨r, er, r0, r1⟩ : ∃ r : Int, atI [V.int 0, .int 1, .int 2, .int 8, .int n9] n5 = some (.int r) ∧ 0 ≤ r ∧ r ≤ 8 := by
      have hd : n5 = 0 ∨ n5 = 1 ∨ n5 = 2 ∨ n5 = 3 ∨ n5 = 4 := by omega
      rcases hd with rfl | rfl | rfl | rfl | rfl
      · exact ⟨0, rfl, by decide, by decide⟩
      · exact ⟨1, rfl, by decide, by decide⟩
      · exact ⟨2, rfl, by decide, by decide⟩
      · exact ⟨8, rfl, by decide, by decide⟩
      · exact ⟨n9, rfl, n0, by omega⟩
    refine ⟨l, _, n5, .int r, rfl, rfl, SqL.of (sb4 _ _ nlp el), er, ?_⟩
    refine ⟨r, rfl, by omega, by omega, for_range (lo := 0) (n := r.toNat) (fun i σ H' => (∃ y2, σ = [some (.ref p), some (.ref d), y2]) ∧ ∃ kvs, H' d = some (.dK (sd kvs)) ∧ Kv kvs ∧ kvs.length ≤ i ∧ (∀ q ∈ kvs, q.2 ≤ 10 ^ 17) ∧ Pot H' p ∧ SameB p H H')
      ⟨⟨none, rfl⟩, [], sb4 _ _ ndp ed3, Kv.nil, Nat.le_refl _, nofun, hp4, sb3.trans sb4⟩ ?_ ?_⟩
    · rintro i σ H5 hi ⟨⟨y2, rfl⟩, kvs, ed, hk, hl, hw, hp5, sb5⟩
      refine ⟨_, rfl, p, 60, rfl, hp5, by decide, by decide, fun x H6 x0 x1 hp6 sb6 => ?_⟩
      refine ⟨_, rfl, _, rfl, p, rfl, hp6, fun z H7 hz hp7 sb7 => ?_⟩
      have ed7 := sb7 _ _ ndp (sb6 _ _ ndp ed)
      refine ⟨d, _, rfl, DPut.k (k := Sum.inr z) ed7 (small1000 (by rw [sd_len]; omega)), ?_⟩
      obtain ⟨hk2, hl2⟩ := hk.put hz x0 (w := x) (by omega)
      refine ⟨⟨_, rfl⟩, putS kvs z x, by rw [upd_same, put_sd], hk2, by omega, putS_le hw (by omega), hp7.upd ndp, SameB.new nd' ((sb5.trans sb6).trans sb7)⟩
    · rintro σ H5 ⟨⟨y2, rfl⟩, kvs, ed, hk, hl, hw, hp5, sb5⟩
      exact ⟨_, rfl, q d kvs H5 nd' ed hk (by omega) hw hp5 sb5⟩
def spLroom : Sp := fun vs H Q _ => ∃ (t : Addr) (s c m : Int), vs = [.ref t] ∧ H t = some (.tup [.int s, .int c, .int m]) ∧ N3 s c m ∧ Q (.int (roomI s c m)) H
theorem ok_lroom {f : Addr} {fd : FuncData} {k : Nat} (F : Fun K "_law_room" "_law_room" s__law_room f fd) (T : Tx mg) : FnOk P w K mg base CX0 (k + 1) f fd ["_law_ship"] spLroom := by
  refine F.ok scLroom (fun vs H Q E h => ?_) (fun cdv A outer s H vs Q E hr h => ?_)
  · obtain ⟨t, s, c, m, rfl, _⟩ := h
    rfl
  · obtain ⟨t, s, c, m, rfl, ht, B, q⟩ := h
    have := B.m1
    have := B.m2
    refine ⟨_, pss_one (ps_ret (pe_callB (call_min2 rfl) (by rfl) T.min (by decide +kernel) (pa_cons (pe_ix ix_tup (pv 0) pe_int (fun _ _ => rfl)) (pa_cons (pe_op op_fdivW (pe_ix ix_tup (pv 0) pe_int (fun _ _ => rfl)) (pe_ix ix_tup (pv 0) pe_int (fun _ _ => rfl))) pa_nil)))), ?_⟩
    exact ⟨_, rfl, t, _, 0, _, rfl, rfl, SqT.of ht, atI_nat (j := 0) rfl, _, rfl, t, _, 1, _, rfl, rfl, SqT.of ht, atI_nat (j := 1) rfl, _, rfl, t, _, 2, _, rfl, rfl, SqT.of ht, atI_nat (j := 2) rfl, _, _, rfl, rfl,
      wide_div (b := 210) (by omega) (Nat.lt_of_le_of_lt (show m.natAbs ≤ 10 ^ 40 by omega) (by decide)) (by decide) (by decide), _, _, rfl, q⟩
end
end K34
set_option Elab.async false
set_option linter.all false
set_option maxRecDepth 100000
set_option maxHeartbeats 1600000
/-! Own layer (pure): what a boat takes of the stores, going by going (k34). -/
namespace LG
open LT
open PySem PySem.Spec PyProof.Rows L2 NdefX
abbrev KV2 := List (Str × Int)
def stepT (a : Int × KV2 × KV2) (q : Str × Int) : Int × KV2 × KV2 :=
  if 0 < min q.2 a.1 then (a.1 - min q.2 a.1, a.2.1 ++ [(q.1, q.2 - min q.2 a.1)], a.2.2 ++ [(q.1, min q.2 a.1)]) else (a.1, a.2.1 ++ [q], a.2.2)
def stT (wt : Int) (rs : KV2) : Int × KV2 × KV2 := rs.foldl stepT (wt, [], [])
def restT (wt : Int) (rs : KV2) : KV2 := (stT wt rs).2.1
def partT (wt : Int) (rs : KV2) : KV2 := (stT wt rs).2.2
theorem stT_snoc (wt : Int) (rs : KV2) (q : Str × Int) : stT wt (rs ++ [q]) = stepT (stT wt rs) q := by
  unfold stT
  rw [List.foldl_append]
  rfl
theorem stepT_keys (a : Int × KV2 × KV2) (q : Str × Int) : (stepT a q).2.1.map (·.1) = a.2.1.map (·.1) ++ [q.1] := by
  unfold stepT
  split
  · simp
  · simp
theorem foldT_keys : ∀ (rs : KV2) (a : Int × KV2 × KV2), (rs.foldl stepT a).2.1.map (·.1) = a.2.1.map (·.1) ++ rs.map (·.1)
  | [], a => by simp
  | q :: rs, a => by
    rw [List.foldl_cons, foldT_keys rs, stepT_keys, List.map_cons, List.append_assoc]
    rfl
theorem restT_keys (wt : Int) (rs : KV2) : (restT wt rs).map (·.1) = rs.map (·.1) := by
  have := foldT_keys rs (wt, [], [])
  simpa [restT, stT] using this
/-- what is taken: no more than the weight; and either all the weight or all that there is -/
structure InvT (wt : Int) (rs : KV2) (a : Int × KV2 × KV2) : Prop where
  w0 : 0 ≤ a.1
  sm : a.1 + (a.2.2.map (·.2)).sum = wt
  tot : (a.2.1.map (·.2)).sum + (a.2.2.map (·.2)).sum = (rs.map (·.2)).sum
  full : a.1 = 0 ∨ ∀ q ∈ a.2.1, q.2 = 0
  nn : ∀ q ∈ a.2.1, 0 ≤ q.2
  ps : ∀ q ∈ a.2.2, 1 ≤ q.2
  sub : ∀ q ∈ a.2.2, q.1 ∈ rs.map (·.1)
  each : ∀ z, ((a.2.1.filter (fun q => q.1 == z)).map (·.2)).sum + ((a.2.2.filter (fun q => q.1 == z)).map (·.2)).sum = ((rs.filter (fun q => q.1 == z)).map (·.2)).sum
theorem invT {wt : Int} (h0 : 0 ≤ wt) : ∀ (n : Nat) (rs : KV2), rs.length = n → (∀ q ∈ rs, 0 ≤ q.2) → InvT wt rs (stT wt rs) := by
  intro n
  induction n with
  | zero =>
    intro rs hl _
    have : rs = [] := List.length_eq_zero_iff.mp hl
    subst this
    exact ⟨h0, by simp [stT], by simp [stT], .inr (by simp [stT]), by simp [stT], by simp [stT], by simp [stT], by simp [stT]⟩
  | succ n ih =>
    intro rs hl hn
    obtain ⟨r, q, rfl⟩ : ∃ r q, rs = r ++ [q] := by
      have hne : rs ≠ [] := fun e => by rw [e] at hl; cases hl
      exact ⟨rs.dropLast, rs.getLast hne, (List.dropLast_concat_getLast hne).symm⟩
    have hl2 : r.length = n := by rw [List.length_append] at hl; simpa using hl
    have I := ih r hl2 fun x hx => hn x (List.mem_append_left _ hx)
    have q0 : 0 ≤ q.2 := hn q (List.mem_append_right _ List.mem_cons_self)
    rw [stT_snoc]
    generalize stT wt r = a at I ⊢
    obtain ⟨w, d, p⟩ := a
    have w0 : 0 ≤ w := I.w0
    have hs : w + (p.map (·.2)).sum = wt := I.sm
    have ht : (d.map (·.2)).sum + (p.map (·.2)).sum = (r.map (·.2)).sum := I.tot
    unfold stepT
    split
    · rename_i h
      have h : 0 < min q.2 w := h
      have m1 := Int.min_le_left q.2 w
      have m2 := Int.min_le_right q.2 w
      refine ⟨by show 0 ≤ w - min q.2 w; omega, ?_, ?_, ?_, ?_, ?_, ?_, fun z => ?_⟩
      · show w - min q.2 w + ((p ++ [(q.1, min q.2 w)]).map (·.2)).sum = wt
        simp only [List.map_append, List.sum_append, List.map_cons, List.map_nil, List.sum_cons, List.sum_nil]
        omega
      · show ((d ++ [(q.1, q.2 - min q.2 w)]).map (·.2)).sum + ((p ++ [(q.1, min q.2 w)]).map (·.2)).sum = ((r ++ [q]).map (·.2)).sum
        simp only [List.map_append, List.sum_append, List.map_cons, List.map_nil, List.sum_cons, List.sum_nil]
        omega
      · show w - min q.2 w = 0 ∨ ∀ x ∈ d ++ [(q.1, q.2 - min q.2 w)], x.2 = 0
        by_cases hw : w ≤ q.2
        · exact .inl (by omega)
        · refine .inr fun x hx => ?_
          rcases List.mem_append.mp hx with hx | hx
          · rcases I.full with e | e
            · have e : w = 0 := e
              omega
            · exact e x hx
          · rw [List.mem_singleton.mp hx]
            show q.2 - min q.2 w = 0
            omega
      · intro x hx
        rcases List.mem_append.mp hx with hx | hx
        · exact I.nn x hx
        · rw [List.mem_singleton.mp hx]
          show 0 ≤ q.2 - min q.2 w
          omega
      · intro x hx
        rcases List.mem_append.mp hx with hx | hx
        · exact I.ps x hx
        · rw [List.mem_singleton.mp hx]
          exact h
      · intro x hx
        rw [List.map_append]
        rcases List.mem_append.mp hx with hx | hx
        · exact List.mem_append_left _ (I.sub x hx)
        · rw [List.mem_singleton.mp hx]
          exact List.mem_append_right _ List.mem_cons_self
      · have e := I.each z
        have e : ((d.filter (fun q => q.1 == z)).map (·.2)).sum + ((p.filter (fun q => q.1 == z)).map (·.2)).sum = ((r.filter (fun q => q.1 == z)).map (·.2)).sum := e
        show (((d ++ [(q.1, q.2 - min q.2 w)]).filter (fun q => q.1 == z)).map (·.2)).sum + (((p ++ [(q.1, min q.2 w)]).filter (fun q => q.1 == z)).map (·.2)).sum = (((r ++ [q]).filter (fun q => q.1 == z)).map (·.2)).sum
        simp only [List.filter_append, List.map_append, List.sum_append, List.filter_cons, List.filter_nil]
        by_cases hz : (q.1 == z) = true
        · simp only [hz, if_true, List.map_cons, List.map_nil, List.sum_cons, List.sum_nil]
          omega
        · simp only [hz, List.map_nil, List.sum_nil]
          simp
          omega
    · rename_i h
      have h : ¬ 0 < min q.2 w := h
      have hz0 : q.2 = 0 ∨ w = 0 := by
        by_cases a : q.2 ≤ w
        · rw [Int.min_eq_left a] at h; omega
        · rw [Int.min_eq_right (by omega)] at h; omega
      refine ⟨w0, hs, ?_, ?_, ?_, I.ps, ?_, fun z => ?_⟩
      · show ((d ++ [q]).map (·.2)).sum + (p.map (·.2)).sum = ((r ++ [q]).map (·.2)).sum
        simp only [List.map_append, List.sum_append, List.map_cons, List.map_nil, List.sum_cons, List.sum_nil]
        omega
      · show w = 0 ∨ ∀ x ∈ d ++ [q], x.2 = 0
        by_cases hw : w = 0
        · exact .inl hw
        · refine .inr fun x hx => ?_
          rcases List.mem_append.mp hx with hx | hx
          · rcases I.full with e | e
            · exact absurd e hw
            · exact e x hx
          · rw [List.mem_singleton.mp hx]
            rcases hz0 with h | h
            · exact h
            · exact absurd h hw
      · intro x hx
        rcases List.mem_append.mp hx with hx | hx
        · exact I.nn x hx
        · rw [List.mem_singleton.mp hx]
          exact q0
      · intro x hx
        rw [List.map_append]
        exact List.mem_append_left _ (I.sub x hx)
      · have e := I.each z
        have e : ((d.filter (fun q => q.1 == z)).map (·.2)).sum + ((p.filter (fun q => q.1 == z)).map (·.2)).sum = ((r.filter (fun q => q.1 == z)).map (·.2)).sum := e
        show (((d ++ [q]).filter (fun q => q.1 == z)).map (·.2)).sum + ((p.filter (fun q => q.1 == z)).map (·.2)).sum = (((r ++ [q]).filter (fun q => q.1 == z)).map (·.2)).sum
        simp only [List.filter_append, List.map_append, List.sum_append]
        omega
theorem foldT_part : ∀ (rs : KV2) (a : Int × KV2 × KV2), (∀ x ∈ (rs.foldl stepT a).2.2, x ∈ a.2.2 ∨ x.1 ∈ rs.map (·.1)) ∧ (rs.foldl stepT a).2.2.length ≤ a.2.2.length + rs.length
  | [], a => ⟨fun x hx => .inl hx, Nat.le_refl _⟩
  | q :: rs, a => by
    obtain ⟨h1, h2⟩ := foldT_part rs (stepT a q)
    have st : (∀ x ∈ (stepT a q).2.2, x ∈ a.2.2 ∨ x.1 = q.1) ∧ (stepT a q).2.2.length ≤ a.2.2.length + 1 := by
      unfold stepT
      split
      · refine ⟨fun x hx => ?_, by simp⟩
        rcases List.mem_append.mp hx with hx | hx
        · exact .inl hx
        · rw [List.mem_singleton.mp hx]
          exact .inr rfl
      · exact ⟨fun x hx => .inl hx, Nat.le_succ _⟩
    rw [List.foldl_cons]
    refine ⟨fun x hx => ?_, by rw [List.length_cons]; omega⟩
    rcases h1 x hx with h | h
    · rcases st.1 x h with h | h
      · exact .inl h
      · exact .inr (by rw [h]; exact List.mem_cons_self)
    · exact .inr (List.mem_cons_of_mem _ h)
theorem part_keys (wt : Int) (rs : KV2) : ∀ x ∈ (stT wt rs).2.2, x.1 ∈ rs.map (·.1) := fun x hx => by
  rcases (foldT_part rs (wt, [], [])).1 x hx with h | h
  · cases h
  · exact h
theorem part_len (wt : Int) (rs : KV2) : (stT wt rs).2.2.length ≤ rs.length := by
  have := (foldT_part rs (wt, [], [])).2
  simpa [stT] using this
end LG
set_option Elab.async false
set_option linter.all false
set_option maxRecDepth 100000
set_option maxHeartbeats 1600000
set_option pp.maxSteps 300
namespace K34
open PySem PySem.Spec PyProof.Rows L2 LT NdefX
section
variable {P : Program} {w : World} {K : PySem.W.Frag} {mg : Str → Option Value} {base : Heap}
theorem ctD (D : All K P mg) : Ct K mg D.C_Boat := ⟨D.Z_Boat.cl, D.n_Boat_many_seats, D.n_Boat_most_weight, D.n_Boat_man_weight, D.Z_Boat.gl, D.Z_Boat.kp⟩
theorem m3D (D : All K P mg) : M3 K D.C_Boat D.f_Boat_seats D.f_Boat_carries D.f_Boat_man D.d_Boat_seats D.d_Boat_carries D.d_Boat_man := ⟨D.h_Boat_seats, D.h_Boat_carries, D.h_Boat_man⟩
theorem csD (D : All K P mg) : Cs mg := ⟨⟨_, D.g_SMALL_LETTERS⟩, ⟨_, D.g_LONGEST_NAME⟩, ⟨_, D.g_MOST_THINGS⟩⟩
theorem ok_Boat_carries (D : All K P mg) : FnOk P w K mg base CX0 1 D.f_Boat_carries D.d_Boat_carries ["self"] (spGet D.C_Boat fun _ c _ => c) := ok_carries D.h_Boat_carries.fn (ctD D)
theorem ok_Boat_man (D : All K P mg) : FnOk P w K mg base CX0 1 D.f_Boat_man D.d_Boat_man ["self"] (spGet D.C_Boat fun _ _ m => m) := ok_man D.h_Boat_man.fn (ctD D)
theorem ok_room_of (D : All K P mg) : FnOk P w K mg base CX0 2 D.f_room_of D.d_room_of ["boat"] (spRoom D.C_Boat) := ok_room D.h_room_of.fn D.T (ctD D) (m3D D)
theorem ok_Boat___init__ (D : All K P mg) : FnOk P w K mg base CX0 3 D.f_Boat___init__ D.d_Boat___init__ ["self", "seats", "carries", "man"] (spInit D.C_Boat) := ok_init D.h_Boat___init__.fn D.T (ctD D) D.h_is_from D.h_is_whole
theorem ok_fewest (D : All K P mg) : FnOk P w K mg base (L2.CX P w) 5 D.f_fewest D.d_fewest ["boat", "out", "back", "stores"] (spFw D.C_Boat D.C_Small) :=
  ok_fw D.q_fewest D.T (csD D) (ctD D) ⟨D.E_Small.g, D.E_Small.x, D.E_Small.k, D.E_Small.b, D.E_Small.t⟩ (m3D D) D.h_room_of D.h_weight_out D.h_parts_for D.h_check_wanted D.h_are_stores D.h_is_name D.h_is_from D.h_is_whole
theorem ok__law_take (D : All K P mg) : FnOk P w K mg base CX0 1 D.f__law_take D.d__law_take ["_law_pot_here", "_law_room_here"] spTake := ok_take D.h__law_take.fn D.T
theorem ok__law_pot (D : All K P mg) : FnOk P w K mg base CX0 2 D.f__law_pot D.d__law_pot ["_law_script", "_law_k"] (spPot K) := ok_pot D.h__law_pot.fn D.T D.h__law_cell.fn D.h__law_cell.bd D.h__law_cell.gl
theorem ok__law_far (D : All K P mg) : FnOk P w K mg base CX0 2 D.f__law_far D.d__law_far ["_law_pot_here"] spFar := ok_far D.h__law_far.fn D.T D.h__law_take
theorem ok__law_boat (D : All K P mg) : FnOk P w K mg base CX0 4 D.f__law_boat D.d__law_boat ["_law_pot_here"] spBoat := ok_boat D.h__law_boat.fn D.T D.h__law_number D.h__law_far D.h__law_take
theorem ok__law_stores (D : All K P mg) : FnOk P w K mg base CX0 4 D.f__law_stores D.d__law_stores ["_law_pot_here"] spStores := ok_stores D.h__law_stores.fn D.T D.h__law_name D.h__law_number D.h__law_far D.h__law_take
theorem ok__law_room (D : All K P mg) : FnOk P w K mg base CX0 1 D.f__law_room D.d__law_room ["_law_ship"] spLroom := ok_lroom D.h__law_room.fn D.T
def spTaken : Sp := fun vs H Q _ => ∃ (r : Addr) (rs : LG.KV2) (wt : Int), vs = [.ref r, .int wt] ∧ H r = some (.dK (sd rs)) ∧ (rs.map (·.1)).Nodup ∧ rs.length ≤ 8 ∧
  ∀ (p : Addr) (H' : Hp), H p = none → H' p = some (.dK (sd (LG.partT wt rs))) → H' r = some (.dK (sd (LG.restT wt rs))) → SameB r H H' → Q (.ref p) H'
theorem sc_taken : FnScope ["rest", "weight", "part", "name", "some"] ["rest", "weight"] (defScope s_taken) := ⟨rfl, rfl, rfl, by decide +kernel, rfl, by decide +kernel, by decide +kernel⟩
theorem ok_taken (D : All K P mg) : FnOk P w K mg base CX0 1 D.f_taken D.d_taken ["rest", "weight"] spTaken := by
  refine D.h_taken.fn.ok sc_taken (fun vs H Q E h => ?_) (fun cdv A outer s H vs Q E hr h => ?_)
  · first | (obtain ⟨_, rfl, _⟩ := h; rfl) | (obtain ⟨_, _, rfl, _⟩ := h; rfl) | (obtain ⟨_, _, _, rfl, _⟩ := h; rfl) | (obtain ⟨_, _, _, _, rfl, _⟩ := h; rfl) | (obtain ⟨_, _, _, _, _, rfl, _⟩ := h; rfl) | (obtain ⟨_, _, _, _, _, _, rfl, _⟩ := h; rfl) | (obtain ⟨_, _, _, _, _, _, _, rfl, _⟩ := h; rfl) | (obtain ⟨_, _, _, _, _, _, _, _, rfl, _⟩ := h; rfl) | (obtain ⟨_, _, _, _, _, _, _, _, _, rfl, _⟩ := h; rfl) | (obtain ⟨_, _, _, _, _, _, _, _, _, _, rfl, _⟩ := h; rfl) | (obtain ⟨_, _, _, _, _, _, _, _, _, _, _, rfl, _⟩ := h; rfl) | (obtain ⟨_, _, _, _, _, _, _, _, _, _, _, _, rfl, _⟩ := h; rfl) | (obtain ⟨_, _, _, _, _, _, _, _, _, _, _, _, _, rfl, _⟩ := h; rfl) | (obtain ⟨_, _, _, _, _, _, _, _, _, _, _, _, _, _, rfl, _⟩ := h; rfl) | (obtain ⟨_, _, _, _, _, _, _, _, _, _, _, _, _, _, _, rfl, _⟩ := h; rfl)
  · have T := D.T
    have nd := sc_taken.nd
    have hu := hr.units
    have hu1 := hu_of hr
    have hu0 := hr.units0
    obtain ⟨r, rs, wt, rfl, hr', nd2, hl, q⟩ := h
    refine ⟨_, pss_cons (ps_set (i := 2) nd rfl (.inl rfl) pe_dnewK)
      (pss_cons (ps_for PassesOwn.never rfl (pi_list (pe_callTy (call_list_dK rfl) (by rfl) T.list (by decide +kernel) (pa_cons (pv 0) pa_nil))) (pg_name (i := 3) nd rfl (Or.inl rfl)) (pss_cons (ps_set (i := 4) nd rfl (.inl rfl) (pe_callB (call_min2 rfl) (by rfl) T.min (by decide +kernel) (pa_cons (pe_dget hu1 (pv 0) (pv 3) (fun _ _ => rfl)) (pa_cons (pv 1) pa_nil))))
      (pss_one (ps_if (pt_cmpR op_gt (pv 4) pe_int (nomark _)) (pss_cons (ps_dput hu1 (pv 2) (pv 3) (pv 4) rfl)
      (pss_cons (ps_daug hu1 (pv 0) (pv 3) (pv 4) in_sub (fun _ _ _ => rfl))
      (pss_one (ps_aug (i := 1) nd rfl (.inl rfl) (pv 4) ip_sub)))) pss_nil))))
      (pss_one (ps_ret (pv 2)))), ?_⟩
    refine fun p np => ?_
    have s1 := same_upd (o := .dK []) np
    have ep := upd_same (H := H) (a := p) (o := .dK [])
    generalize upd H p (.dK []) = H1 at *
    refine ⟨_, rfl, r, _, rfl, s1 _ _ hr', fun L nL => ?_⟩
    have nrp : r ≠ p := fun e => by rw [e, np] at hr'; cases hr'
    have s2 := same_upd (o := .lst ((sd rs).map fun kv => kV kv.1)) nL
    have eL0 := upd_same (H := H1) (a := L) (o := .lst ((sd rs).map fun kv => kV kv.1))
    generalize upd H1 L (.lst ((sd rs).map fun kv => kV kv.1)) = H2 at *
    have eL : H2 L = some (.lst ((rs.map (·.1)).map V.str)) := by
      rw [eL0]
      show some (HO.lst ((rs.map fun x => ((Sum.inr x.1 : Key), V.int x.2)).map fun kv => kV kv.1)) = _
      rw [List.map_map, List.map_map]
      rfl
    have s12 := s1.trans s2
    have nLr : L ≠ r := fun e => by rw [e, s1 _ _ hr'] at nL; cases nL
    have nLp : L ≠ p := fun e => by rw [e, ep] at nL; cases nL
    refine ⟨L, rfl, ⟨_, SqL.of eL⟩, for_list (K := K) (a := L) (xs := (rs.map (·.1)).map V.str) (fun i σ H' => ∃ x3 x4, σ = [some (.ref r), some (.int (LG.stT wt (rs.take i)).1), some (.ref p), x3, x4] ∧ H' p = some (.dK (sd (LG.stT wt (rs.take i)).2.2)) ∧
      H' r = some (.dK (sd ((LG.stT wt (rs.take i)).2.1 ++ rs.drop i))) ∧ SameB r H H' ∧ H' L = some (.lst ((rs.map (·.1)).map V.str))) ⟨none, none, rfl, s2 _ _ ep, s12 _ _ hr', SameB.of s12, eL⟩ (fun _ _ _ _ ⟨_, _, _, _, _, _, e⟩ => SqL.of e) ?_ ?_⟩
    · rintro i y σ H3 hy ⟨x3, x4, rfl, e3p, e3r, sB, e3L⟩
      rw [List.map_map, List.getElem?_map, Option.map_eq_some_iff] at hy
      obtain ⟨⟨z, n⟩, hq, rfl⟩ := hy
      have il : i < rs.length := (List.getElem?_eq_some_iff.mp hq).1
      have edrop : rs.drop i = (z, n) :: rs.drop (i + 1) := by
        rw [List.drop_eq_getElem_cons il]
        rw [(List.getElem?_eq_some_iff.mp hq).2]
      have etake : rs.take (i + 1) = rs.take i ++ [(z, n)] := by
        rw [List.take_succ, hq]
        rfl
      rw [etake, LG.stT_snoc]
      have kd := LG.restT_keys wt (rs.take i)
      unfold LG.restT at kd
      have nd3 : ((rs.take i).map (·.1) ++ z :: (rs.drop (i + 1)).map (·.1)).Nodup := by
        have e : rs = rs.take i ++ (z, n) :: rs.drop (i + 1) := by rw [← edrop, List.take_append_drop]
        have h := nd2
        rw [e, List.map_append, List.map_cons] at h
        exact h
      obtain ⟨_, hb, hab⟩ := List.nodup_append.mp nd3
      have zd : z ∉ (LG.stT wt (rs.take i)).2.1.map (·.1) := by
        rw [kd]
        exact fun h => hab z h z List.mem_cons_self rfl
      have zr : z ∉ (rs.drop (i + 1)).map (·.1) := (List.nodup_cons.mp hb).1
      rw [edrop] at e3r
      have kp : ∀ x ∈ (LG.stT wt (rs.take i)).2.2, x.1 ∈ (rs.take i).map (·.1) := LG.part_keys wt (rs.take i)
      have pl := LG.part_len wt (rs.take i)
      have dl : (LG.stT wt (rs.take i)).2.1.length = i := by
        have := congrArg List.length kd
        rw [List.length_map, List.length_map, List.length_take] at this
        omega
      have tl : (rs.take i).length ≤ 8 := by rw [List.length_take]; omega
      generalize LG.stT wt (rs.take i) = a at *
      obtain ⟨w1, d, pt⟩ := a
      have pl : pt.length ≤ (rs.take i).length := pl
      have dl : d.length = i := dl
      have e3p : H3 p = some (.dK (sd pt)) := e3p
      have e3r : H3 r = some (.dK (sd (d ++ (z, n) :: rs.drop (i + 1)))) := e3r
      have zp : z ∉ pt.map (·.1) := fun h => by
        obtain ⟨x, hx, ex⟩ := List.mem_map.mp h
        have := kp x hx
        rw [ex] at this
        exact hab z this z List.mem_cons_self rfl
      have g1 : getA (d ++ (z, n) :: rs.drop (i + 1)) z = some n := by rw [getA_app zd, getA_pos rfl]
      have dg := dget_sd e3r g1
      refine ⟨_, rfl, _, rfl, r, _, rfl, dg, _, rfl, _, _, rfl, ?_⟩
      have em : (if w1 < n then w1 else n) = min n w1 := by
        by_cases h : w1 < n
        · rw [if_pos h, Int.min_eq_right (by omega)]
        · rw [if_neg h, Int.min_eq_left (by omega)]
      refine ⟨_, rfl, _, _, rfl, rfl, _, rfl, ?_⟩
      rw [em]
      unfold LG.stepT
      by_cases hm : 0 < min n w1
      · rw [decide_eq_true hm, if_pos hm]
        generalize min n w1 = m at *
        refine iteT ⟨_, rfl, _, rfl, _, rfl, _, _, rfl, DPut.k (k := Sum.inr z) e3p (by rw [sd_len]; exact small2k (by omega)), ?_⟩
        rw [show putK (sd pt) (Sum.inr z) (V.int m) = sd (putA pt z m) from put_en inr_inj pt z m, putA_new (getA_none_iff.mpr zp)]
        have e4p := upd_same (H := H3) (a := p) (o := .dK (sd (pt ++ [(z, m)])))
        have e4r : L2.upd H3 p (.dK (sd (pt ++ [(z, m)]))) r = some (.dK (sd (d ++ (z, n) :: rs.drop (i + 1)))) := by rw [upd_ne nrp]; exact e3r
        have e4L : L2.upd H3 p (.dK (sd (pt ++ [(z, m)]))) L = some (.lst ((rs.map (·.1)).map V.str)) := by rw [upd_ne nLp]; exact e3L
        have s4 : SameB r H (L2.upd H3 p (.dK (sd (pt ++ [(z, m)])))) := SameB.new np sB
        generalize L2.upd H3 p (.dK (sd (pt ++ [(z, m)]))) = H4 at *
        refine ⟨_, rfl, _, rfl, r, _, rfl, dget_sd e4r g1, _, rfl, _, _, rfl, rfl, _, DPut.k (k := Sum.inr z) e4r (by rw [sd_len, List.length_append, List.length_cons, List.length_drop]; exact small2k (by omega)), ?_⟩
        rw [show putK (sd (d ++ (z, n) :: rs.drop (i + 1))) (Sum.inr z) (V.int (n - m)) = sd (putA (d ++ (z, n) :: rs.drop (i + 1)) z (n - m)) from put_en inr_inj _ z (n - m), putA_mid zd zr]
        refine ⟨_, rfl, _, rfl, _, _, rfl, rfl, ?_⟩
        refine ⟨_, _, rfl, ?_, ?_, SameB.upd s4, ?_⟩
        · rw [upd_ne nrp.symm]
          exact e4p
        · rw [upd_same, List.append_assoc]
          rfl
        · rw [upd_ne nLr]
          exact e4L
      · rw [decide_eq_false hm, if_neg hm]
        refine iteF ⟨_, _, rfl, e3p, ?_, sB, e3L⟩
        rw [e3r, List.append_assoc]
        rfl
    · rintro σ H3 ⟨x3, x4, rfl, e3p, e3r, sB, e3L⟩
      rw [List.length_map, List.length_map, List.take_length] at e3p e3r
      rw [List.drop_length, List.append_nil] at e3r
      exact ⟨_, rfl, q p H3 np e3p e3r sB⟩
end
end K34
set_option Elab.async false
set_option linter.all false
set_option maxRecDepth 100000
set_option maxHeartbeats 1600000
/-! Own layer: the loads of a boat, as a list on the heap (k34). -/
namespace LG
open LT
open PySem PySem.Spec PyProof.Rows L2 NdefX
def moF (room o : Int) (i : Nat) : Int := max 0 (min room (o - ((i : Nat) : Int) * room))
def wtF (c m room o : Int) (i : Nat) : Int := c - moF room o i * m
def restN (c m room o : Int) (kvs : KV2) : Nat → KV2
  | 0 => kvs
  | i + 1 => restT (wtF c m room o i) (restN c m room o kvs i)
def partN (c m room o : Int) (kvs : KV2) (i : Nat) : KV2 := partT (wtF c m room o i) (restN c m room o kvs i)
abbrev Ld := Int × Int × KV2
def ldF (c m room o b : Int) (kvs : KV2) (n : Nat) : List Ld := (List.range n).map fun i => (moF room o i, moF room b i, partN c m room o kvs i)
theorem ldF_succ (c m room o b : Int) (kvs : KV2) (n : Nat) : ldF c m room o b kvs (n + 1) = ldF c m room o b kvs n ++ [(moF room o n, moF room b n, partN c m room o kvs n)] := by
  unfold ldF
  rw [List.range_succ, List.map_append]
  rfl
theorem ldF_len (c m room o b : Int) (kvs : KV2) (n : Nat) : (ldF c m room o b kvs n).length = n := by
  unfold ldF
  rw [List.length_map, List.length_range]
theorem restN_keys (c m room o : Int) (kvs : KV2) : ∀ n, (restN c m room o kvs n).map (·.1) = kvs.map (·.1)
  | 0 => rfl
  | n + 1 => by
    show (restT _ _).map (·.1) = _
    rw [restT_keys, restN_keys c m room o kvs n]
theorem restN_len (c m room o : Int) (kvs : KV2) (n : Nat) : (restN c m room o kvs n).length = kvs.length := by
  have := congrArg List.length (restN_keys c m room o kvs n)
  rwa [List.length_map, List.length_map] at this
/-- the loads stand: the list at L, its tuples at ts, their dicts at ds -/
structure LdsAt (H : Hp) (L : Addr) (ts ds : List Addr) (ls : List Ld) : Prop where
  e : H L = some (.lst (ts.map V.ref))
  row : ∀ (i : Nat) (t d : Addr) (l : Ld), ts[i]? = some t → ds[i]? = some d → ls[i]? = some l → H t = some (.tup [.int l.1, .int l.2.1, .ref d]) ∧ H d = some (.dK (sd l.2.2))
  lt : ts.length = ls.length
  ld : ds.length = ls.length
  nd : ds.Nodup
theorem LdsAt.mono {H H1 : Hp} {L : Addr} {ts ds : List Addr} {ls : List Ld} (k : LdsAt H L ts ds ls) (s : ∀ a, a ∈ L :: (ts ++ ds) → ∀ o, H a = some o → H1 a = some o) : LdsAt H1 L ts ds ls :=
  ⟨s L List.mem_cons_self _ k.e, fun i t d l h1 h2 h3 => by
    obtain ⟨e1, e2⟩ := k.row i t d l h1 h2 h3
    exact ⟨s t (List.mem_cons_of_mem _ (List.mem_append_left _ (List.mem_of_getElem? h1))) _ e1, s d (List.mem_cons_of_mem _ (List.mem_append_right _ (List.mem_of_getElem? h2))) _ e2⟩, k.lt, k.ld, k.nd⟩
theorem lds_nil {H : Hp} {L : Addr} (e : H L = some (.lst [])) : LdsAt H L [] [] [] := ⟨e, fun i t d l h => by simp at h, rfl, rfl, List.nodup_nil⟩
theorem LdsAt.push {H : Hp} {L p t : Addr} {ts ds : List Addr} {ls : List Ld} {mo mb : Int} {kv : KV2} (k : LdsAt H L ts ds ls) (ep : H p = some (.dK (sd kv))) (et : H t = some (.tup [.int mo, .int mb, .ref p])) (np : p ∉ ds) :
    LdsAt (L2.upd H L (.lst (ts.map V.ref ++ [.ref t]))) L (ts ++ [t]) (ds ++ [p]) (ls ++ [(mo, mb, kv)]) := by
  have eL := k.e
  have nt : ∀ {a : Addr} {xs : List V}, H a = some (.tup xs) → a ≠ L := fun h z => by rw [z, eL] at h; cases h
  have nd : ∀ {a : Addr} {xs : List (Key × V)}, H a = some (.dK xs) → a ≠ L := fun h z => by rw [z, eL] at h; cases h
  have lt := k.lt
  have ld := k.ld
  refine ⟨by rw [upd_same, List.map_append]; rfl, fun i t' d l h1 h2 h3 => ?_, by rw [List.length_append, List.length_append, k.lt]; rfl, by rw [List.length_append, List.length_append, k.ld]; rfl, ?_⟩
  · by_cases hi : i < ls.length
    · rw [List.getElem?_append_left (by omega)] at h1 h2 h3
      obtain ⟨e1, e2⟩ := k.row i t' d l h1 h2 h3
      exact ⟨by rw [upd_ne (nt e1)]; exact e1, by rw [upd_ne (nd e2)]; exact e2⟩
    · have hl := (List.getElem?_eq_some_iff.mp h3).1
      rw [List.length_append] at hl
      have hl : i < ls.length + 1 := hl
      have ei : i = ls.length := by omega
      subst ei
      rw [List.getElem?_append_right (by omega), show ls.length - ts.length = 0 by omega] at h1
      rw [List.getElem?_append_right (by omega), show ls.length - ds.length = 0 by omega] at h2
      rw [List.getElem?_append_right (by omega), Nat.sub_self] at h3
      cases h1
      cases h2
      cases h3
      exact ⟨by rw [upd_ne (nt et)]; exact et, by rw [upd_ne (nd ep)]; exact ep⟩
  · rw [List.nodup_append]
    exact ⟨k.nd, List.nodup_cons.mpr ⟨nofun, List.nodup_nil⟩, fun a ha b hb e => np (by rw [← List.mem_singleton.mp hb, ← e]; exact ha)⟩
/-- the stores that are handed in -/
inductive Sto (H : Hp) : V → KV2 → Prop
  | non : Sto H .non []
  | dict {d : Addr} {kvs : KV2} : H d = some (.dK (sd kvs)) → Kv kvs → kvs.length ≤ 8 → Sto H (.ref d) kvs
theorem Sto.stv {H : Hp} {v : V} {kvs : KV2} (h : Sto H v kvs) : StV H v (wsum kvs) := by
  cases h with
  | non => exact .non
  | dict e k l => exact .dict e k l
end LG
set_option Elab.async false
set_option linter.all false
set_option maxRecDepth 100000
set_option maxHeartbeats 1600000
set_option pp.maxSteps 300
namespace K34
open PySem PySem.Spec PyProof.Rows L2 LT NdefX
section
variable {P : Program} {w : World} {K : PySem.W.Frag} {mg : Str → Option Value} {base : Heap}
theorem few_nn {s c m o b k n : Int} (s1 : 1 ≤ s) (c1 : 1 ≤ c) (m1 : 1 ≤ m) (o0 : 0 ≤ o) (b0 : 0 ≤ b) (k0 : 0 ≤ k) (h : fewI s c m o b k = some n) : 0 ≤ n := by
  have p0 : ∀ {a d : Int}, 0 ≤ a → 1 ≤ d → 0 ≤ partsI a d := fun ha hd => Int.ediv_nonneg (by omega) (by omega)
  unfold fewI at h
  have om : 0 ≤ o * m := Int.mul_nonneg o0 (by omega)
  have q1 : 0 ≤ partsI (o * m + k) c := p0 (by omega) c1
  split at h
  · cases h
    exact q1
  · split at h
    · cases h
    · cases h
      have mx : ∀ {a b : Int}, 0 ≤ b → 0 ≤ maxI a b := fun hb => by
        unfold maxI
        split <;> omega
      exact mx q1
theorem mo_eq (r o : Int) (i : Nat) : (if (if o - ((i : Nat) : Int) * r < r then o - ((i : Nat) : Int) * r else r) > 0 then (if o - ((i : Nat) : Int) * r < r then o - ((i : Nat) : Int) * r else r) else 0) = LG.moF r o i := by
  unfold LG.moF
  generalize o - ((i : Nat) : Int) * r = y
  have e : (if y < r then y else r) = min r y := by
    by_cases h : y < r
    · rw [if_pos h, Int.min_eq_right (by omega)]
    · rw [if_neg h, Int.min_eq_left (by omega)]
  rw [e]
  generalize min r y = z
  by_cases h : z > 0
  · rw [if_pos h, Int.max_eq_right (by omega)]
  · rw [if_neg h, Int.max_eq_left (by omega)]
theorem mo_bd {r o : Int} (r0 : 0 ≤ r) (i : Nat) : 0 ≤ LG.moF r o i ∧ LG.moF r o i ≤ r := by
  unfold LG.moF
  generalize o - ((i : Nat) : Int) * r = y
  have h1 := Int.le_max_left 0 (min r y)
  have h2 := Int.min_le_left r y
  exact ⟨h1, Int.max_le.mpr ⟨r0, h2⟩⟩
def spLoads (C CS CT : Addr) : Sp := fun vs H Q E => ∃ (x : Addr) (s c m o b : Int) (kvs : LG.KV2) (v : V), vs = [.ref x, .int o, .int b, v] ∧ Bt C H x s c m ∧ 0 ≤ o ∧ o ≤ 10 ^ 60 ∧ 0 ≤ b ∧ b ≤ 10 ^ 60 ∧ LG.Sto H v kvs ∧
  (fewI s c m o b (wsum kvs) = none → ∀ H', Same H H' → E (.ref CS) none H') ∧ (∀ n, fewI s c m o b (wsum kvs) = some n → 300 < n → ∀ H', Same H H' → E (.ref CT) none H') ∧
  (∀ n, fewI s c m o b (wsum kvs) = some n → n ≤ 300 → ∀ (L : Addr) (ts ds : List Addr) (H' : Hp), LG.LdsAt H' L ts ds (LG.ldF c m (roomI s c m) o b kvs n.toNat) → (∀ a ∈ L :: (ts ++ ds), H a = none) → Same H H' → Q (.ref L) H')
theorem sc_loads : FnScope ["boat", "out", "back", "stores", "many", "room", "rest", "told", "number", "men_out", "men_back"] ["boat", "out", "back", "stores"] (defScope s_loads) := ⟨rfl, rfl, rfl, by decide +kernel, rfl, by decide +kernel, by decide +kernel⟩
theorem ok_loads (D : All K P mg) : FnOk P w K mg base (L2.CX P w) 7 D.f_loads D.d_loads ["boat", "out", "back", "stores"] (spLoads D.C_Boat D.C_Small D.C_TooMany) := by
  refine D.q_loads.ok sc_loads (fun vs H Q E h => ?_) (fun cdv A outer s H vs Q E hr h => ?_)
  · first | (obtain ⟨_, rfl, _⟩ := h; rfl) | (obtain ⟨_, _, rfl, _⟩ := h; rfl) | (obtain ⟨_, _, _, rfl, _⟩ := h; rfl) | (obtain ⟨_, _, _, _, rfl, _⟩ := h; rfl) | (obtain ⟨_, _, _, _, _, rfl, _⟩ := h; rfl) | (obtain ⟨_, _, _, _, _, _, rfl, _⟩ := h; rfl) | (obtain ⟨_, _, _, _, _, _, _, rfl, _⟩ := h; rfl) | (obtain ⟨_, _, _, _, _, _, _, _, rfl, _⟩ := h; rfl) | (obtain ⟨_, _, _, _, _, _, _, _, _, rfl, _⟩ := h; rfl) | (obtain ⟨_, _, _, _, _, _, _, _, _, _, rfl, _⟩ := h; rfl) | (obtain ⟨_, _, _, _, _, _, _, _, _, _, _, rfl, _⟩ := h; rfl) | (obtain ⟨_, _, _, _, _, _, _, _, _, _, _, _, rfl, _⟩ := h; rfl) | (obtain ⟨_, _, _, _, _, _, _, _, _, _, _, _, _, rfl, _⟩ := h; rfl) | (obtain ⟨_, _, _, _, _, _, _, _, _, _, _, _, _, _, rfl, _⟩ := h; rfl) | (obtain ⟨_, _, _, _, _, _, _, _, _, _, _, _, _, _, _, rfl, _⟩ := h; rfl)
  · have T := D.T
    have nd := sc_loads.nd
    have hu := hr.units
    have hu1 := hu_of hr
    have hu0 := hr.units0
    have ps : Passes (L2.CX P w) (cxOf (L2.CX P w) P w K mg base ["boat", "out", "back", "stores", "many", "room", "rest", "told", "number", "men_out", "men_back"] "loads" (defScope s_loads) D.f_loads cdv A outer s H E) E := passes_call (takes_of rfl rfl rfl rfl) (fun _ _ _ _ h => h)
    obtain ⟨x, s, c, m, o, b, kvs, v, rfl, W, o0, o1, b0, b1, hv, e1, e2, q⟩ := h
    obtain ⟨_, v4_fewest, b4_fewest⟩ := D.q_fewest.binds1 (ps := ["boat", "out", "back", "stores"]) 4 2 (by simp) (by rfl) (fun _ _ _ _ _ _ _ us its h1 h2 => match us, its, h1, h2 with | [_, _, _, _], [_, _], _, _ => ⟨_, rfl, rfl⟩)
    refine ⟨_, pss_cons (ps_set (i := 4) nd rfl (.inl rfl) (pe_call (ok_fewest D) (hr.mono (by decide)) (by rfl) D.gl_fewest D.kp_fewest b4_fewest v4_fewest ps (pa_cons (pv 0) (pa_cons (pv 1) (pa_cons (pv 2) (pa_cons (pv 3) pa_nil))))))
      (pss_cons (ps_if (pt_cmpR op_gt (pv 4) (pe_glob (v := .int (300)) (by rfl) D.g_MOST_LOADS ⟨_, rfl⟩) (nomark _)) (pss_one (ps_raise rfl (takes_of rfl rfl rfl rfl) (pmk_own PySem.F.excBase_ValueError D.E_TooMany.x D.E_TooMany.g D.E_TooMany.k (raises_own D.E_TooMany.b D.E_TooMany.t) (by rfl)))) pss_nil)
      (pss_cons (ps_set (i := 5) nd rfl (.inl rfl) (pe_call (ok_room_of D) (hr.mono (by decide)) (by rfl) D.h_room_of.gl D.h_room_of.fn.kp D.h_room_of.bd .nil pass0 (pa_cons (pv 0) pa_nil)))
      (pss_cons (ps_set (i := 6) nd rfl (.inl rfl) (pe_ifExp (pt_cmpR op_isN (pv 3) pe_non (nomark _)) pe_dnewK (pe_callTy call_dictD (by rfl) T.dict (by decide +kernel) (pa_cons (pv 3) pa_nil))))
      (pss_cons (ps_set (i := 7) nd rfl (.inl rfl) (pe_lst pa_nil))
      (pss_cons (PS.nox (ps_for PassesOwn.never rfl (pi_range1 (by rfl) T.range (pa_cons (pv 4) pa_nil)) (pg_name (i := 8) nd rfl (Or.inl rfl)) (pss_cons (ps_set (i := 9) nd rfl (.inl rfl) (pe_callB (call_max2 rfl) (by rfl) T.max (by decide +kernel) (pa_cons pe_int (pa_cons (pe_callB (call_min2 rfl) (by rfl) T.min (by decide +kernel) (pa_cons (pv 5) (pa_cons (pe_op op_sub (pv 1) (pe_op op_mul (pv 8) (pv 5))) pa_nil))) pa_nil))))
      (pss_cons (ps_set (i := 10) nd rfl (.inl rfl) (pe_callB (call_max2 rfl) (by rfl) T.max (by decide +kernel) (pa_cons pe_int (pa_cons (pe_callB (call_min2 rfl) (by rfl) T.min (by decide +kernel) (pa_cons (pv 5) (pa_cons (pe_op op_sub (pv 2) (pe_op op_mul (pv 8) (pv 5))) pa_nil))) pa_nil))))
      (pss_one (ps_expr (pe_bm PySem.F.plainAttrs_list PySem.F.slot_list_append PySem.F.type_list_append mt_append (pv 7) (pa_cons (pe_tup (pa_cons (pv 9) (pa_cons (pv 10) (pa_cons (pe_call (ok_taken D) (hr.mono (by decide)) (by rfl) D.h_taken.gl D.h_taken.fn.kp D.h_taken.bd .nil pass0 (pa_cons (pv 6) (pa_cons (pe_op op_sub (pe_meth0 (pv 0) D.Z_Boat.cl D.h_Boat_carries.me (ok_Boat_carries D) (hr.mono (by decide)) D.h_Boat_carries.bd .nil pass0) (pe_op op_mulW (pv 9) (pe_meth0 (pv 0) D.Z_Boat.cl D.h_Boat_man.me (ok_Boat_man D) (hr.mono (by decide)) D.h_Boat_man.bd .nil pass0))) pa_nil))) pa_nil)))) pa_nil))))))))
      (pss_one (ps_ret (pv 7)))))))), ?_⟩
    refine ⟨_, rfl, _, rfl, _, rfl, _, rfl, x, s, c, m, o, b, wsum kvs, v, rfl, W, o0, o1, b0, b1, hv.stv, e1, fun n hn H1 s1 => ?_⟩
    have hn0 : 0 ≤ n := few_nn W.s1 W.c1 W.m1 o0 b0 hv.stv.bd.1 hn
    refine ⟨_, rfl, _, _, rfl, rfl, _, rfl, ?_⟩
    by_cases h300 : 300 < n
    · rw [decide_eq_true h300]
      exact iteT (e2 n hn h300 H1 s1)
    rw [decide_eq_false h300]
    have W1 := W.mono s1
    refine iteF ⟨_, rfl, x, s, c, m, rfl, W1, ?_⟩
    apply joinA (α := Addr) (J := fun R Hx => Hx R = some (.dK (sd kvs)) ∧ H R = none ∧ Same H Hx) (sl := fun R => [some (.ref x), some (.int o), some (.int b), some v, some (.int n), some (.int (roomI s c m)), some (.ref R), none, none, none, none])
    · intro k
      refine ⟨_, rfl, rfl, _, rfl, ?_⟩
      cases hv with
      | non => exact fun R nR => k R _ ⟨upd_same, s1.free nR, s1.trans (same_upd nR)⟩
      | @dict d _ e hk hl =>
        rw [decide_eq_false (show ¬ V.ref d = V.non from nofun)]
        exact ⟨_, rfl, d, _, rfl, .inl (s1 _ _ e), fun R nR => k R _ ⟨upd_same, s1.free nR, s1.trans (same_upd nR)⟩⟩
    have k8 : kvs.length ≤ 8 := by cases hv with | non => exact Nat.zero_le _ | dict _ _ l => exact l
    have knd : (kvs.map (·.1)).Nodup := by cases hv with | non => exact List.nodup_nil | dict _ k _ => exact k.nd
    clear hv W1 s1 e1 e2
    rintro R H2 ⟨eR, nR, s2⟩
    refine ⟨by show 0 ≤ sizeLine; decide, fun L nL => ?_⟩
    have nL0 := s2.free nL
    have eL := upd_same (H := H2) (a := L) (o := .lst [])
    have eR3 : L2.upd H2 L (.lst []) R = some (.dK (sd kvs)) := by rw [upd_ne (ne_of_none eR nL)]; exact eR
    have nLR : L ≠ R := fun z => by rw [z, eR] at nL; cases nL
    have s3 := s2.trans (same_upd (o := .lst []) nL)
    generalize L2.upd H2 L (.lst []) = H3 at *
    obtain ⟨nn, en⟩ : ∃ nn : Nat, n = (nn : Int) := ⟨n.toNat, by omega⟩
    subst en
    have n300 : nn ≤ 300 := by omega
    refine ⟨_, rfl, _, rfl, by omega, by omega, for_range (lo := 0) (n := nn) (fun i σ H' => (∃ x8 x9 x10, σ = [some (.ref x), some (.int o), some (.int b), some v, some (.int (nn : Nat)), some (.int (roomI s c m)), some (.ref R), some (.ref L), x8, x9, x10]) ∧
      ∃ ts ds : List Addr, LG.LdsAt H' L ts ds (LG.ldF c m (roomI s c m) o b kvs i) ∧ H' R = some (.dK (sd (LG.restN c m (roomI s c m) o kvs i))) ∧ (∀ a ∈ ts ++ ds, H a = none ∧ a ≠ R) ∧ Same H H')
      ⟨⟨none, none, none, rfl⟩, [], [], LG.lds_nil eL, eR3, nofun, s3⟩ ?_ ?_⟩
    · rintro i σ H4 hi ⟨⟨x8, x9, x10, rfl⟩, ts, ds, k, e4R, nw, s4⟩
      have j0 : (0 : Int) + ((i : Nat) : Int) = (i : Nat) := by omega
      rw [j0]
      obtain ⟨r0, rs⟩ := room_bd W.s1 W.c1 W.m1
      have W4 := W.mono s4
      obtain ⟨⟨dx, hx⟩, _, _, _, s40, c40, m40⟩ := id W4
      have m1 := W.m1
      obtain ⟨mo0, mo1⟩ := mo_bd (o := o) r0 i
      refine ⟨_, rfl, _, rfl, _, rfl, _, rfl, _, _, rfl, rfl, .inl ⟨by omega, by omega⟩, _, _, rfl, rfl, _, _, rfl, _, _, rfl, ?_⟩
      rw [mo_eq]
      refine ⟨_, rfl, _, rfl, _, rfl, _, rfl, _, _, rfl, rfl, .inl ⟨by omega, by omega⟩, _, _, rfl, rfl, _, _, rfl, _, _, rfl, ?_⟩
      rw [mo_eq]
      generalize hmo : LG.moF (roomI s c m) o i = mo at *
      refine ⟨_, rfl, .inl ⟨rfl, _, SqL.of k.e⟩, _, rfl, _, rfl, _, rfl, _, rfl, x, dx, _, rfl, hx, g2, x, dx, _, _, _, rfl, hx, _, rfl, _, rfl, x, dx, _, rfl, hx, g3, x, dx, _, _, _, rfl, hx, _, _, rfl, rfl,
        L2.wide_mul (a := 210) (b := 210) (Nat.lt_of_le_of_lt (show mo.natAbs ≤ 10 ^ 60 by omega) (by decide)) (Nat.lt_of_le_of_lt (show m.natAbs ≤ 10 ^ 40 by omega) (by decide)) (by decide) (by decide) (by decide), _, _, rfl, rfl, R, LG.restN c m (roomI s c m) o kvs i, c - mo * m, rfl, e4R, by rw [LG.restN_keys]; exact knd, by rw [LG.restN_len]; exact k8, fun p H5 np ep eR5 sR => ?_⟩
      generalize hmb : LG.moF (roomI s c m) b i = mb at *
      refine ⟨by show 3 ≤ sizeLine; decide, fun t nt => ?_⟩
      have s6 := same_upd (o := .tup [V.int mo, .int mb, .ref p]) nt
      have et := upd_same (H := H5) (a := t) (o := .tup [V.int mo, .int mb, .ref p])
      generalize upd H5 t (.tup [V.int mo, .int mb, .ref p]) = H6 at *
      have eL6 := s6 _ _ (sR _ _ nLR k.e)
      have tl : ts.length = i := by rw [k.lt, LG.ldF_len]
      have npR : p ≠ R := fun z => by rw [z, e4R] at np; cases np
      have ntR : t ≠ R := fun z => by rw [z, eR5] at nt; cases nt
      have nt4 : H4 t = none := by
        cases e : H4 t with
        | none => rfl
        | some u => rw [sR _ _ ntR e] at nt; cases nt
      have k6 : LG.LdsAt H6 L ts ds (LG.ldF c m (roomI s c m) o b kvs i) := k.mono fun a ha u e => s6 _ _ (sR a u (by
        rcases List.mem_cons.mp ha with h | h
        · rw [h]; exact nLR
        · exact (nw a h).2) e)
      have pds : p ∉ ds := fun hp => by
        obtain ⟨j, hj⟩ := List.getElem?_of_mem hp
        have jl := (List.getElem?_eq_some_iff.mp hj).1
        have ld := k.ld
        have lt := k.lt
        obtain ⟨_, e⟩ := k.row j _ p _ (List.getElem?_eq_getElem (by omega)) hj (List.getElem?_eq_getElem (by omega))
        rw [e] at np
        cases np
      have kk := k6.push (s6 _ _ ep) et pds
      refine ⟨L, _, _, rfl, rfl, eL6, by rw [List.length_map]; exact small2k (by omega), ⟨_, _, _, rfl⟩, ts ++ [t], ds ++ [p], ?_, ?_, fun a ha => ?_, fun a u e => ?_⟩
      · rw [LG.ldF_succ, hmo, hmb]
        have e : LG.partN c m (roomI s c m) o kvs i = LG.partT (c - mo * m) (LG.restN c m (roomI s c m) o kvs i) := by
          unfold LG.partN LG.wtF
          rw [hmo]
        rw [e]
        exact kk
      · rw [upd_ne (Ne.symm nLR), s6 _ _ eR5]
        show _ = some (HO.dK (sd (LG.restT (LG.wtF c m (roomI s c m) o i) (LG.restN c m (roomI s c m) o kvs i))))
        unfold LG.wtF
        rw [hmo]
      · simp only [List.mem_append, List.mem_singleton] at ha
        rcases ha with (h | h) | (h | h)
        · exact nw a (List.mem_append_left _ h)
        · rw [h]; exact ⟨s4.free nt4, ntR⟩
        · exact nw a (List.mem_append_right _ h)
        · rw [h]; exact ⟨s4.free np, npR⟩
      · rw [upd_ne (fun z => by rw [z, nL0] at e; cases e)]
        exact s6 _ _ (sR a u (fun z => by rw [z, nR] at e; cases e) (s4 _ _ e))
    · rintro σ H4 ⟨⟨x8, x9, x10, rfl⟩, ts, ds, k, e4R, nw, s4⟩
      refine ⟨_, rfl, q _ hn (by omega) L ts ds H4 (by rw [Int.toNat_natCast]; exact k) (fun a ha => ?_) s4⟩
      rcases List.mem_cons.mp ha with rfl | ha
      · exact nL0
      · exact (nw a ha).1
end
end K34
set_option Elab.async false
set_option linter.all false
set_option maxRecDepth 100000
set_option maxHeartbeats 1600000
set_option pp.maxSteps 300
namespace K34
open PySem PySem.Spec PyProof.Rows L2 LT NdefX
section
variable {P : Program} {w : World} {K : PySem.W.Frag} {mg : Str → Option Value} {base : Heap}
theorem vals3 {x y z : V} {us : List Value} (r : Vals [x, y, z] us) : ∃ u w' t', us = [u, w', t'] ∧ RelV x u ∧ RelV y w' ∧ RelV z t' := by
  cases r with
  | cons r1 r2 =>
    cases r2 with
    | cons r3 r4 =>
      cases r4 with
      | cons r5 r6 => cases r6; exact ⟨_, _, _, rfl, r1, r3, r5⟩
theorem call_max3 {X : Cx} (hc : X.calm = true) : CallR X (.builtin "max") (fun xs H Q => ∃ i j k, xs = [.int i, .int j, .int k] ∧ Q (.int (maxI (maxI i j) k)) H) := by
  intro pins s σ H xs us Q I r h
  obtain ⟨i, j, k, rfl, q⟩ := h
  obtain ⟨_, _, _, rfl, ⟨t, rfl⟩, ⟨t', rfl⟩, ⟨t'', rfl⟩⟩ := vals3 r
  refine max_three_ints (I.ok.hd hc) fun h' tk kk => ⟨_, H, I.kept kk, ?_, q⟩
  unfold maxI
  by_cases h1 : j > i
  · rw [if_pos h1, if_pos h1]
    by_cases h2 : k > j
    · rw [if_pos h2, if_pos h2]; exact ⟨_, rfl⟩
    · rw [if_neg h2, if_neg h2]; exact ⟨_, rfl⟩
  · rw [if_neg h1, if_neg h1]
    by_cases h2 : k > i
    · rw [if_pos h2, if_pos h2]; exact ⟨_, rfl⟩
    · rw [if_neg h2, if_neg h2]; exact ⟨_, rfl⟩
theorem parts_up {a b : Int} (hb : 1 ≤ b) : partsI a b = a / b + (if a % b > 0 then 1 else 0) := by
  unfold partsI
  have h1 := Int.emod_add_mul_ediv a b
  have h2 := Int.emod_nonneg a (show b ≠ 0 by omega)
  have h3 := Int.emod_lt_of_pos a (show 0 < b by omega)
  generalize a % b = r at *
  generalize a / b = q at *
  by_cases h : r > 0
  · rw [if_pos h, show a + b - 1 = (r - 1) + b * (q + 1) by rw [← h1, Int.mul_add]; omega, Int.add_mul_ediv_left _ _ (by omega), Int.ediv_eq_zero_of_lt (by omega) (by omega)]
    omega
  · rw [if_neg h, show a + b - 1 = (b - 1) + b * q by rw [← h1]; omega, Int.add_mul_ediv_left _ _ (by omega), Int.ediv_eq_zero_of_lt (by omega) (by omega)]
    omega
theorem parts_max {a b r : Int} (hr : 1 ≤ r) : partsI (maxI a b) r = maxI (partsI a r) (partsI b r) := by
  unfold maxI partsI
  by_cases h : b > a
  · rw [if_pos h]
    have := Int.ediv_le_ediv (show 0 < r by omega) (show a + r - 1 ≤ b + r - 1 by omega)
    split <;> omega
  · rw [if_neg h]
    have := Int.ediv_le_ediv (show 0 < r by omega) (show b + r - 1 ≤ a + r - 1 by omega)
    split <;> omega
theorem few_up {s c m o b k : Int} (N : N3 s c m) (o0 : 0 ≤ o) (b0 : 0 ≤ b) (k0 : 0 ≤ k) :
    fewI s c m o b k = if roomI s c m = 0 then (if 0 < o ∨ 0 < b then none else some (partsI k c)) else some (maxI (maxI (partsI o (roomI s c m)) (partsI b (roomI s c m))) (partsI (o * m + k) c)) := by
  have r0 := (room_bd N.s1 N.c1 N.m1).1
  unfold fewI
  by_cases h : o = 0 ∧ b = 0
  · obtain ⟨rfl, rfl⟩ := h
    rw [if_pos ⟨rfl, rfl⟩]
    by_cases hr : roomI s c m = 0
    · rw [if_pos hr, if_neg (by omega), Int.zero_mul, Int.zero_add]
    · rw [if_neg hr]
      have z : partsI 0 (roomI s c m) = 0 := by
        unfold partsI
        exact Int.ediv_eq_zero_of_lt (by omega) (by omega)
      have x0 : 0 ≤ partsI (0 * m + k) c := by
        rw [Int.zero_mul, Int.zero_add]
        exact Int.ediv_nonneg (by have := N.c1; omega) (by have := N.c1; omega)
      rw [z]
      show _ = some (maxI (maxI 0 0) _)
      have : maxI (maxI 0 0) (partsI (0 * m + k) c) = partsI (0 * m + k) c := by
        unfold maxI
        split <;> split <;> omega
      rw [this]
  · rw [if_neg h]
    by_cases hr : roomI s c m = 0
    · rw [if_pos hr, if_pos hr, if_pos (by omega)]
    · rw [if_neg hr, if_neg hr, parts_max (by omega)]
def spMen34 : Sp := fun vs H Q _ => ∃ (p : Addr) (r : Int), vs = [.ref p, .int r] ∧ Pot H p ∧ 0 ≤ r ∧ r ≤ 10 ^ 50 ∧ ∀ (d : Int) (H' : Hp), 0 ≤ d → d ≤ 10 ^ 60 → Pot H' p → SameB p H H' → Q (.int d) H'
def spUp : Sp := fun vs H Q _ => ∃ a b : Int, vs = [.int a, .int b] ∧ 1 ≤ b ∧ b ≤ 10 ^ 50 ∧ Q (.int (partsI a b)) H
def leastV : Option Int → V
  | some n => .int n
  | none => .non
def spFewest : Sp := fun vs H Q _ => ∃ (t : Addr) (s c m o b k : Int), vs = [.ref t, .int o, .int b, .int k] ∧ H t = some (.tup [.int s, .int c, .int m]) ∧ N3 s c m ∧ 0 ≤ o ∧ o ≤ 10 ^ 60 ∧ 0 ≤ b ∧ b ≤ 10 ^ 60 ∧ 0 ≤ k ∧ k ≤ 10 ^ 71 ∧ Q (leastV (fewI s c m o b k)) H
def spLeast : Sp := fun vs H Q _ => ∃ i j : Int, vs = [.int i, .int j] ∧ Q (.bl (decide (j ≤ i))) H
theorem sc__law_men : FnScope ["_law_pot_here", "_law_room_here", "_law_way"] ["_law_pot_here", "_law_room_here"] (defScope s__law_men) := ⟨rfl, rfl, rfl, by decide +kernel, rfl, by decide +kernel, by decide +kernel⟩
theorem ok__law_men (D : All K P mg) : FnOk P w K mg base CX0 3 D.f__law_men D.d__law_men ["_law_pot_here", "_law_room_here"] spMen34 := by
  refine D.h__law_men.fn.ok sc__law_men (fun vs H Q E h => ?_) (fun cdv A outer s H vs Q E hr h => ?_)
  · first | (obtain ⟨_, rfl, _⟩ := h; rfl) | (obtain ⟨_, _, rfl, _⟩ := h; rfl) | (obtain ⟨_, _, _, rfl, _⟩ := h; rfl) | (obtain ⟨_, _, _, _, rfl, _⟩ := h; rfl) | (obtain ⟨_, _, _, _, _, rfl, _⟩ := h; rfl) | (obtain ⟨_, _, _, _, _, _, rfl, _⟩ := h; rfl) | (obtain ⟨_, _, _, _, _, _, _, rfl, _⟩ := h; rfl) | (obtain ⟨_, _, _, _, _, _, _, _, rfl, _⟩ := h; rfl) | (obtain ⟨_, _, _, _, _, _, _, _, _, rfl, _⟩ := h; rfl) | (obtain ⟨_, _, _, _, _, _, _, _, _, _, rfl, _⟩ := h; rfl) | (obtain ⟨_, _, _, _, _, _, _, _, _, _, _, rfl, _⟩ := h; rfl) | (obtain ⟨_, _, _, _, _, _, _, _, _, _, _, _, rfl, _⟩ := h; rfl) | (obtain ⟨_, _, _, _, _, _, _, _, _, _, _, _, _, rfl, _⟩ := h; rfl) | (obtain ⟨_, _, _, _, _, _, _, _, _, _, _, _, _, _, rfl, _⟩ := h; rfl) | (obtain ⟨_, _, _, _, _, _, _, _, _, _, _, _, _, _, _, rfl, _⟩ := h; rfl)
  · have T := D.T
    have nd := sc__law_men.nd
    have hu := hr.units
    have hu1 := hu_of hr
    have hu0 := hr.units0
    obtain ⟨p, r, rfl, hp, r0, r1, q⟩ := h
    refine ⟨_, pss_cons (ps_set (i := 2) nd rfl (.inl rfl) (pe_call (ok__law_take D) (hr.mono (by decide)) (by rfl) D.h__law_take.gl D.h__law_take.fn.kp D.h__law_take.bd .nil pass0 (pa_cons (pv 0) (pa_cons pe_int pa_nil))))
      (pss_one (ps_ret (pe_ix ix_list (pe_lst (pa_cons (pe_call (ok__law_take D) (hr.mono (by decide)) (by rfl) D.h__law_take.gl D.h__law_take.fn.kp D.h__law_take.bd .nil pass0 (pa_cons (pv 0) (pa_cons pe_int pa_nil))) (pa_cons pe_int (pa_cons (pe_call (ok__law_take D) (hr.mono (by decide)) (by rfl) D.h__law_take.gl D.h__law_take.fn.kp D.h__law_take.bd .nil pass0 (pa_cons (pv 0) (pa_cons pe_int pa_nil))) (pa_cons (pe_call (ok__law_far D) (hr.mono (by decide)) (by rfl) D.h__law_far.gl D.h__law_far.fn.kp D.h__law_far.bd .nil pass0 (pa_cons (pv 0) pa_nil)) (pa_cons (pe_op op_mulW (pv 1) pe_int) (pa_cons (pe_op op_add (pe_op op_mulW (pv 1) pe_int) pe_int) pa_nil))))))) (pv 2) (fun _ _ => rfl)))), ?_⟩
    refine ⟨_, rfl, p, 6, rfl, hp, by decide, by decide, fun way H1 w0 w1 hp1 sb1 => ?_⟩
    refine ⟨_, rfl, p, 41, rfl, hp1, by decide, by decide, fun a H2 a0 a1 hp2 sb2 => ?_⟩
    refine ⟨_, rfl, p, 41, rfl, hp2, by decide, by decide, fun b H3 b0 b1 hp3 sb3 => ?_⟩
    refine ⟨_, rfl, p, rfl, hp3, fun c H4 c0 c1 hp4 sb4 => ?_⟩
    have cm : CMulW r 300 := wide_mul (a := 170) (b := 10) (Nat.lt_of_le_of_lt (show r.natAbs ≤ 10 ^ 50 by omega) (by decide)) (by decide) (by decide) (by decide) (by decide)
    have sbA := ((sb1.trans sb2).trans sb3).trans sb4
    refine ⟨_, rfl, _, _, rfl, rfl, cm, _, rfl, _, _, rfl, rfl, cm, _, _, rfl, rfl, by show 6 ≤ sizeLine; decide, fun l nl => ?_⟩
    have s6 := same_upd (o := .lst [V.int a, .int 0, .int b, .int c, .int (r * 300), .int (r * 300 + 1)]) nl
    obtain ⟨d, ed, d0, d1⟩ : ∃ d : Int, atI [V.int a, .int 0, .int b, .int c, .int (r * 300), .int (r * 300 + 1)] way = some (.int d) ∧ 0 ≤ d ∧ d ≤ 10 ^ 60 := by
      have hd : way = 0 ∨ way = 1 ∨ way = 2 ∨ way = 3 ∨ way = 4 ∨ way = 5 := by omega
      rcases hd with rfl | rfl | rfl | rfl | rfl | rfl
      · exact ⟨a, rfl, a0, by omega⟩
      · exact ⟨0, rfl, by decide, by decide⟩
      · exact ⟨b, rfl, b0, by omega⟩
      · exact ⟨c, rfl, by omega, by omega⟩
      · exact ⟨r * 300, rfl, by omega, by omega⟩
      · exact ⟨r * 300 + 1, rfl, by omega, by omega⟩
    refine ⟨_, rfl, l, _, way, .int d, rfl, rfl, SqL.of upd_same, ed, ?_⟩
    exact q d _ d0 d1 (hp4.mono s6) (sbA.trans (SameB.of s6))
theorem sc__law_up : FnScope ["_law_many", "_law_by"] ["_law_many", "_law_by"] (defScope s__law_up) := ⟨rfl, rfl, rfl, by decide +kernel, rfl, by decide +kernel, by decide +kernel⟩
theorem ok__law_up (D : All K P mg) : FnOk P w K mg base CX0 1 D.f__law_up D.d__law_up ["_law_many", "_law_by"] spUp := by
  refine D.h__law_up.fn.ok sc__law_up (fun vs H Q E h => ?_) (fun cdv A outer s H vs Q E hr h => ?_)
  · first | (obtain ⟨_, rfl, _⟩ := h; rfl) | (obtain ⟨_, _, rfl, _⟩ := h; rfl) | (obtain ⟨_, _, _, rfl, _⟩ := h; rfl) | (obtain ⟨_, _, _, _, rfl, _⟩ := h; rfl) | (obtain ⟨_, _, _, _, _, rfl, _⟩ := h; rfl) | (obtain ⟨_, _, _, _, _, _, rfl, _⟩ := h; rfl) | (obtain ⟨_, _, _, _, _, _, _, rfl, _⟩ := h; rfl) | (obtain ⟨_, _, _, _, _, _, _, _, rfl, _⟩ := h; rfl) | (obtain ⟨_, _, _, _, _, _, _, _, _, rfl, _⟩ := h; rfl) | (obtain ⟨_, _, _, _, _, _, _, _, _, _, rfl, _⟩ := h; rfl) | (obtain ⟨_, _, _, _, _, _, _, _, _, _, _, rfl, _⟩ := h; rfl) | (obtain ⟨_, _, _, _, _, _, _, _, _, _, _, _, rfl, _⟩ := h; rfl) | (obtain ⟨_, _, _, _, _, _, _, _, _, _, _, _, _, rfl, _⟩ := h; rfl) | (obtain ⟨_, _, _, _, _, _, _, _, _, _, _, _, _, _, rfl, _⟩ := h; rfl) | (obtain ⟨_, _, _, _, _, _, _, _, _, _, _, _, _, _, _, rfl, _⟩ := h; rfl)
  · have T := D.T
    have nd := sc__law_up.nd
    have hu := hr.units
    have hu1 := hu_of hr
    have hu0 := hr.units0
    obtain ⟨a, b, rfl, b0, b1, q⟩ := h
    refine ⟨_, pss_one (ps_ret (pe_op op_add (pe_op op_fdivW (pv 0) (pv 1)) (pe_callTy call_int1 (by rfl) T.int (by decide +kernel) (pa_cons (pe_cmpR op_gt (pe_op op_mod (pv 0) (pv 1)) pe_int (nomark _)) pa_nil)))), ?_⟩
    have wd : CDivW a b := wide_div (b := 210) (by omega) (Nat.lt_of_le_of_lt (show b.natAbs ≤ 10 ^ 50 by omega) (by decide)) (by decide) (by decide)
    rw [parts_up b0] at q
    refine ⟨_, rfl, _, rfl, _, _, rfl, rfl, wd, _, rfl, _, rfl, _, _, rfl, rfl, by omega, _, _, rfl, rfl, .inr ⟨_, rfl, ?_⟩⟩
    refine ⟨_, _, rfl, rfl, ?_⟩
    have e : (if decide (0 < a % b) = true then (1 : Int) else 0) = (if a % b > 0 then 1 else 0) := by
      by_cases h : 0 < a % b
      · rw [if_pos (decide_eq_true h), if_pos h]
      · rw [if_neg (by rw [decide_eq_false h]; nofun), if_neg h]
    rw [e]
    exact q
theorem sc__law_fewest : FnScope ["_law_ship", "_law_away", "_law_home", "_law_weight", "_law_room_here"] ["_law_ship", "_law_away", "_law_home", "_law_weight"] (defScope s__law_fewest) := ⟨rfl, rfl, rfl, by decide +kernel, rfl, by decide +kernel, by decide +kernel⟩
theorem ok__law_fewest (D : All K P mg) : FnOk P w K mg base CX0 2 D.f__law_fewest D.d__law_fewest ["_law_ship", "_law_away", "_law_home", "_law_weight"] spFewest := by
  refine D.h__law_fewest.fn.ok sc__law_fewest (fun vs H Q E h => ?_) (fun cdv A outer s H vs Q E hr h => ?_)
  · first | (obtain ⟨_, rfl, _⟩ := h; rfl) | (obtain ⟨_, _, rfl, _⟩ := h; rfl) | (obtain ⟨_, _, _, rfl, _⟩ := h; rfl) | (obtain ⟨_, _, _, _, rfl, _⟩ := h; rfl) | (obtain ⟨_, _, _, _, _, rfl, _⟩ := h; rfl) | (obtain ⟨_, _, _, _, _, _, rfl, _⟩ := h; rfl) | (obtain ⟨_, _, _, _, _, _, _, rfl, _⟩ := h; rfl) | (obtain ⟨_, _, _, _, _, _, _, _, rfl, _⟩ := h; rfl) | (obtain ⟨_, _, _, _, _, _, _, _, _, rfl, _⟩ := h; rfl) | (obtain ⟨_, _, _, _, _, _, _, _, _, _, rfl, _⟩ := h; rfl) | (obtain ⟨_, _, _, _, _, _, _, _, _, _, _, rfl, _⟩ := h; rfl) | (obtain ⟨_, _, _, _, _, _, _, _, _, _, _, _, rfl, _⟩ := h; rfl) | (obtain ⟨_, _, _, _, _, _, _, _, _, _, _, _, _, rfl, _⟩ := h; rfl) | (obtain ⟨_, _, _, _, _, _, _, _, _, _, _, _, _, _, rfl, _⟩ := h; rfl) | (obtain ⟨_, _, _, _, _, _, _, _, _, _, _, _, _, _, _, rfl, _⟩ := h; rfl)
  · have T := D.T
    have nd := sc__law_fewest.nd
    have hu := hr.units
    have hu1 := hu_of hr
    have hu0 := hr.units0
    obtain ⟨t, s, c, m, o, b, k, rfl, et, N, o0, o1, b0, b1, k0, k1, q⟩ := h
    refine ⟨_, pss_cons (ps_set (i := 4) nd rfl (.inl rfl) (pe_call (ok__law_room D) (hr.mono (by decide)) (by rfl) D.h__law_room.gl D.h__law_room.fn.kp D.h__law_room.bd .nil pass0 (pa_cons (pv 0) pa_nil)))
      (pss_cons (ps_if (pt_cmpR op_eq (pv 4) pe_int (nomark _)) (pss_one (ps_ret (pe_ifExp (PW.pt (pw_or (pt_cmpR op_gt (pv 1) pe_int (nomark _)) (pw_or1 (pt_cmpR op_gt (pv 2) pe_int (nomark _))))) pe_non (pe_call (ok__law_up D) (hr.mono (by decide)) (by rfl) D.h__law_up.gl D.h__law_up.fn.kp D.h__law_up.bd .nil pass0 (pa_cons (pv 3) (pa_cons (pe_ix ix_tup (pv 0) pe_int (fun _ _ => rfl)) pa_nil)))))) pss_nil)
      (pss_one (ps_ret (pe_callB (call_max3 rfl) (by rfl) T.max (by decide +kernel) (pa_cons (pe_call (ok__law_up D) (hr.mono (by decide)) (by rfl) D.h__law_up.gl D.h__law_up.fn.kp D.h__law_up.bd .nil pass0 (pa_cons (pv 1) (pa_cons (pv 4) pa_nil))) (pa_cons (pe_call (ok__law_up D) (hr.mono (by decide)) (by rfl) D.h__law_up.gl D.h__law_up.fn.kp D.h__law_up.bd .nil pass0 (pa_cons (pv 2) (pa_cons (pv 4) pa_nil))) (pa_cons (pe_call (ok__law_up D) (hr.mono (by decide)) (by rfl) D.h__law_up.gl D.h__law_up.fn.kp D.h__law_up.bd .nil pass0 (pa_cons (pe_op op_add (pe_op op_mulW (pv 1) (pe_ix ix_tup (pv 0) pe_int (fun _ _ => rfl))) (pv 3)) (pa_cons (pe_ix ix_tup (pv 0) pe_int (fun _ _ => rfl)) pa_nil))) pa_nil))))))), ?_⟩
    obtain ⟨r0, rs⟩ := room_bd N.s1 N.c1 N.m1
    have := N.s2
    have := N.c1
    have := N.c2
    have := N.m1
    have := N.m2
    rw [few_up N o0 b0 k0] at q
    refine ⟨_, rfl, t, s, c, m, rfl, et, N, ?_⟩
    have wk : ∀ {x : Int}, CMulW o m := fun {_} => wide_mul (a := 210) (b := 150) (Nat.lt_of_le_of_lt (show o.natAbs ≤ 10 ^ 60 by omega) (by decide)) (Nat.lt_of_le_of_lt (show m.natAbs ≤ 10 ^ 40 by omega) (by decide)) (by decide) (by decide) (by decide)
    refine ⟨_, rfl, rfl, _, rfl, ?_⟩
    by_cases hr : roomI s c m = 0
    · rw [if_pos hr] at q
      rw [decide_eq_true (show V.int (roomI s c m) = V.int 0 by rw [hr])]
      refine iteT ⟨_, rfl, o, 0, rfl, rfl, _, rfl, ?_⟩
      have fin : (0 < o ∨ 0 < b) → Q .non H := fun h => by rw [if_pos h] at q; exact q
      by_cases ho : 0 < o
      · rw [decide_eq_true ho]
        exact fin (.inl ho)
      · rw [decide_eq_false ho]
        refine ⟨_, rfl, b, 0, rfl, rfl, _, rfl, ?_⟩
        by_cases hb : 0 < b
        · rw [decide_eq_true hb]
          exact fin (.inr hb)
        · rw [decide_eq_false hb]
          rw [if_neg (by omega)] at q
          exact ⟨_, rfl, _, rfl, t, _, 1, _, rfl, rfl, SqT.of et, atI_nat (j := 1) rfl, k, c, rfl, N.c1, by omega, q⟩
    · rw [if_neg hr] at q
      rw [decide_eq_false (show ¬ V.int (roomI s c m) = V.int 0 from fun e => hr (V.int.inj e))]
      refine iteF ⟨_, rfl, _, rfl, o, _, rfl, by omega, by omega, _, rfl, _, rfl, b, _, rfl, by omega, by omega, _, rfl, _, rfl, t, _, 2, _, rfl, rfl, SqT.of et, atI_nat (j := 2) rfl, _, _, rfl, rfl, wk (x := 0), _, rfl, _, _, rfl, rfl, _, rfl, t, _, 1, _, rfl, rfl, SqT.of et, atI_nat (j := 1) rfl, _, c, rfl, N.c1, by omega, _, _, _, rfl, q⟩
theorem sc__law_is_whole : FnScope ["_law_thing", "_law_least"] ["_law_thing", "_law_least"] (defScope s__law_is_whole) := ⟨rfl, rfl, rfl, by decide +kernel, rfl, by decide +kernel, by decide +kernel⟩
theorem ok__law_is_whole (D : All K P mg) : FnOk P w K mg base CX0 1 D.f__law_is_whole D.d__law_is_whole ["_law_thing", "_law_least"] spLeast := by
  refine D.h__law_is_whole.fn.ok sc__law_is_whole (fun vs H Q E h => ?_) (fun cdv A outer s H vs Q E hr h => ?_)
  · first | (obtain ⟨_, rfl, _⟩ := h; rfl) | (obtain ⟨_, _, rfl, _⟩ := h; rfl) | (obtain ⟨_, _, _, rfl, _⟩ := h; rfl) | (obtain ⟨_, _, _, _, rfl, _⟩ := h; rfl) | (obtain ⟨_, _, _, _, _, rfl, _⟩ := h; rfl) | (obtain ⟨_, _, _, _, _, _, rfl, _⟩ := h; rfl) | (obtain ⟨_, _, _, _, _, _, _, rfl, _⟩ := h; rfl) | (obtain ⟨_, _, _, _, _, _, _, _, rfl, _⟩ := h; rfl) | (obtain ⟨_, _, _, _, _, _, _, _, _, rfl, _⟩ := h; rfl) | (obtain ⟨_, _, _, _, _, _, _, _, _, _, rfl, _⟩ := h; rfl) | (obtain ⟨_, _, _, _, _, _, _, _, _, _, _, rfl, _⟩ := h; rfl) | (obtain ⟨_, _, _, _, _, _, _, _, _, _, _, _, rfl, _⟩ := h; rfl) | (obtain ⟨_, _, _, _, _, _, _, _, _, _, _, _, _, rfl, _⟩ := h; rfl) | (obtain ⟨_, _, _, _, _, _, _, _, _, _, _, _, _, _, rfl, _⟩ := h; rfl) | (obtain ⟨_, _, _, _, _, _, _, _, _, _, _, _, _, _, _, rfl, _⟩ := h; rfl)
  · have T := D.T
    have nd := sc__law_is_whole.nd
    have hu := hr.units
    have hu1 := hu_of hr
    have hu0 := hr.units0
    obtain ⟨i, j, rfl, q⟩ := h
    refine ⟨_, pss_one (ps_ret (pe_and (pe_callB call_isi (by rfl) T.isi (by decide +kernel) (pa_cons (pv 0) (pa_cons (pe_bltn (v := .ty "int") (by rfl) T.int (by decide +kernel) rfl) pa_nil))) (pe_and (pe_not (pe_callB call_isi (by rfl) T.isi (by decide +kernel) (pa_cons (pv 0) (pa_cons (pe_bltn (v := .ty "bool") (by rfl) T.bool (by decide +kernel) rfl) pa_nil)))) (pe_one (pe_cmpR op_ge (pv 0) (pv 1) (nomark _)))))), ?_⟩
    refine ⟨_, rfl, .int i, .ty "int", _, _, true, rfl, .ty _, .base (.int i), kit_ty (show kitB "int" "int" = some true by decide +kernel), _, rfl, ?_⟩
    refine ⟨_, rfl, .int i, .ty "bool", _, _, false, rfl, .ty _, .base (.int i), kit_ty (show kitB "int" "bool" = some false by decide +kernel), _, rfl, ?_⟩
    exact ⟨_, rfl, _, rfl, _, rfl, i, j, rfl, rfl, q⟩
end
end K34
set_option Elab.async false
set_option linter.all false
set_option maxRecDepth 100000
set_option maxHeartbeats 1600000
/-! Own layer: sorted of a list of tuples of whole numbers, texts, None. -/
namespace LT
open PySem PySem.Spec PyProof.Rows L2
/-! ### a walk over the items of a dict that has just been made -/
end LT
set_option Elab.async false
set_option linter.all false
set_option maxRecDepth 100000
set_option maxHeartbeats 1600000
/-! Own layer: who keeps at a place on a day, in order of charge; who came and went. -/
namespace LT
open PySem PySem.Spec PyProof.Rows L2 NdefX
abbrev Chg3 := Int × Int × Str
def c3K (t : Chg3) : List V := [.int t.1, .int t.2.1, .str t.2.2]
def C3T (H : Hp) (t : Addr) (c : Chg3) : Prop := H t = some (.tup (c3K c))
theorem C3T.mono {H H' : Hp} {t : Addr} {c : Chg3} (h : C3T H t c) (s : Same H H') : C3T H' t c := s _ _ h
/-! ### charges -/
/-! ### names -/
open Classical in
noncomputable def srtN (ks : List Str) : List Str := if h : ∃ l : List Str, l.Perm ks ∧ sortedS l = true then Classical.choose h else ks
noncomputable def whN (es : List Evt) (w : Str) (z : Str) (kn : Option Int) (d : Int) : Bool := decide (plE es w kn d = .str z)
noncomputable def namesF (ks : List Str) (es : List Evt) (z : Str) (d : Int) (kn : Option Int) : List Str := (srtN ks).filter fun w => whN es w z kn d
noncomputable def beforeF (ks : List Str) (es : List Evt) (z : Str) (d : Int) (kn : Option Int) : List Str := if d = 0 then [] else namesF ks es z (d - 1) kn
noncomputable def cameF (ks : List Str) (es : List Evt) (z : Str) (d : Int) (kn : Option Int) : List Str := (namesF ks es z d kn).filter fun w => !inV (.str w) ((beforeF ks es z d kn).map V.str)
noncomputable def wentF (ks : List Str) (es : List Evt) (z : Str) (d : Int) (kn : Option Int) : List Str := (beforeF ks es z d kn).filter fun w => !inV (.str w) ((namesF ks es z d kn).map V.str)
end LT
set_option Elab.async false
set_option linter.all false
set_option maxRecDepth 100000
set_option maxHeartbeats 1600000
/-! Own layer: what many looks show, as texts. -/
namespace LT
open PySem PySem.Spec PyProof.Rows L2 NdefX
/-- a thing in the list at F shows so -/
def It (CS : Addr) (H : Hp) (F : Addr) (v : V) (t : Str) : Prop := ∃ as, ShV CS (spSRepr CS) H 4 as v t ∧ F ∉ as ∧ t.length ≤ 1100000
end LT
set_option Elab.async false
set_option linter.all false
set_option maxRecDepth 100000
set_option maxHeartbeats 1600000
/-! Own layer: a boat beside a book; landing. -/
namespace LT
open PySem PySem.Spec PyProof.Rows L2 NdefX
structure BtL (C : Addr) (H : Hp) (x : Addr) (s c m : Int) : Prop where
  at_ : ∃ dx, H x = some (.ins C dx [("many_seats", .int s), ("most_weight", .int c), ("man_weight", .int m)])
  s1 : 1 ≤ s
  c1 : 1 ≤ c
  m1 : 1 ≤ m
  s2 : s ≤ 10 ^ 60
  c2 : c ≤ 10 ^ 60
  m2 : m ≤ 10 ^ 60
theorem BtL.mono {C : Addr} {H H' : Hp} {x : Addr} {s c m : Int} (h : BtL C H x s c m) (e : Same H H') : BtL C H' x s c m := by
  obtain ⟨⟨dx, h1⟩, a, b, c, d, e', f⟩ := h
  exact ⟨⟨dx, e _ _ h1⟩, a, b, c, d, e', f⟩
def roomL (s c m : Int) : Int := if c / m < s then c / m else s
def partsL (m k : Int) : Int := (m + k - 1) / k
def maxL (a b : Int) : Int := if b > a then b else a
def fewL (s c m o b k : Int) : Int := if o = 0 ∧ b = 0 then partsL (o * m + k) c else maxL (partsL (maxL o b) (roomL s c m)) (partsL (o * m + k) c)
/-- what is landed, as a number -/
def landI (es : List Evt) (z : Str) (kn : Option Int) (d : Int) : Int := numI ((heldO es false z kn d).getD (.int 0))
noncomputable def outI (es : List Evt) (ks : List Str) (z : Str) (d : Int) (kn : Option Int) : Int := ((cameF ks es z d kn).length : Nat)
noncomputable def backI (es : List Evt) (ks : List Str) (z : Str) (d : Int) (kn : Option Int) : Int := ((wentF ks es z d kn).length : Nat)
noncomputable def fewI (s c m : Int) (es : List Evt) (ks : List Str) (z : Str) (d : Int) (kn : Option Int) : Int := fewL s c m (outI es ks z d kn) (backI es ks z d kn) (landI es z kn d)
end LT
set_option Elab.async false
set_option linter.all false
set_option maxRecDepth 100000
set_option maxHeartbeats 1600000
/-! Own layer: landing, where a boat may be too small. -/
namespace LT
open PySem PySem.Spec PyProof.Rows L2 NdefX
end LT
set_option Elab.async false
set_option linter.all false
set_option maxRecDepth 100000
set_option maxHeartbeats 1600000
/-! Own layer: within a try: calls with defaults, by keywords. -/
namespace LT
open PySem PySem.Spec PyProof.Rows L2
section
variable {X : Cx} {CX : CXT} {k n : Nat} {f C : Addr} {fd : FuncData} {ps ks : List Str} {sp : Sp} {dvs : List V} {ds : List Value} {E : L2.St → XK} {x m : Str} {p pos apos : Pos} {e o : Expr} {es : List Expr} {kws : List Keyword} {ta : TE} {t tk : TA}
  {g : List Value → List Value → List Value} {gV : List V → List V → List V}
theorem run_fnSD {pins : List (Addr × Obj)} {σ : L2.St} {H : Hp} {s : Shared} {Q : VK} {us : List Value} {vs : List V} (F : FnOk X.prog X.w X.K X.mg X.base CX k f fd ps sp) (hr : Room k X.A) (hb : L2.Binds X.K fd ps ds) (hd : Vals dvs ds) (hx : PassesAt CX X σ (E σ))
    (I : Inv X pins σ H s) (r : Vals vs us) (h : sp (vs ++ dvs) H Q (E σ)) : wpAny (model X.prog X.w) X.A (call (.ref f) us) (EP X pins σ Q) X.xe s := by
  have r2 : Vals (vs ++ dvs) (us ++ ds) := r.append hd
  have hl : (us ++ ds).length = ps.length := by rw [← r2.length]; exact F.len _ _ _ _ h
  refine wpAny_call (codeAny_mono (F.run X.A X.stack s H ⟨us, []⟩ (us ++ ds) (vs ++ dvs) Q (E σ) hr I.env0 (hb s us I.kIn hl) r2 h) fun r s' hq => ?_)
  cases r with
  | error e => exact hx pins H s e s' I hq
  | ok fl =>
    cases fl with
    | ret u => exact I.after hq
    | next => exact False.elim hq
    | brk => exact False.elim hq
    | cont => exact False.elim hq
def tCallSD (sp : Sp) (dvs : List V) (E : L2.St → XK) (t : TA) : TE := fun σ H Q => t σ H fun vs H1 => sp (vs ++ dvs) H1 Q (E σ)
theorem pe_callSD (F : FnOk X.prog X.w X.K X.mg X.base CX k f fd ps sp) (hr : Room k X.A) (hg : Gl X x) (hm : X.mg x = some (.ref f)) (hk : PySem.W.keepIn X.K (.ref f) = true) (hb : L2.Binds X.K fd ps ds) (hd : Vals dvs ds) (hx : ∀ σ, PassesAt CX X σ (E σ))
    (ha : PA X (e :: es) t) (hdb : (x == ("__debug__" : Str)) = false := by decide) (he : starEach (e :: es) X.env = (false, eval e X.env) :: starEach es X.env := by rfl) (hpl : (backTo pos (starEach es X.env)).any (·.1) = false := by rfl) :
    PE X (.Call (.Name x p) (e :: es) [] pos) (tCallSD sp dvs E t) := by
  refine ⟨fun pins s σ H Q I h => ?_⟩
  refine wpAny_Call_Name_kw (ld_glob I hg hm ?_ hdb)
  refine PySem.W.callWith_K (h₀ := X.base) I.ok.mod.kin hk (thn (ha.run pos pins s σ H _ I h) fun us s1 ⟨vs, H1, I1, r, q⟩ => ⟨I1.kIn, ?_⟩) he hpl
  exact run_fnSD F hr hb hd (hx σ) I1 r q
end
/-! ### what a landing tells -/
def ToldAt (H : Hp) (v : V) (o l b : Int) : Option Int → Prop
  | none => ∃ a, v = .ref a ∧ H a = some (.lst [.bl true, .bl true, .bl true, .bl false])
  | some n => ∃ t, v = .ref t ∧ H t = some (.tup [.int o, .int l, .int b, .int n])
theorem ToldAt.mono {H H' : Hp} {v : V} {o l b : Int} {n : Option Int} (h : ToldAt H v o l b n) (s : Same H H') : ToldAt H' v o l b n := by
  cases n with
  | none =>
    obtain ⟨a, e, h⟩ := h
    exact ⟨a, e, s _ _ h⟩
  | some n =>
    obtain ⟨a, e, h⟩ := h
    exact ⟨a, e, s _ _ h⟩
theorem ToldAt.keep {H : Hp} {a T : Addr} {b l o : Int} {n : Option Int} {x : HO} (h : ToldAt H (.ref a) o l b n) (ne : a ≠ T) : ToldAt (L2.upd H T x) (.ref a) o l b n := by
  cases n with
  | none =>
    obtain ⟨a', e, h⟩ := h
    cases e
    exact ⟨a, rfl, by rw [upd_ne ne]; exact h⟩
  | some n =>
    obtain ⟨a', e, h⟩ := h
    cases e
    exact ⟨a, rfl, by rw [upd_ne ne]; exact h⟩
def toldD (o l b : Int) : Option Int → PyData
  | none => .list [.bool true, .bool true, .bool true, .bool false]
  | some n => .tuple [.int o, .int l, .int b, .int n]
theorem ToldAt.dp {K : PySem.W.Frag} {H : Hp} {v : V} {o l b : Int} {n : Option Int} (h : ToldAt H v o l b n) : Dp K H v (toldD o l b n) := by
  cases n with
  | none =>
    obtain ⟨a, rfl, e⟩ := h
    exact .lst (SqL.of e) (.cons (.bl _) (.cons (.bl _) (.cons (.bl _) (.cons (.bl _) .nil))))
  | some n =>
    obtain ⟨a, rfl, e⟩ := h
    exact .tup (SqT.of e) (.cons (.int _) (.cons (.int _) (.cons (.int _) (.cons (.int _) .nil))))
/-! ### boats that a law draws; what so many goings can do -/
end LT
set_option Elab.async false
set_option linter.all false
set_option maxRecDepth 100000
set_option maxHeartbeats 1600000
set_option pp.maxSteps 300
namespace K34
open PySem PySem.Spec PyProof.Rows L2 LT NdefX
section
variable {P : Program} {w : World} {K : PySem.W.Frag} {mg : Str → Option Value} {base : Heap}
structure EK (D : All K P mg) (C : Addr) (sm tm : Bool) : Prop where
  x : ExcC K C
  kW : PySem.W.kitOne K (.ref C) (.ref D.C_Wrong) = some false
  kC : PySem.W.kitOne K (.ref C) (.ref D.C_Clash) = some false
  kE : PySem.W.kitOne K (.ref C) (.ref D.C_Early) = some false
  kN : PySem.W.kitOne K (.ref C) (.ref D.C_NoWeather) = some false
  kS : PySem.W.kitOne K (.ref C) (.ref D.C_Small) = some sm
  kT : PySem.W.kitOne K (.ref C) (.ref D.C_TooMany) = some tm
  kB : PySem.W.kitOne K (.ref C) (.ref D.C_Barred) = some true
  kV : PySem.W.kitOne K (.ref C) (.type "ValueError") = some true
  ca : PySem.W.exmOne K (.ref C) (.ref D.C_LightsError) = some true
theorem ekS (D : All K P mg) : EK D D.C_Small true false := ⟨D.x_Small, D.kit_Small_Wrong, D.kit_Small_Clash, D.kit_Small_Early, D.kit_Small_NoWeather, D.kit_Small_Small, D.kit_Small_TooMany, D.kit_Small_Barred, D.kv_Small, D.exm_Small_LightsError⟩
theorem ekT (D : All K P mg) : EK D D.C_TooMany false true := ⟨D.x_TooMany, D.kit_TooMany_Wrong, D.kit_TooMany_Clash, D.kit_TooMany_Early, D.kit_TooMany_NoWeather, D.kit_TooMany_Small, D.kit_TooMany_TooMany, D.kit_TooMany_Barred, D.kv_TooMany, D.exm_TooMany_LightsError⟩
def wordV (sm : Bool) : V := .str (Str.ofString (if sm then "small" else "many"))
def spWord (D : All K P mg) : Addr × Obj → Sp := fun p vs H Q _ => ∃ C sm, EK D C sm (!sm) ∧ vs = [.ref p.1] ∧ Zc (.ref C) none p.2 ∧ (∃ us, p.2.data = .fields us) ∧ ∀ H', Same H H' → Q (wordV sm) H'
theorem sc__law_word : FnScope ["_law_e", "_law_other", "_law_both"] ["_law_e"] (defScope s__law_word) := ⟨rfl, rfl, rfl, by decide +kernel, rfl, by decide +kernel, by decide +kernel⟩
theorem ok__law_word (D : All K P mg) : FnE P w K mg base 1 D.f__law_word D.d__law_word ["_law_e"] (spWord D) := by
  refine okE D.h__law_word.fn sc__law_word (fun h => ?_) (fun cdv A outer s H vs Q E p hr h => ?_)
  · obtain ⟨_, _, _, rfl, _⟩ := h
    rfl
  · obtain ⟨a, oe⟩ := p
    obtain ⟨C, sm, R, rfl, hz, hf, q⟩ := h
    have nd := sc__law_word.nd
    have T := D.T
    refine ⟨_, pss_cons (ps_set (i := 1) nd rfl (.inl rfl) (pe_callB (call_isPT (a := a) (oe := oe) List.mem_cons_self R.x hz hf) (by rfl) T.isi (by decide +kernel) (pa_cons (pv 0) (pa_cons
        (pe_tup (pa_cons (pe_glob (v := .ref D.C_Wrong) (by rfl) D.g_Wrong rfl) (pa_cons (pe_glob (v := .ref D.C_Clash) (by rfl) D.g_Clash rfl) (pa_cons (pe_glob (v := .ref D.C_Early) (by rfl) D.g_Early rfl) (pa_cons (pe_glob (v := .ref D.C_NoWeather) (by rfl) D.g_NoWeather rfl) pa_nil))))) pa_nil))))
      (pss_cons (ps_set (i := 2) nd rfl (.inl rfl) (pe_and (pe_callB (call_isP (a := a) (oe := oe) List.mem_cons_self R.x hz hf) (by rfl) T.isi (by decide +kernel) (pa_cons (pv 0) (pa_cons (pe_glob (v := .ref D.C_Small) (by rfl) D.g_Small rfl) pa_nil)))
        (pe_one (pe_callB (call_isP (a := a) (oe := oe) List.mem_cons_self R.x hz hf) (by rfl) T.isi (by decide +kernel) (pa_cons (pv 0) (pa_cons (pe_glob (v := .ref D.C_TooMany) (by rfl) D.g_TooMany rfl) pa_nil))))))
      (pss_cons (ps_if (PW.pt (pw_or (pt_val (pv 1)) (pw_or (pt_val (pv 2)) (pw_or (pt_not (pt_val (pe_callB (call_isP (a := a) (oe := oe) List.mem_cons_self R.x hz hf) (by rfl) T.isi (by decide +kernel) (pa_cons (pv 0) (pa_cons (pe_glob (v := .ref D.C_Barred) (by rfl) D.g_Barred rfl) pa_nil)))))
          (pw_or1 (pt_not (pt_val (pe_callB (call_isP (a := a) (oe := oe) List.mem_cons_self R.x hz hf) (by rfl) T.isi (by decide +kernel) (pa_cons (pv 0) (pa_cons (pe_bltn (v := .ty "ValueError") (by rfl) T.ve (by decide +kernel) rfl) pa_nil)))))))))) (pss_one (ps_ret pe_str)) pss_nil)
      (pss_one (ps_ret (pe_ix ix_list (pe_lst (pa_cons pe_str (pa_cons pe_str pa_nil))) (pe_callTy call_int1 (by rfl) T.int (by decide +kernel) (pa_cons (pe_callB (call_isP (a := a) (oe := oe) List.mem_cons_self R.x hz hf) (by rfl) T.isi (by decide +kernel) (pa_cons (pv 0) (pa_cons (pe_glob (v := .ref D.C_Small) (by rfl) D.g_Small rfl) pa_nil))) pa_nil)) (fun _ _ => rfl)))))), ?_⟩
    refine ⟨_, rfl, by show 4 ≤ sizeLine; decide, fun tp ntp => ?_⟩
    have s1 := same_upd (o := .tup [V.ref D.C_Wrong, V.ref D.C_Clash, V.ref D.C_Early, V.ref D.C_NoWeather]) ntp
    refine ⟨tp, _, [.ref D.C_Wrong, .ref D.C_Clash, .ref D.C_Early, .ref D.C_NoWeather], false, rfl, upd_same, .cons (.own _) (.cons (.own _) (.cons (.own _) (.cons (.own _) .nil))), kitAny_cons (b := false) R.kW (fun _ => kitAny_cons (b := false) R.kC (fun _ => kitAny_cons (b := false) R.kE (fun _ => kitAny_cons (b := false) R.kN (fun _ => rfl) nofun) nofun) nofun) nofun, ?_⟩
    refine ⟨_, rfl, _, _, sm, rfl, .own _, R.kS, _, rfl, ?_⟩
    cases sm with
    | true =>
      refine iteT ⟨_, rfl, _, _, false, rfl, .own _, R.kT, ?_⟩
      refine ⟨_, rfl, _, rfl, iteF ⟨_, rfl, _, rfl, iteF ⟨_, rfl, _, _, true, rfl, .own _, R.kB, _, rfl, iteF ⟨_, rfl, _, _, true, rfl, .ty _, R.kV, _, rfl, iteF ?_⟩⟩⟩⟩
      refine ⟨by show 2 ≤ sizeLine; decide, fun l nl => ⟨_, rfl, _, _, true, rfl, .own _, R.kS, .inr ⟨_, rfl, l, _, 1, _, rfl, rfl, SqL.of upd_same, atI_nat (j := 1) rfl, q _ (s1.trans (same_upd nl))⟩⟩⟩
    | false =>
      refine iteF ?_
      refine ⟨_, rfl, _, rfl, iteF ⟨_, rfl, _, rfl, iteF ⟨_, rfl, _, _, true, rfl, .own _, R.kB, _, rfl, iteF ⟨_, rfl, _, _, true, rfl, .ty _, R.kV, _, rfl, iteF ?_⟩⟩⟩⟩
      refine ⟨by show 2 ≤ sizeLine; decide, fun l nl => ⟨_, rfl, _, _, false, rfl, .own _, R.kS, .inr ⟨_, rfl, l, _, 0, _, rfl, rfl, SqL.of upd_same, atI_nat (j := 0) rfl, q _ (s1.trans (same_upd nl))⟩⟩⟩
def spTold (D : All K P mg) (C : Addr) : Sp := fun vs H Q _ => ∃ (x : Addr) (s c m o b : Int) (kvs : LG.KV2) (v : V), vs = [.ref x, .int o, .int b, v] ∧ Bt C H x s c m ∧ 0 ≤ o ∧ o ≤ 10 ^ 60 ∧ 0 ≤ b ∧ b ≤ 10 ^ 60 ∧ LG.Sto H v kvs ∧
  (∀ sm : Bool, (fewI s c m o b (wsum kvs) = none ∧ sm = true ∨ (∃ n, fewI s c m o b (wsum kvs) = some n ∧ 300 < n) ∧ sm = false) → ∀ T H', H T = none → Same H H' → H' T = some (.tup [.non, wordV sm]) → Q (.ref T) H') ∧
  (∀ n, fewI s c m o b (wsum kvs) = some n → n ≤ 300 → ∀ (T L : Addr) (ts ds : List Addr) (H' : Hp), H T = none → H' T = some (.tup [.ref L, .str (Str.ofString "")]) → LG.LdsAt H' L ts ds (LG.ldF c m (roomI s c m) o b kvs n.toNat) → (∀ a ∈ L :: (ts ++ ds), H a = none) → Same H H' → Q (.ref T) H')
theorem sc__law_told : FnScope ["_law_ship", "_law_away", "_law_home", "_law_cargo", "_law_found", "_law_word_here", "_law_e"] ["_law_ship", "_law_away", "_law_home", "_law_cargo"] (defScope s__law_told) := ⟨rfl, rfl, rfl, by decide +kernel, rfl, by decide +kernel, by decide +kernel⟩
theorem ok__law_told (D : All K P mg) : FnOk P w K mg base CX0 8 D.f__law_told D.d__law_told ["_law_ship", "_law_away", "_law_home", "_law_cargo"] (spTold D D.C_Boat) := by
  refine D.h__law_told.fn.ok sc__law_told (fun vs H Q E h => ?_) (fun cdv A outer s H vs Q E hr h => ?_)
  · first | (obtain ⟨_, rfl, _⟩ := h; rfl) | (obtain ⟨_, _, rfl, _⟩ := h; rfl) | (obtain ⟨_, _, _, rfl, _⟩ := h; rfl) | (obtain ⟨_, _, _, _, rfl, _⟩ := h; rfl) | (obtain ⟨_, _, _, _, _, rfl, _⟩ := h; rfl) | (obtain ⟨_, _, _, _, _, _, rfl, _⟩ := h; rfl) | (obtain ⟨_, _, _, _, _, _, _, rfl, _⟩ := h; rfl) | (obtain ⟨_, _, _, _, _, _, _, _, rfl, _⟩ := h; rfl) | (obtain ⟨_, _, _, _, _, _, _, _, _, rfl, _⟩ := h; rfl) | (obtain ⟨_, _, _, _, _, _, _, _, _, _, rfl, _⟩ := h; rfl) | (obtain ⟨_, _, _, _, _, _, _, _, _, _, _, rfl, _⟩ := h; rfl) | (obtain ⟨_, _, _, _, _, _, _, _, _, _, _, _, rfl, _⟩ := h; rfl) | (obtain ⟨_, _, _, _, _, _, _, _, _, _, _, _, _, rfl, _⟩ := h; rfl) | (obtain ⟨_, _, _, _, _, _, _, _, _, _, _, _, _, _, rfl, _⟩ := h; rfl) | (obtain ⟨_, _, _, _, _, _, _, _, _, _, _, _, _, _, _, rfl, _⟩ := h; rfl)
  · have T := D.T
    have nd := sc__law_told.nd
    have hu := hr.units
    have hu1 := hu_of hr
    have hu0 := hr.units0
    obtain ⟨x, s, c, m, o, b, kvs, v, rfl, W, o0, o1, b0, b1, hv, e1, e2⟩ := h
    obtain ⟨_, v4_loads, b4_loads⟩ := D.q_loads.binds1 (ps := ["boat", "out", "back", "stores"]) 4 2 (by simp) (by rfl) (fun _ _ _ _ _ _ _ us its h1 h2 => match us, its, h1, h2 with | [_, _, _, _], [_, _], _, _ => ⟨_, rfl, rfl⟩)
    refine ⟨_, pss_cons (ps_set (i := 4) nd rfl (.inl rfl) pe_non)
      (pss_cons (ps_set (i := 5) nd rfl (.inl rfl) pe_str)
      (pss_cons (ps_try_as (i := 6) rfl rfl nd rfl rfl ⟨rfl, by decide, .inl D.g_LightsError⟩ L2.takes0 (fun W pn xe tk _ => (pss_one (ps_set (i := 4) nd rfl (.inl rfl) (LT.pe_callSD (ok_loads D) (hr.mono (by decide)) (by rfl) D.gl_loads D.kp_loads b4_loads v4_loads (fun σ => passAt tk σ) (pa_cons (pv 0) (pa_cons (pv 1) (pa_cons (pv 2) (pa_cons (pv 3) pa_nil)))))))) (fun a oe cls d pn hz hf => (pss_one (ps_set (i := 5) nd rfl (.inl rfl) (pe_callZ (ok__law_word D) (hr.mono (by decide)) hz hf (by rfl) D.h__law_word.gl D.h__law_word.fn.kp D.h__law_word.bd (pa_cons (pv 6) pa_nil))))))
      (pss_one (ps_ret (pe_tup (pa_cons (pv 4) (pa_cons (pv 5) pa_nil))))))), ?_⟩
    refine ⟨_, rfl, _, rfl, _, rfl, _, rfl, x, s, c, m, o, b, kvs, v, rfl, W, o0, o1, b0, b1, hv, fun hn H1 s1 => ?_, fun n hn hm H1 s1 => ?_, fun n hn hm L ts ds H1 k nw s1 => ?_⟩
    · refine ⟨true, (ekS D).ca, fun _ a na => ?_, fun z => nomatch z⟩
      refine ⟨_, rfl, fun oe hz hf => ⟨D.C_Small, true, ekS D, rfl, hz, hf, fun H2 s2 => ?_⟩⟩
      refine ⟨_, rfl, _, rfl, by show 2 ≤ sizeLine; decide, fun T2 nT => ?_⟩
      exact e1 true (.inl ⟨hn, rfl⟩) T2 _ ((s1.trans s2).free nT) ((s1.trans s2).trans (same_upd nT)) upd_same
    · refine ⟨true, (ekT D).ca, fun _ a na => ?_, fun z => nomatch z⟩
      refine ⟨_, rfl, fun oe hz hf => ⟨D.C_TooMany, false, ekT D, rfl, hz, hf, fun H2 s2 => ?_⟩⟩
      refine ⟨_, rfl, _, rfl, by show 2 ≤ sizeLine; decide, fun T2 nT => ?_⟩
      exact e1 false (.inr ⟨⟨n, hn, hm⟩, rfl⟩) T2 _ ((s1.trans s2).free nT) ((s1.trans s2).trans (same_upd nT)) upd_same
    · refine ⟨_, rfl, _, rfl, by show 2 ≤ sizeLine; decide, fun T2 nT => ?_⟩
      exact e2 n hn hm T2 L ts ds _ (s1.free nT) upd_same (k.mono fun a _ u e => same_upd nT a u e) nw (s1.trans (same_upd nT))
end
end K34
set_option Elab.async false
set_option linter.all false
set_option maxRecDepth 100000
set_option maxHeartbeats 1600000
set_option pp.maxSteps 300
namespace K34
open PySem PySem.Spec PyProof.Rows L2 LT NdefX
section
variable {P : Program} {w : World} {K : PySem.W.Frag} {mg : Str → Option Value} {base : Heap}
def SameP (p d : Addr) (H H' : Hp) : Prop := ∀ a u, a ≠ p → a ≠ d → H a = some u → H' a = some u
theorem sum_ge {q : Str × Int} : ∀ {kvs : LG.KV2}, (∀ x ∈ kvs, 0 ≤ x.2) → q ∈ kvs → q.2 ≤ (kvs.map (·.2)).sum
  | x :: r, h0, hq => by
    rw [List.map_cons, List.sum_cons]
    have x0 := h0 x List.mem_cons_self
    have r0 : 0 ≤ (r.map (·.2)).sum := by
      have : ∀ l : List Int, (∀ y ∈ l, 0 ≤ y) → 0 ≤ l.sum := by
        intro l
        induction l with
        | nil => intro _; simp
        | cons y t ih =>
          intro h
          rw [List.sum_cons]
          have := ih fun z hz => h z (List.mem_cons_of_mem _ hz)
          have := h y List.mem_cons_self
          omega
      exact this _ fun y hy => by
        obtain ⟨z, hz, rfl⟩ := List.mem_map.mp hy
        exact h0 z (List.mem_cons_of_mem _ hz)
    rcases List.mem_cons.mp hq with rfl | h
    · omega
    · have := sum_ge (fun z hz => h0 z (List.mem_cons_of_mem _ hz)) h
      omega
theorem kv_put {l r : LG.KV2} {z : Str} {n v : Int} (k : Kv (l ++ (z, n) :: r)) (v1 : 1 ≤ v) (v2 : v ≤ 10 ^ 70) : Kv (l ++ (z, v) :: r) := by
  have mm : ∀ p ∈ l ++ (z, v) :: r, p = (z, v) ∨ p ∈ l ++ (z, n) :: r := fun p hp => by
    simp only [List.mem_append, List.mem_cons] at hp ⊢
    rcases hp with h | h | h
    · exact .inr (.inl h)
    · exact .inl h
    · exact .inr (.inr (.inr h))
  refine ⟨by have := k.nd; rw [List.map_append, List.map_cons] at this ⊢; exact this, fun p hp => ?_, fun p hp => ?_, fun p hp => ?_⟩
  · rcases mm p hp with rfl | h
    · exact k.nm (z, n) (List.mem_append_right _ List.mem_cons_self)
    · exact k.nm p h
  · rcases mm p hp with rfl | h
    · exact v1
    · exact k.w1 p h
  · rcases mm p hp with rfl | h
    · exact v2
    · exact k.w2 p h
theorem put_le {l r : LG.KV2} {z : Str} {n v b : Int} (k : ∀ q ∈ l ++ (z, n) :: r, q.2 ≤ b) (h : v ≤ b) : ∀ q ∈ l ++ (z, v) :: r, q.2 ≤ b := fun p hp => by
  simp only [List.mem_append, List.mem_cons] at hp k
  rcases hp with e | rfl | e
  · exact k p (.inl e)
  · exact h
  · exact k p (.inr (.inr e))
def spHeavy : Sp := fun vs H Q _ => ∃ (p d : Addr) (kvs : LG.KV2) (left : Int), vs = [.ref p, .ref d, .int left] ∧ Pot H p ∧ H d = some (.dK (sd kvs)) ∧ Kv kvs ∧ kvs.length ≤ 8 ∧ (∀ q ∈ kvs, q.2 ≤ 10 ^ 61) ∧ left ≤ 10 ^ 60 ∧
  ∀ (kvs' : LG.KV2) (H' : Hp), Kv kvs' → kvs'.length ≤ 8 → (∀ q ∈ kvs', q.2 ≤ 10 ^ 61) → Pot H' p → H' d = some (.dK (sd kvs')) → SameP p d H H' → Q .non H'
theorem sc__law_heavy : FnScope ["_law_pot_here", "_law_cargo", "_law_left", "_law_way", "_law_gone", "_law_name_here"] ["_law_pot_here", "_law_cargo", "_law_left"] (defScope s__law_heavy) := ⟨rfl, rfl, rfl, by decide +kernel, rfl, by decide +kernel, by decide +kernel⟩
theorem ok__law_heavy (D : All K P mg) : FnOk P w K mg base CX0 2 D.f__law_heavy D.d__law_heavy ["_law_pot_here", "_law_cargo", "_law_left"] spHeavy := by
  refine D.h__law_heavy.fn.ok sc__law_heavy (fun vs H Q E h => ?_) (fun cdv A outer s H vs Q E hr h => ?_)
  · first | (obtain ⟨_, rfl, _⟩ := h; rfl) | (obtain ⟨_, _, rfl, _⟩ := h; rfl) | (obtain ⟨_, _, _, rfl, _⟩ := h; rfl) | (obtain ⟨_, _, _, _, rfl, _⟩ := h; rfl) | (obtain ⟨_, _, _, _, _, rfl, _⟩ := h; rfl) | (obtain ⟨_, _, _, _, _, _, rfl, _⟩ := h; rfl) | (obtain ⟨_, _, _, _, _, _, _, rfl, _⟩ := h; rfl) | (obtain ⟨_, _, _, _, _, _, _, _, rfl, _⟩ := h; rfl) | (obtain ⟨_, _, _, _, _, _, _, _, _, rfl, _⟩ := h; rfl) | (obtain ⟨_, _, _, _, _, _, _, _, _, _, rfl, _⟩ := h; rfl) | (obtain ⟨_, _, _, _, _, _, _, _, _, _, _, rfl, _⟩ := h; rfl) | (obtain ⟨_, _, _, _, _, _, _, _, _, _, _, _, rfl, _⟩ := h; rfl) | (obtain ⟨_, _, _, _, _, _, _, _, _, _, _, _, _, rfl, _⟩ := h; rfl) | (obtain ⟨_, _, _, _, _, _, _, _, _, _, _, _, _, _, rfl, _⟩ := h; rfl) | (obtain ⟨_, _, _, _, _, _, _, _, _, _, _, _, _, _, _, rfl, _⟩ := h; rfl)
  · have T := D.T
    have nd := sc__law_heavy.nd
    have hu := hr.units
    have hu1 := hu_of hr
    have hu0 := hr.units0
    obtain ⟨p, d, kvs, left, rfl, hp, ed, kv, k8, kb, l1, q⟩ := h
    refine ⟨_, pss_cons (ps_set (i := 3) nd rfl (.inl rfl) (pe_call (ok__law_take D) (hr.mono (by decide)) (by rfl) D.h__law_take.gl D.h__law_take.fn.kp D.h__law_take.bd .nil pass0 (pa_cons (pv 0) (pa_cons pe_int pa_nil))))
      (pss_cons (ps_set (i := 4) nd rfl (.inl rfl) (pe_sumVals rfl (by rfl) T.sum (pv 1)))
      (pss_one (ps_if (PW.pt (pw_and (pt_cmpR op_lt (pv 3) pe_int (nomark _)) (pw_and (pt_cmpR (op_neE hu0) (pv 1) pe_dnewK (nomark _)) (pw_and1 (pt_cmpR op_gt (pe_op op_add (pv 2) (pv 3)) (pv 4) (nomark _)))))) (pss_cons (ps_set (i := 5) nd rfl (.inl rfl) (pe_ix ix_list (pe_callB (call_sortedD rfl) (by rfl) T.sorted (by decide +kernel) (pa_cons (pv 1) pa_nil)) (pe_call (ok__law_take D) (hr.mono (by decide)) (by rfl) D.h__law_take.gl D.h__law_take.fn.kp D.h__law_take.bd .nil pass0 (pa_cons (pv 0) (pa_cons (pe_callB call_lenD (by rfl) T.len PySem.boot_len (pa_cons (pv 1) pa_nil)) pa_nil))) (fun _ _ => rfl)))
      (pss_one (ps_dput hu1 (pv 1) (pv 5) (pe_op op_sub (pe_op op_add (pe_op op_add (pe_dget hu1 (pv 1) (pv 5) (fun _ _ => rfl)) (pv 2)) (pv 3)) (pv 4)) rfl))) pss_nil))), ?_⟩
    refine ⟨_, rfl, p, 8, rfl, hp, by decide, by decide, fun way H1 w0 w1 hp1 sb1 => ?_⟩
    have dp : d ≠ p := ne_of_pot hp ed
    have ed1 := sb1 _ _ dp ed
    refine ⟨_, rfl, d, _, kvs.map (·.2), rfl, ed1, sd_vals kvs, ?_⟩
    have fin : ∀ H2 : Hp, Same H1 H2 → Q .non H2 := fun H2 s2 => q kvs H2 kv k8 kb (hp1.mono s2) (s2 _ _ ed1) fun a u h1 h2 e => s2 _ _ (sb1 _ _ h1 e)
    refine ⟨_, rfl, _, _, rfl, rfl, _, rfl, ?_⟩
    by_cases hw : way < 2
    · rw [decide_eq_true hw]
      refine ⟨_, rfl, fun E0 nE => ?_⟩
      have s2 := same_upd (o := .dK []) nE
      have hp2 := hp1.upd (o := .dK []) (hp1.ne nE)
      have ed2 := s2 _ _ ed1
      have e02 := upd_same (H := H1) (a := E0) (o := .dK [])
      generalize L2.upd H1 E0 (.dK []) = H2 at *
      refine ⟨d, E0, _, rfl, rfl, ed2, e02, _, rfl, ?_⟩
      by_cases hk : kvs = []
      · subst hk
        exact fin H2 s2
      have l0 : 0 < kvs.length := List.length_pos_iff.mpr hk
      have ee : (!(sd kvs).isEmpty) = true := by
        cases kvs with
        | nil => exact absurd rfl hk
        | cons _ _ => rfl
      rw [ee]
      refine iteT ⟨_, rfl, _, rfl, _, _, rfl, rfl, _, rfl, _, _, rfl, rfl, _, rfl, ?_⟩
      by_cases hg : (kvs.map (·.2)).sum < left + way
      · rw [decide_eq_true hg]
        refine iteT ⟨_, rfl, d, _, kvs.map (·.1), rfl, Rd.of ed2, sd_keys kvs, by rw [List.length_map]; omega, fun ys S hpm hsd nS => ?_⟩
        have nSp := hp2.ne nS
        have s3 := s2.trans (same_upd (o := .lst (ys.map V.str)) nS)
        have hp3 := hp2.upd (o := .lst (ys.map V.str)) nSp
        have ed3 := same_upd (o := .lst (ys.map V.str)) nS _ _ ed2
        have eS := upd_same (H := H2) (a := S) (o := .lst (ys.map V.str))
        generalize L2.upd H2 S (.lst (ys.map V.str)) = H3 at *
        have yl : ys.length = kvs.length := by rw [hpm.length_eq, List.length_map]
        refine ⟨_, rfl, _, rfl, d, _, rfl, ed3, p, _, rfl, hp3, by rw [sd_len]; omega, by rw [sd_len]; omega, fun i H4 i0 i1 hp4 sb4 => ?_⟩
        rw [sd_len] at i1
        obtain ⟨z, _, hz, hat⟩ := str_at (zs := ys) i0 (by omega)
        have ed4 := sb4 _ _ dp ed3
        have eS4 := sb4 _ _ nSp eS
        refine ⟨S, _, i, _, rfl, rfl, SqL.of eS4, hat, ?_⟩
        have hz2 : z ∈ kvs.map (·.1) := hpm.mem_iff.mp hz
        obtain ⟨⟨z', n⟩, hq, ez⟩ := List.mem_map.mp hz2
        have ez : z' = z := ez
        subst ez
        obtain ⟨l, r, rfl⟩ := List.append_of_mem hq
        have nd := kv.nd
        rw [List.map_append, List.map_cons] at nd
        obtain ⟨_, hb, hab⟩ := List.nodup_append.mp nd
        have zl : z' ∉ l.map (·.1) := fun h => hab z' h z' List.mem_cons_self rfl
        have zr : z' ∉ r.map (·.1) := (List.nodup_cons.mp hb).1
        have g1 : getA (l ++ (z', n) :: r) z' = some n := by rw [getA_app zl, getA_pos rfl]
        refine ⟨_, rfl, _, rfl, d, _, rfl, dget_sd ed4 g1, _, rfl, _, _, rfl, rfl, _, rfl, _, _, rfl, rfl, _, rfl, _, _, rfl, rfl, _, rfl, _, rfl, _, _, rfl, DPut.k (k := Sum.inr z') ed4 (by rw [sd_len]; exact small2k (by omega)), ?_⟩
        show Q .non (L2.upd H4 d (.dK (putK (sd (l ++ (z', n) :: r)) (Sum.inr z') (V.int (n + left + way - ((l ++ (z', n) :: r).map (·.2)).sum)))))
        generalize hv : n + left + way - ((l ++ (z', n) :: r).map (·.2)).sum = v
        rw [show putK (sd (l ++ (z', n) :: r)) (Sum.inr z') (V.int v) = sd (putA (l ++ (z', n) :: r) z' v) from put_en inr_inj _ z' v, putA_mid zl zr]
        have n1 := kv.w1 _ hq
        have sn : n ≤ ((l ++ (z', n) :: r).map (·.2)).sum := sum_ge (fun x hx => by have := kv.w1 _ hx; omega) hq
        refine q (l ++ (z', v) :: r) _ (kv_put kv (by omega) (by omega)) (by simpa using k8) (put_le kb (by omega)) (hp4.upd dp) upd_same fun a u h1 h2 e => ?_
        rw [upd_ne h2]
        exact sb4 _ _ h1 (s3 _ _ (sb1 _ _ h1 e))
      · rw [decide_eq_false hg]
        exact fin H2 s2
    · rw [decide_eq_false hw]
      exact fin H1 (Same.refl _)
theorem drop_mid {l r : LG.KV2} {z : Str} {n : Int} (zl : z ∉ l.map (·.1)) (zr : z ∉ r.map (·.1)) : dropK (sd (l ++ (z, n) :: r)) (Sum.inr z) = sd (l ++ r) := by
  have f : ∀ x : LG.KV2, z ∉ x.map (·.1) → (sd x).filter (fun kv => decide (kv.1 ≠ (Sum.inr z : Key))) = sd x := fun x hx => List.filter_eq_self.mpr fun kv hk => by
    unfold sd at hk
    obtain ⟨q, hq, rfl⟩ := List.mem_map.mp hk
    refine decide_eq_true fun e => hx ?_
    have e : q.1 = z := Sum.inr.inj e
    rw [← e]
    exact List.mem_map_of_mem hq
  unfold dropK
  rw [show sd (l ++ (z, n) :: r) = sd l ++ (Sum.inr z, V.int n) :: sd r by unfold sd; rw [List.map_append, List.map_cons], List.filter_append, f l zl, List.filter_cons, f r zr, if_neg (by simp)]
  unfold sd
  rw [List.map_append]
theorem kv_drop {l r : LG.KV2} {z : Str} {n : Int} (k : Kv (l ++ (z, n) :: r)) : Kv (l ++ r) := by
  have mm : ∀ p ∈ l ++ r, p ∈ l ++ (z, n) :: r := fun p hp => by
    rcases List.mem_append.mp hp with h | h
    · exact List.mem_append_left _ h
    · exact List.mem_append_right _ (List.mem_cons_of_mem _ h)
  refine ⟨?_, fun p hp => k.nm p (mm p hp), fun p hp => k.w1 p (mm p hp), fun p hp => k.w2 p (mm p hp)⟩
  have := k.nd
  rw [List.map_append, List.map_cons] at this
  rw [List.map_append]
  exact this.sublist (List.Sublist.append_left (List.sublist_cons_self _ _) _)
theorem nm_ninth {z : Str} (h : Nm z) : Nm (Str.ofString "ninth" ++ cutS z none (some 3)) := by
  have e : (Str.ofString "ninth" ++ cutS z none (some 3)).cps.toList = (Str.ofString "ninth").cps.toList ++ z.cps.toList.take 3 := by
    rw [str_app_codes, cutS_take (by decide)]
    rfl
  have e0 : (Str.ofString "ninth").cps.toList = [110, 105, 110, 116, 104] := by decide +kernel
  have l : (Str.ofString "ninth" ++ cutS z none (some 3)).length = 5 + min 3 z.length := by
    show (Str.ofString "ninth" ++ cutS z none (some 3)).cps.size = _
    rw [← Array.length_toList, e, e0, List.length_append, List.length_take]
    rfl
  refine ⟨by omega, by omega, fun c hc => ?_⟩
  rw [e, e0] at hc
  rcases List.mem_append.mp hc with hc | hc
  · have : ∀ c ∈ [110, 105, 110, 116, 104], small c = true := by decide
    exact this c hc
  · exact h.al c (List.mem_of_mem_take hc)
def spTurned : Sp := fun vs H Q _ => ∃ (p d : Addr) (kvs : LG.KV2), vs = [.ref p, .ref d] ∧ Pot H p ∧ H d = some (.dK (sd kvs)) ∧ Kv kvs ∧ kvs.length ≤ 8 ∧ kvs ≠ [] ∧ (∀ q ∈ kvs, q.2 ≤ 10 ^ 61) ∧
  ∀ (kvs' : LG.KV2) (H' : Hp), Kv kvs' → kvs'.length ≤ 8 → Pot H' p → H' d = some (.dK (sd kvs')) → SameP p d H H' → Q .non H'
theorem sc__law_turned : FnScope ["_law_pot_here", "_law_cargo", "_law_way", "_law_name_here"] ["_law_pot_here", "_law_cargo"] (defScope s__law_turned) := ⟨rfl, rfl, rfl, by decide +kernel, rfl, by decide +kernel, by decide +kernel⟩
theorem ok__law_turned (D : All K P mg) : FnOk P w K mg base CX0 2 D.f__law_turned D.d__law_turned ["_law_pot_here", "_law_cargo"] spTurned := by
  refine D.h__law_turned.fn.ok sc__law_turned (fun vs H Q E h => ?_) (fun cdv A outer s H vs Q E hr h => ?_)
  · first | (obtain ⟨_, rfl, _⟩ := h; rfl) | (obtain ⟨_, _, rfl, _⟩ := h; rfl) | (obtain ⟨_, _, _, rfl, _⟩ := h; rfl) | (obtain ⟨_, _, _, _, rfl, _⟩ := h; rfl) | (obtain ⟨_, _, _, _, _, rfl, _⟩ := h; rfl) | (obtain ⟨_, _, _, _, _, _, rfl, _⟩ := h; rfl) | (obtain ⟨_, _, _, _, _, _, _, rfl, _⟩ := h; rfl) | (obtain ⟨_, _, _, _, _, _, _, _, rfl, _⟩ := h; rfl) | (obtain ⟨_, _, _, _, _, _, _, _, _, rfl, _⟩ := h; rfl) | (obtain ⟨_, _, _, _, _, _, _, _, _, _, rfl, _⟩ := h; rfl) | (obtain ⟨_, _, _, _, _, _, _, _, _, _, _, rfl, _⟩ := h; rfl) | (obtain ⟨_, _, _, _, _, _, _, _, _, _, _, _, rfl, _⟩ := h; rfl) | (obtain ⟨_, _, _, _, _, _, _, _, _, _, _, _, _, rfl, _⟩ := h; rfl) | (obtain ⟨_, _, _, _, _, _, _, _, _, _, _, _, _, _, rfl, _⟩ := h; rfl) | (obtain ⟨_, _, _, _, _, _, _, _, _, _, _, _, _, _, _, rfl, _⟩ := h; rfl)
  · have T := D.T
    have nd := sc__law_turned.nd
    have hu := hr.units
    have hu1 := hu_of hr
    have hu0 := hr.units0
    obtain ⟨p, d, kvs, rfl, hp, ed, kv, k8, k0, kb, q⟩ := h
    refine ⟨_, pss_cons (ps_set (i := 2) nd rfl (.inl rfl) (pe_call (ok__law_take D) (hr.mono (by decide)) (by rfl) D.h__law_take.gl D.h__law_take.fn.kp D.h__law_take.bd .nil pass0 (pa_cons (pv 0) (pa_cons pe_int pa_nil))))
      (pss_cons (ps_set (i := 3) nd rfl (.inl rfl) (pe_ix ix_list (pe_callB (call_sortedD rfl) (by rfl) T.sorted (by decide +kernel) (pa_cons (pv 1) pa_nil)) (pe_call (ok__law_take D) (hr.mono (by decide)) (by rfl) D.h__law_take.gl D.h__law_take.fn.kp D.h__law_take.bd .nil pass0 (pa_cons (pv 0) (pa_cons (pe_callB call_lenD (by rfl) T.len PySem.boot_len (pa_cons (pv 1) pa_nil)) pa_nil))) (fun _ _ => rfl)))
      (pss_one (ps_if (pt_cmpR op_eq (pv 2) pe_int (nomark _)) (pss_one (ps_dput hu1 (pv 1) (pv 3) (pe_op op_add (pe_dget hu1 (pv 1) (pv 3) (fun _ _ => rfl)) pe_int) rfl)) (pss_one (ps_if (PW.pt (pw_and (pt_cmpR op_eq (pv 2) pe_int (nomark _)) (pw_and1 (pt_cmpR op_gt (pe_dget hu1 (pv 1) (pv 3) (fun _ _ => rfl)) pe_int (nomark _))))) (pss_one (ps_dput hu1 (pv 1) (pv 3) (pe_op op_sub (pe_dget hu1 (pv 1) (pv 3) (fun _ _ => rfl)) pe_int) rfl)) (pss_one (ps_dput hu1 (pv 1) (pe_op op_add_str pe_str (pe_slice sl_str (pv 3) po_none (po_some pe_int))) (pe_dpop1 (pv 1) (pv 3) ⟨rfl, rfl, rfl, rfl⟩) rfl))))))), ?_⟩
    refine ⟨_, rfl, p, 3, rfl, hp, by decide, by decide, fun way H1 w0 w1 hp1 sb1 => ?_⟩
    have dp : d ≠ p := ne_of_pot hp ed
    have ed1 := sb1 _ _ dp ed
    have l0 : 0 < kvs.length := List.length_pos_iff.mpr k0
    refine ⟨_, rfl, d, _, kvs.map (·.1), rfl, Rd.of ed1, sd_keys kvs, by rw [List.length_map]; omega, fun ys S hpm hsd nS => ?_⟩
    have nSp := hp1.ne nS
    have s3 := same_upd (o := .lst (ys.map V.str)) nS
    have hp3 := hp1.upd (o := .lst (ys.map V.str)) nSp
    have ed3 := s3 _ _ ed1
    have eS := upd_same (H := H1) (a := S) (o := .lst (ys.map V.str))
    generalize L2.upd H1 S (.lst (ys.map V.str)) = H3 at *
    have yl : ys.length = kvs.length := by rw [hpm.length_eq, List.length_map]
    refine ⟨_, rfl, _, rfl, d, _, rfl, ed3, p, _, rfl, hp3, by rw [sd_len]; omega, by rw [sd_len]; omega, fun i H4 i0 i1 hp4 sb4 => ?_⟩
    rw [sd_len] at i1
    obtain ⟨z, _, hz, hat⟩ := str_at (zs := ys) i0 (by omega)
    have ed4 := sb4 _ _ dp ed3
    have eS4 := sb4 _ _ nSp eS
    have sP : SameP p d H H4 := fun a u h1 _ e => sb4 _ _ h1 (s3 _ _ (sb1 _ _ h1 e))
    refine ⟨S, _, i, _, rfl, rfl, SqL.of eS4, hat, ?_⟩
    have hz2 : z ∈ kvs.map (·.1) := hpm.mem_iff.mp hz
    obtain ⟨⟨z', n⟩, hq, ez⟩ := List.mem_map.mp hz2
    have ez : z' = z := ez
    subst ez
    obtain ⟨l, r, rfl⟩ := List.append_of_mem hq
    have nd := kv.nd
    rw [List.map_append, List.map_cons] at nd
    obtain ⟨_, hb, hab⟩ := List.nodup_append.mp nd
    have zl : z' ∉ l.map (·.1) := fun h => hab z' h z' List.mem_cons_self rfl
    have zr : z' ∉ r.map (·.1) := (List.nodup_cons.mp hb).1
    have g1 : getA (l ++ (z', n) :: r) z' = some n := by rw [getA_app zl, getA_pos rfl]
    have n1 := kv.w1 _ hq
    have n2 := kb _ hq
    have fin : ∀ v : Int, 1 ≤ v → v ≤ 10 ^ 70 → Q .non (L2.upd H4 d (.dK (putK (sd (l ++ (z', n) :: r)) (Sum.inr z') (V.int v)))) := fun v v1 v2 => by
      rw [show putK (sd (l ++ (z', n) :: r)) (Sum.inr z') (V.int v) = sd (putA (l ++ (z', n) :: r) z' v) from put_en inr_inj _ z' v, putA_mid zl zr]
      exact q (l ++ (z', v) :: r) _ (kv_put kv v1 v2) (by simpa using k8) (hp4.upd dp) upd_same fun a u h1 h2 e => by rw [upd_ne h2]; exact sP a u h1 h2 e
    refine ⟨_, rfl, rfl, _, rfl, ?_⟩
    by_cases hw0 : way = 0
    · rw [decide_eq_true (show V.int way = V.int 0 by rw [hw0])]
      refine iteT ⟨_, rfl, _, rfl, d, _, rfl, dget_sd ed4 g1, _, _, rfl, rfl, _, rfl, _, rfl, _, _, rfl, DPut.k (k := Sum.inr z') ed4 (by rw [sd_len]; exact small2k (by omega)), fin (n + 1) (by omega) (by omega)⟩
    rw [decide_eq_false (show ¬ V.int way = V.int 0 from fun e => hw0 (V.int.inj e))]
    refine iteF ⟨_, rfl, rfl, _, rfl, ?_⟩
    have pop : sDPut (tVar 1) (tOp (fun x y H Q => ∃ i j, x = V.str i ∧ y = V.str j ∧ i.length + j.length ≤ sizeLine ∧ Q (V.str (i ++ j)) H) (tC (V.str (Str.ofString "ninth"))) (tSl rSlS (tVar 3) tNoPart (tPart (tC (V.int 3))))) (tDPop1 (tVar 1) (tVar 3)) { nx := fun _ H' => Q .non H', rt := Q } [some (.ref p), some (.ref d), some (.int way), some (.str z')] H4 := by
      refine ⟨_, rfl, d, rfl, .inl ⟨_, Rd.of ed4⟩, _, rfl, sd (l ++ (z', n) :: r), Sum.inr z', .int n, ed4, rfl, by rw [val_row, g1]; rfl, ?_⟩
      have edr : dropK (sd (l ++ (z', n) :: r)) (Sum.inr z') = sd (l ++ r) := drop_mid zl zr
      rw [edr]
      have kd : Kv (l ++ r) := kv_drop kv
      have hz := kv.nm _ hq
      have hn : Nm (Str.ofString "ninth" ++ cutS z' none (some 3)) := nm_ninth hz
      have e5 := upd_same (H := H4) (a := d) (o := .dK (sd (l ++ r)))
      obtain ⟨kd2, kl2⟩ := kd.put hn n1 (by omega)
      have hz8 := hz.l8
      have c1 := cutS_length z' none (some 3)
      have c5 : (Str.ofString "ninth").length = 5 := by decide +kernel
      have hz8 : z'.length ≤ 8 := hz8
      refine ⟨_, rfl, _, rfl, 3, rfl, z', rfl, Nat.le_trans hz8 (by decide), _, _, rfl, rfl, ?_, d, _, rfl, DPut.k (k := Sum.inr (Str.ofString "ninth" ++ cutS z' none (some 3))) e5 (by rw [sd_len]; exact small2k (by have := k8; simp only [List.length_append, List.length_cons] at this ⊢; omega)), ?_⟩
      · refine Nat.le_trans (show _ ≤ 5 + 8 by omega) (by decide)
      · rw [put_sd]
        refine q _ _ kd2 ?_ (hp4.upd dp |>.upd dp) upd_same fun a u h1 h2 e => ?_
        · simp only [List.length_append, List.length_cons] at kl2 k8 ⊢
          omega
        · rw [upd_ne h2, upd_ne h2]
          exact sP a u h1 h2 e
    by_cases hw1 : way = 1
    · rw [decide_eq_true (show V.int way = V.int 1 by rw [hw1])]
      refine ⟨_, rfl, _, rfl, d, _, rfl, dget_sd ed4 g1, _, _, rfl, rfl, _, rfl, ?_⟩
      by_cases hn : 1 < n
      · rw [decide_eq_true hn]
        refine iteT ⟨_, rfl, _, rfl, d, _, rfl, dget_sd ed4 g1, _, _, rfl, rfl, _, rfl, _, rfl, _, _, rfl, DPut.k (k := Sum.inr z') ed4 (by rw [sd_len]; exact small2k (by omega)), fin (n - 1) (by omega) (by omega)⟩
      · rw [decide_eq_false hn]
        exact iteF pop
    · rw [decide_eq_false (show ¬ V.int way = V.int 1 from fun e => hw1 (V.int.inj e))]
      exact iteF pop
end
end K34
set_option Elab.async false
set_option linter.all false
set_option maxRecDepth 100000
set_option maxHeartbeats 1600000
set_option pp.maxSteps 300
namespace K34
open PySem PySem.Spec PyProof.Rows L2 LT NdefX
section
variable {P : Program} {w : World} {K : PySem.W.Frag} {mg : Str → Option Value} {base : Heap}
def spIsLoad : Sp := fun vs H Q _ => ∃ (t l d : Addr) (s c m mo mb : Int) (kv : LG.KV2), vs = [.ref t, .ref l] ∧ H t = some (.tup [.int s, .int c, .int m]) ∧ N3 s c m ∧ H l = some (.tup [.int mo, .int mb, .ref d]) ∧ H d = some (.dK (sd kv)) ∧ (kv.map (·.1)).Nodup ∧ kv.length ≤ 8 ∧ (∀ q ∈ kv, 1 ≤ q.2) ∧
  0 ≤ mo ∧ 0 ≤ mb ∧ mo ≤ s ∧ mb ≤ s ∧ mb * m ≤ c ∧ mo * m + wsum kv ≤ c ∧ ∀ H', Same H H' → Q (.bl true) H'
theorem sc__law_is_load : FnScope ["_law_ship", "_law_load", "_law_name_here"] ["_law_ship", "_law_load"] (defScope s__law_is_load) := ⟨rfl, rfl, rfl, by decide +kernel, rfl, by decide +kernel, by decide +kernel⟩
theorem ok__law_is_load (D : All K P mg) : FnOk P w K mg base CX0 2 D.f__law_is_load D.d__law_is_load ["_law_ship", "_law_load"] spIsLoad := by
  refine D.h__law_is_load.fn.ok sc__law_is_load (fun vs H Q E h => ?_) (fun cdv A outer s H vs Q E hr h => ?_)
  · first | (obtain ⟨_, rfl, _⟩ := h; rfl) | (obtain ⟨_, _, rfl, _⟩ := h; rfl) | (obtain ⟨_, _, _, rfl, _⟩ := h; rfl) | (obtain ⟨_, _, _, _, rfl, _⟩ := h; rfl) | (obtain ⟨_, _, _, _, _, rfl, _⟩ := h; rfl) | (obtain ⟨_, _, _, _, _, _, rfl, _⟩ := h; rfl) | (obtain ⟨_, _, _, _, _, _, _, rfl, _⟩ := h; rfl) | (obtain ⟨_, _, _, _, _, _, _, _, rfl, _⟩ := h; rfl) | (obtain ⟨_, _, _, _, _, _, _, _, _, rfl, _⟩ := h; rfl) | (obtain ⟨_, _, _, _, _, _, _, _, _, _, rfl, _⟩ := h; rfl) | (obtain ⟨_, _, _, _, _, _, _, _, _, _, _, rfl, _⟩ := h; rfl) | (obtain ⟨_, _, _, _, _, _, _, _, _, _, _, _, rfl, _⟩ := h; rfl) | (obtain ⟨_, _, _, _, _, _, _, _, _, _, _, _, _, rfl, _⟩ := h; rfl) | (obtain ⟨_, _, _, _, _, _, _, _, _, _, _, _, _, _, rfl, _⟩ := h; rfl) | (obtain ⟨_, _, _, _, _, _, _, _, _, _, _, _, _, _, _, rfl, _⟩ := h; rfl)
  · have T := D.T
    have nd := sc__law_is_load.nd
    have hu := hr.units
    have hu1 := hu_of hr
    have hu0 := hr.units0
    obtain ⟨t, l, d, s, c, m, mo, mb, kv, rfl, et, N, el, ed, nd2, k8, kw, o0, b0, o1, b1, bm, om, q⟩ := h
    refine ⟨_, pss_cons (ps_if (PW.pt (pw_or (pt_not (pt_val (pe_callB call_isi (by rfl) T.isi (by decide +kernel) (pa_cons (pv 1) (pa_cons (pe_bltn (v := .ty "tuple") (by rfl) T.tuple (by decide +kernel) rfl) pa_nil))))) (pw_or (pt_cmpR op_ne (pe_callB call_len_seq (by rfl) T.len PySem.boot_len (pa_cons (pv 1) pa_nil)) pe_int (nomark _)) (pw_or1 (pt_not (pt_val (pe_callB call_isi (by rfl) T.isi (by decide +kernel) (pa_cons (pe_ix ix_tup (pv 1) pe_int (fun _ _ => rfl)) (pa_cons (pe_bltn (v := .ty "dict") (by rfl) T.dict (by decide +kernel) rfl) pa_nil))))))))) (pss_one (ps_ret pe_bl)) pss_nil)
      (pss_cons (ps_if (PW.pt (pw_or (pt_not (pt_val (pe_call (ok__law_is_whole D) (hr.mono (by decide)) (by rfl) D.h__law_is_whole.gl D.h__law_is_whole.fn.kp D.h__law_is_whole.bd .nil pass0 (pa_cons (pe_ix ix_tup (pv 1) pe_int (fun _ _ => rfl)) (pa_cons pe_int pa_nil))))) (pw_or1 (pt_not (pt_val (pe_call (ok__law_is_whole D) (hr.mono (by decide)) (by rfl) D.h__law_is_whole.gl D.h__law_is_whole.fn.kp D.h__law_is_whole.bd .nil pass0 (pa_cons (pe_ix ix_tup (pv 1) pe_int (fun _ _ => rfl)) (pa_cons pe_int pa_nil)))))))) (pss_one (ps_ret pe_bl)) pss_nil)
      (pss_cons (ps_if (pt_not (pt_val (pe_callB (cr_all rfl) (by rfl) T.all (by decide +kernel) (pa_cons (pe_lock (pe_lc (own := [("_law_name_here", 2)]) (g := gName 2) (tt := tYes) rfl nd (pi_keys (pe_ix ix_tup (pv 1) pe_int (fun _ _ => rfl))) (blkOk_by (N := ["_law_ship", "_law_load", "_law_name_here"]) (sc := defScope s__law_is_load) (by decide +kernel)) (fun _ _ _ _ _ => (pg_name (i := 2) nd rfl (Or.inl rfl))) (fun _ _ _ _ _ => pts_nil) (fun _ _ _ _ _ => (pe_and (pe_callB (show CallR _ (.builtin "isinstance") (rIsi K) from call_isi) (by rfl) T.isi (by decide +kernel) (pa_cons (pv 2) (pa_cons (pe_bltn (v := .ty "str") (by rfl) T.str (by decide +kernel) rfl) pa_nil))) (pe_one (pe_call (ok__law_is_whole D) (hr.mono (by decide)) (by rfl) D.h__law_is_whole.gl D.h__law_is_whole.fn.kp D.h__law_is_whole.bd .nil pass0 (pa_cons (pe_dget hu1 (pe_ix (show IxR _ (rIxT K) from ix_tup) (pv 1) pe_int (fun _ _ => rfl)) (pv 2) (fun _ _ => rfl)) (pa_cons pe_int pa_nil)))))))) pa_nil)))) (pss_one (ps_ret pe_bl)) pss_nil)
      (pss_cons (ps_if (PW.pt (pw_or (pt_cmpR op_gt (pe_callB (call_max2 rfl) (by rfl) T.max (by decide +kernel) (pa_cons (pe_ix ix_tup (pv 1) pe_int (fun _ _ => rfl)) (pa_cons (pe_ix ix_tup (pv 1) pe_int (fun _ _ => rfl)) pa_nil))) (pe_ix ix_tup (pv 0) pe_int (fun _ _ => rfl)) (nomark _)) (pw_or1 (pt_cmpR op_gt (pe_op op_mulW (pe_ix ix_tup (pv 1) pe_int (fun _ _ => rfl)) (pe_ix ix_tup (pv 0) pe_int (fun _ _ => rfl))) (pe_ix ix_tup (pv 0) pe_int (fun _ _ => rfl)) (nomark _))))) (pss_one (ps_ret pe_bl)) pss_nil)
      (pss_one (ps_ret (pe_cmpR op_le (pe_op op_add (pe_op op_mulW (pe_ix ix_tup (pv 1) pe_int (fun _ _ => rfl)) (pe_ix ix_tup (pv 0) pe_int (fun _ _ => rfl))) (pe_sumVals rfl (by rfl) T.sum (pe_ix ix_tup (pv 1) pe_int (fun _ _ => rfl)))) (pe_ix ix_tup (pv 0) pe_int (fun _ _ => rfl)) (nomark _))))))), ?_⟩
    have i0 : atI [V.int mo, .int mb, .ref d] 0 = some (.int mo) := atI_nat (j := 0) rfl
    have i1 : atI [V.int mo, .int mb, .ref d] 1 = some (.int mb) := atI_nat (j := 1) rfl
    have i2 : atI [V.int mo, .int mb, .ref d] 2 = some (.ref d) := atI_nat (j := 2) rfl
    refine ⟨_, rfl, .ref l, .ty "tuple", _, _, true, rfl, .ty _, .base (.tup el), kit_ty (show kitB "tuple" "tuple" = some true by decide +kernel), _, rfl, ?_⟩
    refine ⟨_, rfl, l, _, rfl, .inr (SqT.of el), rfl, _, rfl, ?_⟩
    rw [decide_eq_true (show V.int (([V.int mo, .int mb, .ref d] : List V).length : Nat) = V.int 3 from rfl)]
    refine ⟨_, rfl, l, _, 2, _, rfl, rfl, SqT.of el, i2, .ref d, .ty "dict", _, _, true, rfl, .ty _, .base (.dK ed), kit_ty (show kitB "dict" "dict" = some true by decide +kernel), _, rfl, iteF ?_⟩
    refine ⟨_, rfl, l, _, 0, _, rfl, rfl, SqT.of el, i0, mo, 0, rfl, _, rfl, ?_⟩
    rw [decide_eq_true o0]
    refine ⟨_, rfl, l, _, 1, _, rfl, rfl, SqT.of el, i1, mb, 0, rfl, _, rfl, ?_⟩
    rw [decide_eq_true b0]
    refine iteF ⟨d, _, ed, trivial, fun od => ?_⟩
    have edf := upd_same (H := H) (a := d) (o := .frz od (.dK (sd kv)))
    have ld : l ≠ d := fun e => by rw [e, ed] at el; cases el
    have elf : L2.upd H d (.frz od (.dK (sd kv))) l = some (.tup [.int mo, .int mb, .ref d]) := by rw [upd_ne ld]; exact el
    refine ⟨_, rfl, l, _, 2, _, rfl, rfl, SqT.of elf, i2, d, od, rfl, .inl ⟨_, edf, fun F nF => ?_⟩⟩
    have nFd : F ≠ d := fun e => by rw [e, edf] at nF; cases nF
    refine lc_it walk_rowk (fun i H' => Same (L2.upd H d (.frz od (.dK (sd kv)))) H' ∧ H' F = some (.lst ((List.replicate i true).map V.bl))) ⟨same_upd nF, upd_same⟩ (fun i H' _ ⟨s, _⟩ => s _ _ edf) ?_ ?_
    · rintro i x H1 H2 hi ⟨s1, eF⟩ ⟨rfl, p, hp, rfl⟩
      have hm := List.mem_of_getElem? hp
      have il := (List.getElem?_eq_some_iff.mp hp).1
      have hb := kw p hm
      refine ⟨rfl, _, rfl, .str p.1, .ty "str", _, _, true, rfl, .ty _, .base (.str _), kit_ty (show kitB "str" "str" = some true by decide +kernel), _, rfl, iteT ?_⟩
      have gg : getA kv p.1 = some p.2 := getA_of_mem nd2 (by rw [show (p.1, p.2) = p from rfl]; exact hm)
      refine ⟨_, rfl, l, _, 2, _, rfl, rfl, SqT.of (s1 _ _ elf), i2, _, rfl, d, V.int p.2, rfl, .inl ⟨sd kv, .inr p.1, .inr ⟨od, s1 _ _ edf⟩, rfl, by rw [val_row, gg]; rfl⟩, p.2, 1, rfl, ?_⟩
      rw [decide_eq_true hb]
      refine ⟨_, eF, small2k (by rw [List.length_map, List.length_replicate]; omega), same_app nF s1, ?_⟩
      rw [upd_same, ← rep_succ, List.map_append]
      rfl
    · rintro H1 ⟨s1, eF⟩
      have eF2 : L2.upd H1 d (.dK (sd kv)) F = some (.lst ((List.replicate kv.length true).map V.bl)) := by rw [upd_ne nFd]; exact eF
      have s2 : Same H (L2.upd H1 d (.dK (sd kv))) := lock_back ed s1
      have ed1 := s1 _ _ edf
      generalize L2.upd H1 d (.dK (sd kv)) = H2 at *
      refine ⟨ed1, F, List.replicate kv.length true, rfl, SqL.of eF2, ?_⟩
      rw [rep_all]
      have et2 := s2 _ _ et
      have el2 := s2 _ _ el
      have ed2 := s2 _ _ ed
      have j0 : atI [V.int s, .int c, .int m] 0 = some (.int s) := atI_nat (j := 0) rfl
      have j1 : atI [V.int s, .int c, .int m] 1 = some (.int c) := atI_nat (j := 1) rfl
      have j2 : atI [V.int s, .int c, .int m] 2 = some (.int m) := atI_nat (j := 2) rfl
      have := N.s2
      have := N.m1
      have := N.m2
      have cm1 : CMulW mb m := wide_mul (a := 150) (b := 150) (Nat.lt_of_le_of_lt (show mb.natAbs ≤ 10 ^ 40 by omega) (by decide)) (Nat.lt_of_le_of_lt (show m.natAbs ≤ 10 ^ 40 by omega) (by decide)) (by decide) (by decide) (by decide)
      have cm2 : CMulW mo m := wide_mul (a := 150) (b := 150) (Nat.lt_of_le_of_lt (show mo.natAbs ≤ 10 ^ 40 by omega) (by decide)) (Nat.lt_of_le_of_lt (show m.natAbs ≤ 10 ^ 40 by omega) (by decide)) (by decide) (by decide) (by decide)
      refine ⟨_, rfl, iteF ⟨_, rfl, l, _, 0, _, rfl, rfl, SqT.of el2, i0, _, rfl, l, _, 1, _, rfl, rfl, SqT.of el2, i1, _, _, rfl, _, rfl, t, _, 0, _, rfl, rfl, SqT.of et2, j0, _, _, rfl, rfl, _, rfl, ?_⟩⟩
      rw [decide_eq_false (by split <;> omega)]
      refine ⟨_, rfl, l, _, 1, _, rfl, rfl, SqT.of el2, i1, _, rfl, t, _, 2, _, rfl, rfl, SqT.of et2, j2, _, _, rfl, rfl, cm1, _, rfl, t, _, 1, _, rfl, rfl, SqT.of et2, j1, _, _, rfl, rfl, _, rfl, ?_⟩
      rw [decide_eq_false (by omega)]
      refine iteF ⟨_, rfl, l, _, 0, _, rfl, rfl, SqT.of el2, i0, _, rfl, t, _, 2, _, rfl, rfl, SqT.of et2, j2, _, _, rfl, rfl, cm2, _, rfl, l, _, 2, _, rfl, rfl, SqT.of el2, i2, d, _, kv.map (·.2), rfl, ed2, sd_vals kv, _, _, rfl, rfl, _, rfl, t, _, 1, _, rfl, rfl, SqT.of et2, j1, _, _, rfl, rfl, ?_⟩
      show Q (.bl (decide (mo * m + (kv.map (·.2)).sum ≤ c))) H2
      rw [decide_eq_true (show mo * m + (kv.map (·.2)).sum ≤ c from om)]
      exact q H2 s2
end
end K34
set_option Elab.async false
set_option linter.all false
set_option maxRecDepth 100000
set_option maxHeartbeats 1600000
/-! Own layer (pure): all loads together take all men and all stores (k34). -/
namespace LG
open LT
open PySem PySem.Spec PyProof.Rows L2 NdefX
theorem sum_range_succ (f : Nat → Int) (n : Nat) : ((List.range (n + 1)).map f).sum = ((List.range n).map f).sum + f n := by
  rw [List.range_succ, List.map_append, List.sum_append]
  simp
theorem mo_sum {r o : Int} (r0 : 0 ≤ r) (o0 : 0 ≤ o) : ∀ n : Nat, ((List.range n).map (moF r o)).sum = min o ((n : Int) * r)
  | 0 => by
    simp
    omega
  | n + 1 => by
    rw [sum_range_succ, mo_sum r0 o0 n]
    unfold moF
    have e : ((n + 1 : Nat) : Int) * r = (n : Int) * r + r := by
      rw [Int.natCast_add, Int.add_mul]
      simp
    rw [e]
    generalize (n : Int) * r = x
    omega
theorem wt_sum {c m r o : Int} (r0 : 0 ≤ r) (o0 : 0 ≤ o) : ∀ n : Nat, ((List.range n).map (wtF c m r o)).sum = (n : Int) * c - ((List.range n).map (moF r o)).sum * m
  | 0 => by simp
  | n + 1 => by
    rw [sum_range_succ, sum_range_succ, wt_sum r0 o0 n]
    unfold wtF
    have e : ((n + 1 : Nat) : Int) * c = (n : Int) * c + c := by
      rw [Int.natCast_add, Int.add_mul]
      simp
    rw [e, Int.add_mul]
    omega
structure Fits (c m r o : Int) : Prop where
  w0 : ∀ i, 0 ≤ wtF c m r o i
theorem fits {c m r o : Int} (m0 : 0 ≤ m) (r0 : 0 ≤ r) (h : r * m ≤ c) : Fits c m r o := ⟨fun i => by
  unfold wtF
  have h1 : moF r o i ≤ r := by
    unfold moF
    omega
  have := Int.mul_le_mul_of_nonneg_right h1 m0
  omega⟩
theorem rest_nn {c m r o : Int} {kvs : KV2} (F : Fits c m r o) (h : ∀ q ∈ kvs, 0 ≤ q.2) : ∀ n, ∀ q ∈ restN c m r o kvs n, 0 ≤ q.2
  | 0 => h
  | n + 1 => (invT (F.w0 n) _ (restN c m r o kvs n) rfl (rest_nn F h n)).nn
theorem stepInv {c m r o : Int} {kvs : KV2} (F : Fits c m r o) (h : ∀ q ∈ kvs, 0 ≤ q.2) (n : Nat) : InvT (wtF c m r o n) (restN c m r o kvs n) (stT (wtF c m r o n) (restN c m r o kvs n)) :=
  invT (F.w0 n) _ (restN c m r o kvs n) rfl (rest_nn F h n)
def tot (kvs : KV2) : Int := (kvs.map (·.2)).sum
theorem sum_zero : ∀ {kvs : KV2}, (∀ q ∈ kvs, q.2 = 0) → (kvs.map (·.2)).sum = 0
  | [], _ => rfl
  | x :: r, h => by
    rw [List.map_cons, List.sum_cons, h x List.mem_cons_self, sum_zero fun q hq => h q (List.mem_cons_of_mem _ hq)]
    rfl
theorem sum_nn : ∀ {kvs : KV2}, (∀ q ∈ kvs, 0 ≤ q.2) → 0 ≤ (kvs.map (·.2)).sum
  | [], _ => by simp
  | x :: r, h => by
    rw [List.map_cons, List.sum_cons]
    have := h x List.mem_cons_self
    have := sum_nn fun q hq => h q (List.mem_cons_of_mem _ hq)
    omega
theorem zero_of_sum : ∀ {kvs : KV2}, (∀ q ∈ kvs, 0 ≤ q.2) → (kvs.map (·.2)).sum ≤ 0 → ∀ q ∈ kvs, q.2 = 0
  | [], _, _ => nofun
  | x :: r, h, hs => fun q hq => by
    rw [List.map_cons, List.sum_cons] at hs
    have h1 := h x List.mem_cons_self
    have h2 := sum_nn fun q hq => h q (List.mem_cons_of_mem _ hq)
    rcases List.mem_cons.mp hq with rfl | hq
    · omega
    · exact zero_of_sum (fun q hq => h q (List.mem_cons_of_mem _ hq)) (by omega) q hq
theorem rest_tot {c m r o : Int} {kvs : KV2} (F : Fits c m r o) (h : ∀ q ∈ kvs, 0 ≤ q.2) : ∀ n, tot (restN c m r o kvs n) ≤ max 0 (tot kvs - ((List.range n).map (wtF c m r o)).sum)
  | 0 => by
    show tot kvs ≤ _
    simp
    omega
  | n + 1 => by
    have I := stepInv F h n
    have ih := rest_tot F h n
    have w0 := F.w0 n
    rw [sum_range_succ]
    have e1 := I.sm
    have e2 := I.tot
    have a0 := I.w0
    have ef := I.full
    have sn := sum_nn I.nn
    have s0 : (∀ q ∈ (stT (wtF c m r o n) (restN c m r o kvs n)).2.1, q.2 = 0) → ((stT (wtF c m r o n) (restN c m r o kvs n)).2.1.map (·.2)).sum = 0 := sum_zero
    show ((stT (wtF c m r o n) (restN c m r o kvs n)).2.1.map (·.2)).sum ≤ _
    unfold tot at ih ⊢
    generalize ((stT (wtF c m r o n) (restN c m r o kvs n)).2.1.map (·.2)).sum = x at *
    generalize ((stT (wtF c m r o n) (restN c m r o kvs n)).2.2.map (·.2)).sum = y at *
    generalize (stT (wtF c m r o n) (restN c m r o kvs n)).1 = z at *
    generalize wtF c m r o n = wt at *
    rcases ef with ef | ef
    · omega
    · have := s0 ef
      omega
/-- behind enough goings nothing is left -/
theorem rest_none {c m r o : Int} {kvs : KV2} (F : Fits c m r o) (h : ∀ q ∈ kvs, 0 ≤ q.2) {n : Nat} (hn : tot kvs ≤ ((List.range n).map (wtF c m r o)).sum) : ∀ q ∈ restN c m r o kvs n, q.2 = 0 := by
  refine zero_of_sum (rest_nn F h n) ?_
  have := rest_tot F h n
  unfold tot at this hn
  omega
def ofZ (z : Str) (kvs : KV2) : Int := ((kvs.filter (fun q => q.1 == z)).map (·.2)).sum
theorem each_sum {c m r o : Int} {kvs : KV2} (F : Fits c m r o) (h : ∀ q ∈ kvs, 0 ≤ q.2) (z : Str) : ∀ n, ofZ z (restN c m r o kvs n) + ((List.range n).map fun i => ofZ z (partN c m r o kvs i)).sum = ofZ z kvs
  | 0 => by
    show ofZ z kvs + _ = _
    simp
  | n + 1 => by
    rw [sum_range_succ]
    have ih := each_sum F h z n
    have e := (stepInv F h n).each z
    have e : ofZ z (restN c m r o kvs (n + 1)) + ofZ z (partN c m r o kvs n) = ofZ z (restN c m r o kvs n) := e
    omega
theorem part_sub (wt : Int) : ∀ (n : Nat) (rs : KV2), rs.length = n → List.Sublist ((stT wt rs).2.2.map (·.1)) (rs.map (·.1)) := by
  intro n
  induction n with
  | zero =>
    intro rs hl
    have : rs = [] := List.length_eq_zero_iff.mp hl
    subst this
    exact List.Sublist.refl _
  | succ n ih =>
    intro rs hl
    obtain ⟨r, q, rfl⟩ : ∃ r q, rs = r ++ [q] := by
      have hne : rs ≠ [] := fun e => by rw [e] at hl; cases hl
      exact ⟨rs.dropLast, rs.getLast hne, (List.dropLast_concat_getLast hne).symm⟩
    have hl2 : r.length = n := by rw [List.length_append] at hl; simpa using hl
    have I := ih r hl2
    rw [stT_snoc, List.map_append]
    unfold stepT
    split
    · show List.Sublist (((stT wt r).2.2 ++ [(q.1, min q.2 (stT wt r).1)]).map (·.1)) _
      rw [List.map_append]
      exact I.append (List.Sublist.refl _)
    · exact I.trans (List.sublist_append_left _ _)
/-- what one going takes -/
structure PartOK (kvs : KV2) (wt : Int) (p : KV2) : Prop where
  nd : (p.map (·.1)).Nodup
  len : p.length ≤ kvs.length
  ps : ∀ q ∈ p, 1 ≤ q.2
  sub : ∀ q ∈ p, q.1 ∈ kvs.map (·.1)
  le : tot p ≤ wt
theorem part_ok {c m r o : Int} {kvs : KV2} (F : Fits c m r o) (h : ∀ q ∈ kvs, 0 ≤ q.2) (nd : (kvs.map (·.1)).Nodup) (n : Nat) : PartOK kvs (wtF c m r o n) (partN c m r o kvs n) := by
  have I := stepInv F h n
  have S := part_sub (wtF c m r o n) _ (restN c m r o kvs n) rfl
  rw [restN_keys] at S
  refine ⟨nd.sublist S, ?_, I.ps, fun q hq => ?_, ?_⟩
  · have := S.length_le
    rwa [List.length_map, List.length_map] at this
  · exact S.subset (List.mem_map_of_mem hq)
  · have e1 := I.sm
    have a0 := I.w0
    show ((stT (wtF c m r o n) (restN c m r o kvs n)).2.2.map (·.2)).sum ≤ _
    omega
end LG
set_option Elab.async false
set_option linter.all false
set_option maxRecDepth 100000
set_option maxHeartbeats 1600000
/-! Own layer: sorted of a dict whose keys are tuples. -/
namespace LT
open PySem PySem.Spec PyProof.Rows L2
end LT
set_option Elab.async false
set_option linter.all false
set_option maxRecDepth 100000
set_option maxHeartbeats 1600000
/-! Own layer: entries as a law makes them: a dict by kind, known, name, day; sorted. -/
namespace LT
open PySem PySem.Spec PyProof.Rows L2 NdefX
abbrev EvK := Bool × Int × Str × Int
def evK (e : Evt) : EvK := (e.mv, e.kn, e.who, e.day)
def kT (k : EvK) : List Key := [Sum.inr (kindS k.1), Sum.inl k.2.1, Sum.inr k.2.2.1, Sum.inl k.2.2.2]
def tellD (es : List Evt) : List (EvK × V) := es.foldl (fun t e => putA t (evK e) e.w) []
def evOfK (p : EvK × V) : Evt := ⟨p.1.1, p.1.2.1, p.1.2.2.1, p.1.2.2.2, p.2⟩
def entW (es : List Evt) : List Evt := ((tellD es).map evOfK).mergeSort evLe
/-! ### the keys in the heap -/
end LT
set_option Elab.async false
set_option linter.all false
set_option maxRecDepth 100000
set_option maxHeartbeats 1600000
/-! Own layer: == of two dicts, alike or not; == of entries, alike or not. -/
namespace LT
open PySem PySem.Spec PyProof.Rows L2 NdefX
noncomputable instance evDec : DecidableEq Evt := fun _ _ => Classical.propDecidable _
theorem valV_mem2 {k : Key} {v : V} : ∀ {ls : List (Key × V)}, valV ls k = some v → ∃ p ∈ ls, p.2 = v
  | [], h => by cases h
  | p :: r, h => by
    by_cases e : p.1 = k
    · rw [valV_pos e] at h
      exact ⟨p, List.mem_cons_self, Option.some.inj h⟩
    · rw [valV_neg e] at h
      obtain ⟨q, hq, e2⟩ := valV_mem2 h
      exact ⟨q, List.mem_cons_of_mem _ hq, e2⟩
def hitB (ls : List (Key × V)) (p : Key × V) : Bool := match valV ls p.1 with
  | none => false
  | some w => eqV p.2 w
def dkEq (ks ls : List (Key × V)) : Bool := ks.length == ls.length && ks.all (hitB ls)
theorem hits_gen {A : Around} {s : Shared} {ls : List (Key × V)} {vb : List (Key × Value)} (rb : KV ls vb) {ks : List (Key × V)} {va : List (Key × Value)} (ra : KV ks va) :
    (∀ p ∈ ks, flatV p.2 = true) → (∀ p ∈ ls, flatV p.2 = true) → PySem.W.KeqHits A s vb va (ks.all (hitB ls)) := by
  unfold KV at ra
  induction ra with
  | nil => intro _ _; exact .nil
  | @cons p q ps qs h t ih =>
    intro hp hl
    obtain ⟨h1, h2⟩ := h
    obtain ⟨k, v⟩ := q
    have h1' : p.1 = k := h1
    have rr : RelO (valV ls p.1) (valueAt vb p.1) := rb.val p.1
    rw [List.all_cons]
    unfold hitB
    cases e : valV ls p.1 with
    | none =>
      rw [e] at rr
      have hn : valueAt vb k = none := by
        rw [← h1']
        cases e2 : valueAt vb p.1 with
        | none => rfl
        | some y =>
          rw [e2] at rr
          cases rr
      show PySem.W.KeqHits A s vb ((k, v) :: qs) false
      exact .miss hn
    | some w =>
      rw [e] at rr
      obtain ⟨y, hy, ry⟩ := rr.some_of
      rw [h1'] at hy
      have fw : flatV w = true := by
        obtain ⟨p', hp', e2⟩ := valV_mem2 e
        rw [← e2]
        exact hl _ hp'
      exact .hit hy (eqAt_V h2 ry (hp p List.mem_cons_self) fw) (ih (fun p' hm => hp p' (List.mem_cons_of_mem _ hm)) hl)
def rEqDG : R2 := fun x y H Q => ∃ a b ks ls, x = .ref a ∧ y = .ref b ∧ H a = some (.dK ks) ∧ H b = some (.dK ls) ∧ (∀ p ∈ ks, flatV p.2 = true) ∧ (∀ p ∈ ls, flatV p.2 = true) ∧ Q (.bl (dkEq ks ls)) H
section
variable {X : Cx}
theorem op_eqDG (hu : X.A.units < cLine) : OpR X (compareOp .Eq) rEqDG := by
  intro pins s σ H x y v u Q I rx ry h
  obtain ⟨a, b, ks, ls, rfl, rfl, ea, eb, h1, h2, q⟩ := h
  obtain rfl : v = Value.ref a := rx
  obtain rfl : u = Value.ref b := ry
  obtain ⟨_, ya, va, ra, da⟩ := (show ObjOk X.prog X.w H s.heap a (.dK ks) from I.hok a _ ea)
  obtain ⟨_, yb, vb, rb, db⟩ := (show ObjOk X.prog X.w H s.heap b (.dK ls) from I.hok b _ eb)
  exact PySem.W.keq_eq (knd := mixKind X.prog X.w) (r := ks.all (hitB ls)) ya yb da db hu (fun _ => hits_gen rb ra h1 h2) (fin_bl I q (by unfold dkEq; rw [ra.length, rb.length]))
end
/-! ### ranks -/
theorem sd_flat (rk : List (Str × Int)) : ∀ p ∈ sd rk, flatV p.2 = true := fun p hp => by
  obtain ⟨x, _, rfl⟩ := List.mem_map.mp hp
  rfl
def rkEq (rk rk' : List (Str × Int)) : Bool := dkEq (sd rk) (sd rk')
theorem sd_val (rk : List (Str × Int)) (nd : (rk.map (·.1)).Nodup) {p : Str × Int} (hp : p ∈ rk) : valV (sd rk) (.inr p.1) = some (.int p.2) := by
  induction rk with
  | nil => cases hp
  | cons a r ih =>
    have nd' := List.nodup_cons.mp (show (a.1 :: r.map (·.1)).Nodup from nd)
    rcases List.mem_cons.mp hp with rfl | hp
    · exact valV_pos rfl
    · have h : ¬ (Sum.inr a.1 : Key) = Sum.inr p.1 := fun e => nd'.1 (by rw [Sum.inr.inj e]; exact List.mem_map.mpr ⟨p, hp, rfl⟩)
      show valV ((Sum.inr a.1, V.int a.2) :: sd r) _ = _
      rw [valV_neg h]
      exact ih nd'.2 hp
theorem rkEq_perm {rk rk' : List (Str × Int)} (nd : (rk.map (·.1)).Nodup) (p : rk.Perm rk') : rkEq rk rk' = true := by
  have nd' : (rk'.map (·.1)).Nodup := (p.map (·.1)).nodup nd
  unfold rkEq dkEq
  rw [Bool.and_eq_true]
  refine ⟨by simp [sd_len, p.length_eq], List.all_eq_true.mpr fun q hq => ?_⟩
  obtain ⟨x, hx, rfl⟩ := List.mem_map.mp hq
  unfold hitB
  show (match valV (sd rk') (Sum.inr x.1) with | none => false | some w => eqV (V.int x.2) w) = true
  rw [sd_val rk' nd' (p.mem_iff.mp hx)]
  show (x.2 == x.2) = true
  simp
/-! ### entries -/
end LT
set_option Elab.async false
set_option linter.all false
set_option maxRecDepth 100000
set_option maxHeartbeats 1600000
set_option pp.maxSteps 300
namespace K34
open PySem PySem.Spec PyProof.Rows L2 LT NdefX
section
variable {P : Program} {w : World} {K : PySem.W.Frag} {mg : Str → Option Value} {base : Heap}
structure LoadOK (kvs : LG.KV2) (l : LG.Ld) : Prop where
  nd : (l.2.2.map (·.1)).Nodup
  len : l.2.2.length ≤ 8
  ps : ∀ q ∈ l.2.2, 1 ≤ q.2
  sub : ∀ q ∈ l.2.2, q.1 ∈ kvs.map (·.1)
/-- what is gone so far, as the law gathers it -/
structure GoneOK (kvs gs : LG.KV2) (f : Str → Int) : Prop where
  nd : (gs.map (·.1)).Nodup
  sub : ∀ q ∈ gs, q.1 ∈ kvs.map (·.1)
  val : ∀ z, (getA gs z).getD 0 = f z
theorem gone_nil {kvs : LG.KV2} : GoneOK kvs [] fun z => ((([] : List LG.Ld)).map fun l => LG.ofZ z l.2.2).sum := ⟨List.nodup_nil, nofun, fun _ => rfl⟩
theorem GoneOK.ext {kvs gs : LG.KV2} {f f' : Str → Int} (g : GoneOK kvs gs f) (h : ∀ z, f' z = f z) : GoneOK kvs gs f' := ⟨g.nd, g.sub, fun z => by rw [g.val z, h z]⟩
theorem GoneOK.zero {kvs gs : LG.KV2} {f : Str → Int} {r : LG.KV2} (g : GoneOK kvs gs f) : GoneOK kvs gs fun z => f z + LG.ofZ z (r.take 0) := g.ext fun z => by
  rw [List.take_zero]
  show f z + 0 = f z
  omega
theorem GoneOK.len {kvs gs : LG.KV2} {f : Str → Int} {n : Nat} (g : GoneOK kvs gs f) (h : kvs.length ≤ n) : gs.length ≤ n := by
  have : gs.map (·.1) ⊆ kvs.map (·.1) := fun z hz => by
    obtain ⟨q, hq, rfl⟩ := List.mem_map.mp hz
    exact g.sub q hq
  have := List.Nodup.length_le_of_subset g.nd this
  rw [List.length_map, List.length_map] at this
  omega
theorem GoneOK.put {kvs gs : LG.KV2} {f : Str → Int} {z : Str} {v : Int} (g : GoneOK kvs gs f) (hz : z ∈ kvs.map (·.1)) : GoneOK kvs (putA gs z v) (fun y => if y = z then v else f y) := by
  refine ⟨nodup_put g.nd, fun q hq => ?_, fun y => ?_⟩
  · have : q.1 ∈ (putA gs z v).map (·.1) := List.mem_map_of_mem hq
    rw [keys_put] at this
    have sub : ∀ y ∈ gs.map (·.1), y ∈ kvs.map (·.1) := fun y hy => by
      obtain ⟨x, hx, rfl⟩ := List.mem_map.mp hy
      exact g.sub x hx
    split at this
    · exact sub _ this
    · rcases List.mem_append.mp this with h | h
      · exact sub _ h
      · rw [List.mem_singleton.mp h]
        exact hz
  · rw [getA_put]
    by_cases e : y = z
    · rw [if_pos e, if_pos e]
      rfl
    · rw [if_neg e, if_neg e]
      exact g.val y
theorem ofZ_snoc (z : Str) (r : LG.KV2) (p : Str × Int) : LG.ofZ z (r ++ [p]) = LG.ofZ z r + if z = p.1 then p.2 else 0 := by
  unfold LG.ofZ
  rw [List.filter_append, List.map_append, List.sum_append, List.filter_cons]
  by_cases e : z = p.1
  · subst e
    simp
  · rw [if_neg (by simp; exact fun h => e h.symm), if_neg e]
    simp
theorem ofZ_get {z : Str} : ∀ {kvs : LG.KV2}, (kvs.map (·.1)).Nodup → LG.ofZ z kvs = (getA kvs z).getD 0
  | [], _ => rfl
  | x :: r, h => by
    rw [List.map_cons] at h
    obtain ⟨h1, h2⟩ := List.nodup_cons.mp h
    unfold LG.ofZ
    rw [List.filter_cons]
    by_cases e : x.1 = z
    · subst e
      rw [if_pos (by simp), getA_pos rfl, List.filter_eq_nil_iff.mpr fun q hq => by
        have : q.1 ≠ x.1 := fun z => h1 (by rw [← z]; exact List.mem_map_of_mem hq)
        simp [this]]
      simp
    · rw [if_neg (by simp [e]), getA_neg e]
      exact ofZ_get h2
theorem nd_of : ∀ {x : LG.KV2}, (x.map (·.1)).Nodup → x.Nodup
  | [], _ => List.nodup_nil
  | a :: r, h => by
    rw [List.map_cons] at h
    obtain ⟨h1, h2⟩ := List.nodup_cons.mp h
    exact List.nodup_cons.mpr ⟨fun hm => h1 (List.mem_map_of_mem hm), nd_of h2⟩
theorem gone_eq {kvs gs : LG.KV2} {ls : List LG.Ld} (k : Kv kvs) (g : GoneOK kvs gs fun z => (ls.map fun l => LG.ofZ z l.2.2).sum) (h : ∀ z, (ls.map fun l => LG.ofZ z l.2.2).sum = LG.ofZ z kvs) : dkEq (sd gs) (sd kvs) = true := by
  have e : ∀ z, (getA gs z).getD 0 = (getA kvs z).getD 0 := fun z => by rw [g.val z, h z, ofZ_get k.nd]
  have nd1 : gs.Nodup := nd_of g.nd
  have nd2 : kvs.Nodup := nd_of k.nd
  refine rkEq_perm g.nd ((List.perm_ext_iff_of_nodup nd1 nd2).mpr fun a => ⟨fun ha => ?_, fun ha => ?_⟩)
  · obtain ⟨z, n⟩ := a
    have e1 := getA_of_mem g.nd ha
    obtain ⟨q, hq, ez⟩ := List.mem_map.mp (g.sub _ ha)
    obtain ⟨z', n'⟩ := q
    have ez : z' = z := ez
    subst ez
    have e2 := getA_of_mem k.nd hq
    have := e z'
    rw [e1, e2] at this
    have : n = n' := this
    rw [this]
    exact hq
  · obtain ⟨z, n⟩ := a
    have e2 := getA_of_mem k.nd ha
    have n1 : 1 ≤ n := k.w1 _ ha
    have := e z
    rw [e2] at this
    cases e1 : getA gs z with
    | none =>
      rw [e1] at this
      have : (0 : Int) = n := this
      omega
    | some n' =>
      rw [e1] at this
      have : n' = n := this
      rw [← this]
      exact getA_mem e1
def spCarry : Sp := fun vs H Q _ => ∃ (L d : Addr) (ts ds : List Addr) (ls : List LG.Ld) (o b : Int) (kvs : LG.KV2), vs = [.ref L, .int o, .int b, .ref d] ∧ LG.LdsAt H L ts ds ls ∧ H d = some (.dK (sd kvs)) ∧ Kv kvs ∧ kvs.length ≤ 8 ∧ ls.length ≤ 300 ∧
  (ls.map (·.1)).sum = o ∧ (ls.map (·.2.1)).sum = b ∧ (∀ l ∈ ls, LoadOK kvs l) ∧ (∀ z, (ls.map fun l => LG.ofZ z l.2.2).sum = LG.ofZ z kvs) ∧ ∀ H', Same H H' → Q (.bl true) H'
theorem sc__law_carry_all : FnScope ["_law_found", "_law_away", "_law_home", "_law_cargo", "_law_gone", "_law_load", "_law_name_here"] ["_law_found", "_law_away", "_law_home", "_law_cargo"] (defScope s__law_carry_all) := ⟨rfl, rfl, rfl, by decide +kernel, rfl, by decide +kernel, by decide +kernel⟩
theorem ok__law_carry_all (D : All K P mg) : FnOk P w K mg base CX0 1 D.f__law_carry_all D.d__law_carry_all ["_law_found", "_law_away", "_law_home", "_law_cargo"] spCarry := by
  refine D.h__law_carry_all.fn.ok sc__law_carry_all (fun vs H Q E h => ?_) (fun cdv A outer s H vs Q E hr h => ?_)
  · first | (obtain ⟨_, rfl, _⟩ := h; rfl) | (obtain ⟨_, _, rfl, _⟩ := h; rfl) | (obtain ⟨_, _, _, rfl, _⟩ := h; rfl) | (obtain ⟨_, _, _, _, rfl, _⟩ := h; rfl) | (obtain ⟨_, _, _, _, _, rfl, _⟩ := h; rfl) | (obtain ⟨_, _, _, _, _, _, rfl, _⟩ := h; rfl) | (obtain ⟨_, _, _, _, _, _, _, rfl, _⟩ := h; rfl) | (obtain ⟨_, _, _, _, _, _, _, _, rfl, _⟩ := h; rfl) | (obtain ⟨_, _, _, _, _, _, _, _, _, rfl, _⟩ := h; rfl) | (obtain ⟨_, _, _, _, _, _, _, _, _, _, rfl, _⟩ := h; rfl) | (obtain ⟨_, _, _, _, _, _, _, _, _, _, _, rfl, _⟩ := h; rfl) | (obtain ⟨_, _, _, _, _, _, _, _, _, _, _, _, rfl, _⟩ := h; rfl) | (obtain ⟨_, _, _, _, _, _, _, _, _, _, _, _, _, rfl, _⟩ := h; rfl) | (obtain ⟨_, _, _, _, _, _, _, _, _, _, _, _, _, _, rfl, _⟩ := h; rfl) | (obtain ⟨_, _, _, _, _, _, _, _, _, _, _, _, _, _, _, rfl, _⟩ := h; rfl)
  · have T := D.T
    have nd := sc__law_carry_all.nd
    have hu := hr.units
    have hu1 := hu_of hr
    have hu0 := hr.units0
    obtain ⟨L, d, ts, ds, ls, o, b, kvs, rfl, k, ed, kv, k8, n3, eo, eb, hl, hz, q⟩ := h
    refine ⟨_, pss_cons (ps_if (PW.pt (pw_or (pt_cmpR op_ne (pe_callB (cr_sum rfl) (by rfl) T.sum (by decide +kernel) (pa_cons (pe_lc (own := [("_law_load", 5)]) (g := gName 5) (tt := tYes) rfl nd (pi_list (pv 0)) (blkOk_by (N := ["_law_found", "_law_away", "_law_home", "_law_cargo", "_law_gone", "_law_load", "_law_name_here"]) (sc := defScope s__law_carry_all) (by decide +kernel)) (fun _ _ _ _ _ => (pg_name (i := 5) nd rfl (Or.inl rfl))) (fun _ _ _ _ _ => pts_nil) (fun _ _ _ _ _ => (pe_ix (show IxR _ (rIxT K) from ix_tup) (pv 5) pe_int (fun _ _ => rfl)))) pa_nil)) (pv 1) (nomark _)) (pw_or1 (pt_cmpR op_ne (pe_callB (cr_sum rfl) (by rfl) T.sum (by decide +kernel) (pa_cons (pe_lc (own := [("_law_load", 5)]) (g := gName 5) (tt := tYes) rfl nd (pi_list (pv 0)) (blkOk_by (N := ["_law_found", "_law_away", "_law_home", "_law_cargo", "_law_gone", "_law_load", "_law_name_here"]) (sc := defScope s__law_carry_all) (by decide +kernel)) (fun _ _ _ _ _ => (pg_name (i := 5) nd rfl (Or.inl rfl))) (fun _ _ _ _ _ => pts_nil) (fun _ _ _ _ _ => (pe_ix (show IxR _ (rIxT K) from ix_tup) (pv 5) pe_int (fun _ _ => rfl)))) pa_nil)) (pv 2) (nomark _))))) (pss_one (ps_ret pe_bl)) pss_nil)
      (pss_cons (ps_set (i := 4) nd rfl (.inl rfl) pe_dnewK)
      (pss_cons (ps_for PassesOwn.never rfl (pi_list (pv 0)) (pg_name (i := 5) nd rfl (Or.inl rfl)) (pss_one (ps_lock (ps_for PassesOwn.never rfl (pi_keys (pe_ix ix_tup (pv 5) pe_int (fun _ _ => rfl))) (pg_name (i := 6) nd rfl (Or.inl rfl)) (pss_one (ps_dput hu1 (pv 4) (pv 6) (pe_op op_add (pe_dget2 hu1 (pv 4) (pv 6) pe_int ⟨rfl, rfl, rfl, rfl⟩) (pe_dget hu1 (pe_ix ix_tup (pv 5) pe_int (fun _ _ => rfl)) (pv 6) (fun _ _ => rfl))) rfl))))))
      (pss_one (ps_ret (pe_cmpR (LT.op_eqDG hu0) (pv 4) (pv 3) (nomark _)))))), ?_⟩
    have item : ∀ {i : Nat} {y : V}, (ts.map V.ref)[i]? = some y → ∃ (t d' : Addr) (l : LG.Ld), y = .ref t ∧ t ∈ ts ∧ ds[i]? = some d' ∧ ls[i]? = some l ∧ l ∈ ls ∧ H t = some (.tup [.int l.1, .int l.2.1, .ref d']) ∧ H d' = some (.dK (sd l.2.2)) := fun {i y} hy => by
      rw [List.getElem?_map, Option.map_eq_some_iff] at hy
      obtain ⟨t, ht, rfl⟩ := hy
      have lt := k.lt
      have ld := k.ld
      have il := (List.getElem?_eq_some_iff.mp ht).1
      have hd := List.getElem?_eq_getElem (l := ds) (i := i) (by omega)
      have hl := List.getElem?_eq_getElem (l := ls) (i := i) (by omega)
      obtain ⟨e1, e2⟩ := k.row i _ _ _ ht hd hl
      exact ⟨t, _, _, rfl, List.mem_of_getElem? ht, hd, hl, List.mem_of_getElem? hl, e1, e2⟩
    have tl : (ts.map V.ref).length = ls.length := by rw [List.length_map]; exact k.lt
    refine ⟨_, rfl, L, rfl, ⟨_, SqL.of k.e⟩, fun F nF => ?_⟩
    refine lc_list (K := K) (a := L) (xs := ts.map V.ref) (fun i H' => Same H H' ∧ H' F = some (.lst (((ls.take i).map (·.1)).map V.int))) ⟨same_upd nF, upd_same⟩ (fun j H' _ ⟨s, _⟩ => SqL.of (s _ _ k.e)) ?_ ?_
    · rintro i y H1 hy ⟨s1, eF⟩
      obtain ⟨t, d', l, rfl, ht, hd, hl', hm, et, ed'⟩ := item hy
      refine ⟨rfl, _, rfl, t, _, 0, _, rfl, rfl, SqT.of (s1 _ _ et), atI_nat (j := 0) rfl, _, eF, small2k (by simp only [List.length_map, List.length_take]; omega), same_app nF s1, ?_⟩
      rw [upd_same, List.take_succ, hl', List.map_append, List.map_append]
      rfl
    · rintro H1 ⟨s1, eF⟩
      rw [tl, List.take_length] at eF
      refine ⟨F, ls.map (·.1), rfl, SqL.of eF, ?_⟩
      rw [eo]
      refine ⟨_, rfl, rfl, _, rfl, ?_⟩
      rw [decide_eq_true (show V.int o = V.int o from rfl)]
      clear eF nF
      refine ⟨_, rfl, L, rfl, ⟨_, SqL.of (s1 _ _ k.e)⟩, fun F nF => ?_⟩
      refine lc_list (K := K) (a := L) (xs := ts.map V.ref) (fun i H' => Same H1 H' ∧ H' F = some (.lst (((ls.take i).map (·.2.1)).map V.int))) ⟨same_upd nF, upd_same⟩ (fun j H' _ ⟨s, _⟩ => SqL.of (s _ _ (s1 _ _ k.e))) ?_ ?_
      · rintro i y H2 hy ⟨s2, eF⟩
        obtain ⟨t, d', l, rfl, ht, hd, hl', hm, et, ed'⟩ := item hy
        refine ⟨rfl, _, rfl, t, _, 1, _, rfl, rfl, SqT.of (s2 _ _ (s1 _ _ et)), atI_nat (j := 1) rfl, _, eF, small2k (by simp only [List.length_map, List.length_take]; omega), same_app nF s2, ?_⟩
        rw [upd_same, List.take_succ, hl', List.map_append, List.map_append]
        rfl
      · rintro H2 ⟨s2, eF⟩
        rw [tl, List.take_length] at eF
        refine ⟨F, ls.map (·.2.1), rfl, SqL.of eF, ?_⟩
        rw [eb]
        refine ⟨_, rfl, rfl, _, rfl, ?_⟩
        rw [decide_eq_true (show V.int b = V.int b from rfl)]
        have s02 := s1.trans s2
        clear eF nF
        refine iteF fun G nG => ?_
        have s3 := same_upd (o := .dK []) nG
        have eG := upd_same (H := H2) (a := G) (o := .dK [])
        have nG0 := s02.free nG
        have s03 := s02.trans s3
        generalize L2.upd H2 G (.dK []) = H3 at *
        refine ⟨_, rfl, L, rfl, ⟨_, SqL.of (s03 _ _ k.e)⟩, for_list (K := K) (a := L) (xs := ts.map V.ref) (fun i σ H' => (∃ x5 x6, σ = [some (.ref L), some (.int o), some (.int b), some (.ref d), some (.ref G), x5, x6]) ∧ Same H H' ∧ ∃ gs : LG.KV2, H' G = some (.dK (sd gs)) ∧ GoneOK kvs gs fun z => ((ls.take i).map fun l => LG.ofZ z l.2.2).sum) ⟨⟨none, none, rfl⟩, s03, [], eG, gone_nil⟩ (fun _ _ _ _ ⟨_, s, _⟩ => SqL.of (s _ _ k.e)) ?_ ?_⟩
        · rintro i y σ H4 hy ⟨⟨x5, x6, rfl⟩, s4, gs, eG4, g⟩
          obtain ⟨t, d', l, rfl, ht, hd, hl', hm, et, ed'⟩ := item hy
          have lk := hl l hm
          have ed4 := s4 _ _ ed'
          have et4 := s4 _ _ et
          refine ⟨d', _, ed4, trivial, fun od => ?_⟩
          have edf := upd_same (H := H4) (a := d') (o := .frz od (.dK (sd l.2.2)))
          have td : t ≠ d' := fun e => by rw [e, ed4] at et4; cases et4
          have Gd : G ≠ d' := fun e => by rw [← e, nG0] at ed'; cases ed'
          have tG : t ≠ G := fun e => by rw [e, nG0] at et; cases et
          have etf : L2.upd H4 d' (.frz od (.dK (sd l.2.2))) t = some (.tup [.int l.1, .int l.2.1, .ref d']) := by rw [upd_ne td]; exact et4
          have eGf : L2.upd H4 d' (.frz od (.dK (sd l.2.2))) G = some (.dK (sd gs)) := by rw [upd_ne Gd]; exact eG4
          refine ⟨_, rfl, t, _, 2, _, rfl, rfl, SqT.of etf, atI_nat (j := 2) rfl, d', od, rfl, .inl ⟨_, edf, for_it walk_rowk (fun j σ H' => (∃ x6, σ = [some (.ref L), some (.int o), some (.int b), some (.ref d), some (.ref G), some (.ref t), x6]) ∧ SameB G (L2.upd H4 d' (.frz od (.dK (sd l.2.2)))) H' ∧ ∃ gs : LG.KV2, H' G = some (.dK (sd gs)) ∧
            GoneOK kvs gs fun z => ((ls.take i).map fun l => LG.ofZ z l.2.2).sum + LG.ofZ z (l.2.2.take j)) ⟨⟨x6, rfl⟩, SameB.of (Same.refl _), gs, eGf, g.zero⟩ (fun j σ H' _ ⟨_, s, _⟩ => s _ _ (Ne.symm Gd) edf) ?_ ?_⟩⟩
          · rintro j x σ H5 H6 hj ⟨⟨x6, rfl⟩, s5, gs, eG5, g⟩ ⟨rfl, p, hp, rfl⟩
            have hm2 := List.mem_of_getElem? hp
            have gg : getA l.2.2 p.1 = some p.2 := getA_of_mem lk.nd (by rw [show (p.1, p.2) = p from rfl]; exact hm2)
            have gl : gs.length ≤ 8 := g.len k8
            refine ⟨_, rfl, G, rfl, .inl ⟨_, Rd.of eG5⟩, _, rfl, (getA gs p.1).map V.int, ?_, ?_⟩
            · have := DGet.k (k := Sum.inr p.1) eG5
              rw [val_row] at this
              exact this
            · rw [show ((getA gs p.1).map V.int).getD (V.int 0) = V.int ((getA gs p.1).getD 0) by cases getA gs p.1 <;> rfl]
              refine ⟨_, rfl, t, _, 2, _, rfl, rfl, SqT.of (s5 _ _ tG etf), atI_nat (j := 2) rfl, _, rfl, d', V.int p.2, rfl, .inl ⟨sd l.2.2, .inr p.1, .inr ⟨od, s5 _ _ (Ne.symm Gd) edf⟩, rfl, by rw [val_row, gg]; rfl⟩, _, _, rfl, rfl, _, rfl, _, rfl, G, _, rfl, DPut.k (k := Sum.inr p.1) eG5 (by rw [sd_len]; exact small2k (by omega)), ⟨_, rfl⟩, SameB.upd s5, putA gs p.1 ((getA gs p.1).getD 0 + p.2), ?_, ?_⟩
              · rw [upd_same, show putK (sd gs) (Sum.inr p.1) (V.int ((getA gs p.1).getD 0 + p.2)) = sd (putA gs p.1 ((getA gs p.1).getD 0 + p.2)) from put_en inr_inj gs p.1 _]
              · refine (g.put (lk.sub p hm2)).ext fun z => ?_
                rw [List.take_succ, hp]
                show _ + LG.ofZ z (l.2.2.take j ++ [p]) = _
                rw [ofZ_snoc]
                by_cases e : z = p.1
                · rw [if_pos e, if_pos e, g.val, e]
                  omega
                · rw [if_neg e, if_neg e]
                  omega
          · rintro σ H5 ⟨⟨x6, rfl⟩, s5, gs, eG5, g⟩
            rw [List.take_length] at g
            refine ⟨s5 _ _ (Ne.symm Gd) edf, ⟨_, _, rfl⟩, fun a u e => ?_, gs, by rw [upd_ne Gd]; exact eG5, ?_⟩
            · by_cases ha : a = d'
              · subst ha
                rw [upd_same, ← e, ed']
              · have aG : a ≠ G := fun z => by rw [z, nG0] at e; cases e
                rw [upd_ne ha]
                refine s5 _ _ aG ?_
                rw [upd_ne ha]
                exact s4 _ _ e
            · refine g.ext fun z => ?_
              rw [List.take_succ, hl', List.map_append, List.sum_append]
              simp
        · rintro σ H4 ⟨⟨x5, x6, rfl⟩, s4, gs, eG4, g⟩
          rw [tl, List.take_length] at g
          refine ⟨_, rfl, _, rfl, G, d, _, _, rfl, rfl, eG4, s4 _ _ ed, sd_flat gs, sd_flat kvs, ?_⟩
          rw [gone_eq kv g hz]
          exact q H4 s4
end
end K34
set_option Elab.async false
set_option linter.all false
set_option maxRecDepth 100000
set_option maxHeartbeats 1600000
/-! Own layer: what the stores refuse, within a try. -/
namespace LU
open LT
open PySem PySem.Spec PyProof.Rows L2 NdefX
def knB : V → Bool
  | .non => true
  | v => fromB v 0
def TxL (v : V) : Prop := ∀ z, v = .str z → z.length ≤ sizeLine
def Arm (C : Addr) (H : Hp) (E : L2.XK) : Prop := ∀ H', Same H H' → E (.ref C) none H'
end LU
set_option Elab.async false
set_option linter.all false
set_option maxRecDepth 100000
set_option maxHeartbeats 1600000
/-! Own layer: what books refuse, where an error may be handled (k64). -/
namespace LU
open LT
open PySem PySem.Spec PyProof.Rows L2 NdefX
def keepB (rk : List (Str × Int)) : V → Bool
  | .str z => decide (z ∈ rk.map (·.1))
  | _ => false
end LU
set_option Elab.async false
set_option linter.all false
set_option maxRecDepth 100000
set_option maxHeartbeats 1600000
/-! Own layer: defs that raise, with what is told of the raised error's context; defs to which it is handed, any(list) there. -/
namespace L2
open PySem PySem.Spec PyProof.Rows
end L2
namespace LT
open PySem PySem.Spec PyProof.Rows L2
/-! ### any(list) while an error is handled -/
end LT
set_option Elab.async false
set_option linter.all false
set_option maxRecDepth 100000
set_option maxHeartbeats 1600000
/-! Own layer: an own error with an own __init__ raised where nothing is handled, with what is told of its context; its field is a whole number. -/
set_option Elab.async false
set_option linter.all false
set_option maxRecDepth 100000
set_option maxHeartbeats 1600000
/-! Own layer: k86's rows. -/
namespace LU
open LT
open PySem PySem.Spec PyProof.Rows L2 NdefX
/-- the words of the rows -/
def wq (w : Nat) : Str := if w = 0 then Str.ofString "heads" else if w = 1 then Str.ofString "left" else if w = 2 then Str.ofString "unfed" else if w = 3 then Str.ofString "wanted" else Str.ofString "landing"
/-- a row as it is handed in -/
structure RowQ (H : Hp) (T : Addr) (w : Nat) (lv rv dv kv : V) : Prop where
  t : H T = some (.tup [.str (wq w), lv, rv, dv, kv])
  w5 : w < 5
  l : Odd H lv
  x : TxL lv
  r : Odd H rv
  d : Odd H dv
  k : Odd H kv
theorem RowQ.mono {H H' : Hp} {T : Addr} {w : Nat} {lv rv dv kv : V} (h : RowQ H T w lv rv dv kv) (s : Same H H') : RowQ H' T w lv rv dv kv := ⟨s _ _ h.t, h.w5, h.l.mono s, h.x, h.r.mono s, h.d.mono s, h.k.mono s⟩
end LU
namespace LU
open LT
open PySem PySem.Spec PyProof.Rows L2 NdefX LamX
theorem odd_look {H H' : Hp} {p : Addr} {v : V} (h : Odd H v) (hp : Pot H' p) (s : SameB p H H') : Odd H' v := by
  have pp : Odd H' (.ref p) := by
    obtain ⟨x, y, e, _⟩ := hp
    exact .lst e
  cases h with
  | non => exact .non
  | bl b => exact .bl b
  | int i => exact .int i
  | str z => exact .str z
  | @lst a xs e =>
    by_cases hap : a = p
    · rw [hap]; exact pp
    · exact .lst (s _ _ hap e)
  | @tup a xs e =>
    by_cases hap : a = p
    · rw [hap]; exact pp
    · exact .tup (s _ _ hap e)
  | @dK a xs e =>
    by_cases hap : a = p
    · rw [hap]; exact pp
    · exact .dK (s _ _ hap e)
theorem odd_ext {H H' : Hp} {v : V} (h : Odd H v) (x : ExtN H H') : Odd H' v := by
  cases h with
  | non => exact .non
  | bl b => exact .bl b
  | int i => exact .int i
  | str z => exact .str z
  | lst e => exact .lst (x _ _ e nofun)
  | tup e => exact .tup (x _ _ e nofun)
  | dK e => exact .dK (x _ _ e nofun)
end LU
set_option Elab.async false
set_option linter.all false
set_option maxRecDepth 100000
set_option maxHeartbeats 1600000
/-! Own layer: what a book's tellers and its maker refuse (k64). -/
namespace LU
open LT
open PySem PySem.Spec PyProof.Rows L2 NdefX LamX
/-- too early: the error with the latest known day is let out -/
def ErE (CE : Addr) (n : Int) (H : Hp) (E : L2.XK) : Prop := ∀ d H', H d = none → Same H H' → H' d = some (.xd [("latest", .int n)]) → E (.ref CE) (some d) H'
theorem ErE.mono {CE : Addr} {n : Int} {H H1 : Hp} {E : L2.XK} (h : ErE CE n H E) (s : Same H H1) : ErE CE n H1 E := fun d H' nd s' e => h d H' (s.free nd) (s.trans s') e
theorem Arm.mono {C : Addr} {H H1 : Hp} {E : L2.XK} (h : Arm C H E) (s : Same H H1) : Arm C H1 E := fun H' s' => h H' (s.trans s')
/-- what stands in a dict -/
inductive Pln : V → Prop
  | non : Pln .non
  | bl (b : Bool) : Pln (.bl b)
  | int (i : Int) : Pln (.int i)
  | str (z : Str) : Pln (.str z)
def rkB (kvs : List (Key × V)) : Bool := kvs.all fun p => nameB (kV p.1) && withinB p.2 1 9
/-- a thing that is no dict -/
inductive OddN (H : Hp) : V → Prop
  | non : OddN H .non
  | bl (b : Bool) : OddN H (.bl b)
  | int (i : Int) : OddN H (.int i)
  | str (z : Str) : OddN H (.str z)
  | lst {a : Addr} {xs : List V} : H a = some (.lst xs) → OddN H (.ref a)
  | tup {a : Addr} {xs : List V} : H a = some (.tup xs) → OddN H (.ref a)
/-- no ranks: no dict; more than thirty; a name or a rank that is none -/
def RkNo (H : Hp) (v : V) : Prop := OddN H v ∨
  ∃ (a : Addr) (kvs : List (Key × V)), v = .ref a ∧ H a = some (.dK kvs) ∧ kvs.length ≤ 1000 ∧ (30 < kvs.length ∨ ((∀ p ∈ kvs, Pln p.2 ∧ TxL (kV p.1)) ∧ rkB kvs = false))
theorem RkNo.by {H H' : Hp} {v : V} (h : RkNo H v) (f1 : ∀ a xs, v = .ref a → H a = some (.lst xs) → ∃ ys, H' a = some (.lst ys)) (f2 : ∀ a xs, v = .ref a → H a = some (.tup xs) → H' a = some (.tup xs)) (f3 : ∀ a xs, v = .ref a → H a = some (.dK xs) → H' a = some (.dK xs)) : RkNo H' v := by
  rcases h with o | ⟨a, kvs, e, ha, l, r⟩
  · refine .inl ?_
    cases o with
    | non => exact .non
    | bl b => exact .bl b
    | int i => exact .int i
    | str z => exact .str z
    | lst e =>
      obtain ⟨ys, h⟩ := f1 _ _ rfl e
      exact .lst h
    | tup e => exact .tup (f2 _ _ rfl e)
  · exact .inr ⟨a, kvs, e, f3 _ _ e ha, l, r⟩
theorem RkNo.mono {H H' : Hp} {v : V} (h : RkNo H v) (s : Same H H') : RkNo H' v := h.by (fun a xs _ e => ⟨xs, s _ _ e⟩) (fun a xs _ e => s _ _ e) (fun a xs _ e => s _ _ e)
theorem RkNo.ext {H H' : Hp} {v : V} (h : RkNo H v) (s : ExtN H H') : RkNo H' v := h.by (fun a xs _ e => ⟨xs, s _ _ e nofun⟩) (fun a xs _ e => s _ _ e nofun) (fun a xs _ e => s _ _ e nofun)
theorem RkNo.look {H H' : Hp} {v : V} {p : Addr} (h : RkNo H v) (hp : Pot H p) (hp' : Pot H' p) (s : SameB p H H') : RkNo H' v := h.by
  (fun a xs _ e => by
    by_cases hap : a = p
    · obtain ⟨x, y, e2, _⟩ := hp'
      exact ⟨_, by rw [hap]; exact e2⟩
    · exact ⟨xs, s _ _ hap e⟩) (fun a xs _ e => s _ _ (ne_of_pot hp e) e) (fun a xs _ e => s _ _ (ne_of_pot hp e) e)
theorem RkNo.put {H : Hp} {v : V} {R : Addr} {xs ys : List V} (h : RkNo H v) (e : H R = some (.lst xs)) : RkNo (L2.upd H R (.lst ys)) v := h.by
  (fun a xs' _ e2 => by
    by_cases hap : a = R
    · exact ⟨_, by rw [hap]; exact upd_same⟩
    · exact ⟨xs', by rw [upd_ne hap]; exact e2⟩) (fun a xs' _ e2 => by rw [upd_ne (fun z => by rw [z, e] at e2; cases e2)]; exact e2) (fun a xs' _ e2 => by rw [upd_ne (fun z => by rw [z, e] at e2; cases e2)]; exact e2)
end LU
set_option Elab.async false
set_option linter.all false
set_option maxRecDepth 100000
set_option maxHeartbeats 1600000
/-! Own layer: the rows of a call that a book refuses, which refusal is due (k64). -/
namespace LU
open LT
open PySem PySem.Spec PyProof.Rows L2 NdefX LamX
def wr (w : Nat) : Str := if w = 0 then Str.ofString "ranks" else if w = 1 then Str.ofString "tell" else if w = 2 then Str.ofString "land" else if w = 3 then Str.ofString "where" else if w = 4 then Str.ofString "landed" else
  if w = 5 then Str.ofString "turns" else if w = 6 then Str.ofString "there" else if w = 7 then Str.ofString "came" else if w = 8 then Str.ofString "went" else Str.ofString "changed"
def Cas64 (rk : List (Str × Int)) (n : Int) (H : Hp) : Nat → List V → Nat → Prop
  | 0, [a], j => j = 3 ∧ RkNo H a
  | 1, [kn, wv, dv, pv], j => (j = 0 ∧ fromB kn 0 = false) ∨ (j = 0 ∧ fromB kn 0 = true ∧ fromB dv 0 = false) ∨ (j = 4 ∧ fromB kn 0 = true ∧ fromB dv 0 = true ∧ keepB rk wv = false) ∨
      (j = 5 ∧ fromB kn 0 = true ∧ fromB dv 0 = true ∧ keepB rk wv = true ∧ pv ≠ .non ∧ placeB pv = false) ∨
      (j = 6 ∧ ∃ k : Int, kn = .int k ∧ 0 ≤ k ∧ fromB dv 0 = true ∧ keepB rk wv = true ∧ pv ≠ .non ∧ placeB pv = true ∧ k < n)
  | 2, [kn, lv, dv, wv], j => (j = 0 ∧ fromB kn 0 = false) ∨ (j = 0 ∧ fromB kn 0 = true ∧ fromB dv 0 = false) ∨ (j = 1 ∧ fromB kn 0 = true ∧ fromB dv 0 = true ∧ nameB lv = false) ∨
      (j = 2 ∧ fromB kn 0 = true ∧ fromB dv 0 = true ∧ nameB lv = true ∧ fromB wv 0 = false) ∨
      (j = 6 ∧ ∃ k : Int, kn = .int k ∧ 0 ≤ k ∧ fromB dv 0 = true ∧ nameB lv = true ∧ fromB wv 0 = true ∧ k < n)
  | 3, [wv, dv, kv], j => (j = 4 ∧ keepB rk wv = false) ∨ (j = 0 ∧ keepB rk wv = true ∧ (fromB dv 0 && knB kv) = false)
  | 4, [lv, dv, kv], j => (j = 1 ∧ nameB lv = false) ∨ (j = 0 ∧ nameB lv = true ∧ (fromB dv 0 && knB kv) = false)
  | 5, [wv, kv], j => (j = 4 ∧ keepB rk wv = false) ∨ (j = 0 ∧ keepB rk wv = true ∧ knB kv = false)
  | 6, [pv, dv, kv], j => (j = 5 ∧ placeB pv = false) ∨ (j = 0 ∧ placeB pv = true ∧ (fromB dv 0 && knB kv) = false)
  | 7, [pv, dv, kv], j => (j = 5 ∧ placeB pv = false) ∨ (j = 0 ∧ placeB pv = true ∧ (fromB dv 0 && knB kv) = false)
  | 8, [pv, dv, kv], j => (j = 5 ∧ placeB pv = false) ∨ (j = 0 ∧ placeB pv = true ∧ (fromB dv 0 && knB kv) = false)
  | 9, [dv, ev], j => j = 0 ∧ (fromB dv 0 = false ∨ (fromB dv 0 = true ∧ fromB ev 0 = false) ∨ ∃ i k : Int, dv = .int i ∧ ev = .int k ∧ 0 ≤ i ∧ 0 ≤ k ∧ k < i)
  | _, _, _ => False
theorem Cas64.lt {rk : List (Str × Int)} {n : Int} {H : Hp} : ∀ {w : Nat} {as : List V} {j : Nat}, Cas64 rk n H w as j → w < 10 ∧ j < 7 := by
  intro w as j h
  match w, as, h with
  | 0, [_], h => have := h.1; omega
  | 1, [_, _, _, _], h => rcases h with ⟨e, _⟩ | ⟨e, _⟩ | ⟨e, _⟩ | ⟨e, _⟩ | ⟨e, _⟩ <;> omega
  | 2, [_, _, _, _], h => rcases h with ⟨e, _⟩ | ⟨e, _⟩ | ⟨e, _⟩ | ⟨e, _⟩ | ⟨e, _⟩ <;> omega
  | 3, [_, _, _], h => rcases h with ⟨e, _⟩ | ⟨e, _⟩ <;> omega
  | 4, [_, _, _], h => rcases h with ⟨e, _⟩ | ⟨e, _⟩ <;> omega
  | 5, [_, _], h => rcases h with ⟨e, _⟩ | ⟨e, _⟩ <;> omega
  | 6, [_, _, _], h => rcases h with ⟨e, _⟩ | ⟨e, _⟩ <;> omega
  | 7, [_, _, _], h => rcases h with ⟨e, _⟩ | ⟨e, _⟩ <;> omega
  | 8, [_, _, _], h => rcases h with ⟨e, _⟩ | ⟨e, _⟩ <;> omega
  | 9, [_, _], h => have := h.1; omega
def Tx64 : Nat → List V → Prop
  | 0, [_] => True
  | 1, [_, wv, _, pv] => TxL wv ∧ TxL pv
  | 2, [_, lv, _, _] => TxL lv
  | 3, [v, _, _] => TxL v
  | 4, [v, _, _] => TxL v
  | 5, [v, _] => TxL v
  | 6, [v, _, _] => TxL v
  | 7, [v, _, _] => TxL v
  | 8, [v, _, _] => TxL v
  | 9, [_, _] => True
  | _, _ => False
theorem Cas64.by {rk : List (Str × Int)} {n : Int} {H H' : Hp} (f : ∀ v, RkNo H v → RkNo H' v) : ∀ {w : Nat} {as : List V} {j : Nat}, Cas64 rk n H w as j → Cas64 rk n H' w as j := by
  intro w as j h
  match w, as, h with
  | 0, [_], h => exact ⟨h.1, f _ h.2⟩
  | 1, [_, _, _, _], h => exact h
  | 2, [_, _, _, _], h => exact h
  | 3, [_, _, _], h => exact h
  | 4, [_, _, _], h => exact h
  | 5, [_, _], h => exact h
  | 6, [_, _, _], h => exact h
  | 7, [_, _, _], h => exact h
  | 8, [_, _, _], h => exact h
  | 9, [_, _], h => exact h
def wd64 (j : Nat) : Str := if j = 0 then Str.ofString "day" else if j = 1 then Str.ofString "name" else if j = 2 then Str.ofString "number" else if j = 3 then Str.ofString "ranks" else if j = 4 then Str.ofString "keeper" else if j = 5 then Str.ofString "place" else Str.ofString "early"
/-! ### the rows as a law makes them -/
def RowE64 (rk : List (Str × Int)) (n : Int) (H : Hp) (t : Addr) : Prop := ∃ (j w : Nat) (as : List V), H t = some (.tup (.str (wd64 j) :: .str (wr w) :: as)) ∧ (∀ v ∈ as, Odd H v) ∧ Tx64 w as ∧ Cas64 rk n H w as j
section
variable {rk : List (Str × Int)} {n : Int} {H0 H H' : Hp} {t p R : Addr}
theorem RowE64.mono (h : RowE64 rk n H t) (s : Same H H') : RowE64 rk n H' t := by
  obtain ⟨j, w, as, e, o, x, c⟩ := h
  exact ⟨j, w, as, s _ _ e, fun v hv => (o v hv).mono s, x, c.by fun v h => h.mono s⟩
theorem RowE64.ext (h : RowE64 rk n H t) (s : ExtN H H') : RowE64 rk n H' t := by
  obtain ⟨j, w, as, e, o, x, c⟩ := h
  exact ⟨j, w, as, s _ _ e nofun, fun v hv => odd_ext (o v hv) s, x, c.by fun v h => h.ext s⟩
theorem RowE64.look (h : RowE64 rk n H t) (hp : Pot H p) (hp' : Pot H' p) (s : SameB p H H') : RowE64 rk n H' t := by
  obtain ⟨j, w, as, e, o, x, c⟩ := h
  exact ⟨j, w, as, s _ _ (ne_of_pot hp e) e, fun v hv => odd_look (o v hv) hp' s, x, c.by fun v h => h.look hp hp' s⟩
theorem odd_putL {H : Hp} {R : Addr} {xs ys : List V} {v : V} (h : Odd H v) (e : H R = some (.lst xs)) : Odd (L2.upd H R (.lst ys)) v := by
  have pp : Odd (L2.upd H R (.lst ys)) (.ref R) := .lst upd_same
  cases h with
  | non => exact .non
  | bl b => exact .bl b
  | int i => exact .int i
  | str z => exact .str z
  | @lst a xs e2 =>
    by_cases hap : a = R
    · rw [hap]; exact pp
    · exact .lst (by rw [upd_ne hap]; exact e2)
  | @tup a xs e2 =>
    by_cases hap : a = R
    · rw [hap]; exact pp
    · exact .tup (by rw [upd_ne hap]; exact e2)
  | @dK a xs e2 =>
    by_cases hap : a = R
    · rw [hap]; exact pp
    · exact .dK (by rw [upd_ne hap]; exact e2)
theorem RowE64.put {xs ys : List V} (h : RowE64 rk n H t) (e : H R = some (.lst xs)) : RowE64 rk n (L2.upd H R (.lst ys)) t := by
  obtain ⟨j, w, as, et, o, x, c⟩ := h
  have ne : t ≠ R := fun z => by
    rw [z, e] at et
    cases et
  exact ⟨j, w, as, by rw [upd_ne ne]; exact et, fun v hv => odd_putL (o v hv) e, x, c.by fun v h => h.put e⟩
theorem row_make {zj zw : Str} {as : List V} (nt : H t = none) (j w : Nat) (ej : zj = wd64 j) (ew : zw = wr w) (o : ∀ v ∈ as, Odd H v) (x : Tx64 w as) (c : Cas64 rk n H w as j) : RowE64 rk n (L2.upd H t (.tup (.str zj :: .str zw :: as))) t := by
  subst ej ew
  have s := same_upd (o := .tup (.str (wd64 j) :: .str (wr w) :: as)) nt
  exact ⟨j, w, as, upd_same, fun v hv => (o v hv).mono s, x, c.by fun v h => h.mono s⟩
/-- the rows made so far: those in the list R, those still apart; things that stand by -/
structure P64 (rk : List (Str × Int)) (n : Int) (H0 H : Hp) (p : Addr) (R : Option (Addr × List Addr)) (us : List Addr) (vs : List V) (fs : List (Addr × List V)) : Prop where
  pot : Pot H p
  sm : SameB p H0 H
  ro : ∀ t ∈ us, RowE64 rk n H t
  ls : ∀ c, R = some c → H c.1 = some (.lst (c.2.map V.ref)) ∧ H0 c.1 = none ∧ ∀ t ∈ c.2, RowE64 rk n H t
  od : ∀ v ∈ vs, Odd H v
  fx : ∀ c ∈ fs, H c.1 = some (.tup c.2)
variable {Ro : Option (Addr × List Addr)} {us ts : List Addr} {vs : List V} {fs : List (Addr × List V)}
theorem refs_no {ts : List Addr} (a b : Int) : HO.lst (ts.map V.ref) ≠ .lst [.int a, .int b] := fun z => by
  have z := HO.lst.inj z
  match ts, z with
  | [], z => cases z
  | t :: r, z => cases (List.cons.inj z).1
theorem P64.mono (k : P64 rk n H0 H p Ro us vs fs) (s : Same H H') : P64 rk n H0 H' p Ro us vs fs :=
  ⟨k.pot.mono s, k.sm.trans (SameB.of s), fun t ht => (k.ro t ht).mono s, fun c hc => ⟨s _ _ (k.ls c hc).1, (k.ls c hc).2.1, fun t ht => ((k.ls c hc).2.2 t ht).mono s⟩, fun v hv => (k.od v hv).mono s, fun c hc => s _ _ (k.fx c hc)⟩
theorem P64.look (k : P64 rk n H0 H p Ro us vs fs) (hp : Pot H' p) (s : SameB p H H') : P64 rk n H0 H' p Ro us vs fs :=
  ⟨hp, k.sm.trans s, fun t ht => (k.ro t ht).look k.pot hp s, fun c hc => ⟨s _ _ (ne_of_pot k.pot (k.ls c hc).1 refs_no) (k.ls c hc).1, (k.ls c hc).2.1, fun t ht => ((k.ls c hc).2.2 t ht).look k.pot hp s⟩, fun v hv => odd_look (k.od v hv) hp s, fun c hc => s _ _ (ne_of_pot k.pot (k.fx c hc)) (k.fx c hc)⟩
theorem P64.add (k : P64 rk n H0 H p Ro us vs fs) {v : V} (o : Odd H v) : P64 rk n H0 H p Ro us (v :: vs) fs :=
  ⟨k.pot, k.sm, k.ro, k.ls, fun w hw => by
    rcases List.mem_cons.mp hw with rfl | hw
    · exact o
    · exact k.od w hw, k.fx⟩
theorem P64.row (k : P64 rk n H0 H p Ro us vs fs) {zj zw : Str} {as : List V} (nt : H t = none) (j w : Nat) (ej : zj = wd64 j) (ew : zw = wr w) (o : ∀ v ∈ as, Odd H v) (x : Tx64 w as) (c : Cas64 rk n H w as j) :
    P64 rk n H0 (L2.upd H t (.tup (.str zj :: .str zw :: as))) p Ro (us ++ [t]) vs fs := by
  have k2 := k.mono (same_upd (o := .tup (.str zj :: .str zw :: as)) nt)
  refine ⟨k2.pot, k2.sm, fun u hu => ?_, k2.ls, k2.od, k2.fx⟩
  rcases List.mem_append.mp hu with hu | hu
  · exact k2.ro u hu
  · rw [List.mem_singleton.mp hu]
    exact row_make nt j w ej ew o x c
/-- rows = [..] -/
theorem P64.lst (k : P64 rk n H0 H p none us vs fs) (nR : H R = none) : P64 rk n H0 (L2.upd H R (.lst (us.map V.ref))) p (some (R, us)) [] vs fs := by
  have k2 := k.mono (same_upd (o := .lst (us.map V.ref)) nR)
  exact ⟨k2.pot, k2.sm, nofun, fun c hc => by cases hc; exact ⟨upd_same, SameB.none k.sm k.pot nR, k2.ro⟩, k2.od, k2.fx⟩
theorem P64.at_ (k : P64 rk n H0 H p (some (R, ts)) us vs fs) : H R = some (.lst (ts.map V.ref)) := (k.ls _ rfl).1
/-- rows.append(..) -/
theorem P64.push (k : P64 rk n H0 H p (some (R, ts)) us vs fs) : P64 rk n H0 (L2.upd H R (.lst (ts.map V.ref ++ us.map V.ref))) p (some (R, ts ++ us)) [] vs fs := by
  obtain ⟨e, nR, hr⟩ := k.ls _ rfl
  have hp := k.pot.upd (q := R) (o := .lst (ts.map V.ref ++ us.map V.ref)) (ne_of_pot k.pot e refs_no)
  exact ⟨hp, SameB.new nR k.sm, nofun, fun c hc => by
    cases hc
    refine ⟨by rw [upd_same, List.map_append], nR, fun u hu => ?_⟩
    rcases List.mem_append.mp hu with hu | hu
    · exact (hr u hu).put e
    · exact (k.ro u hu).put e, fun v hv => odd_putL (k.od v hv) e, fun c hc => by
    have e2 := k.fx c hc
    rw [upd_ne (fun z => by rw [z, e] at e2; cases e2)]
    exact e2⟩
end
end LU
set_option Elab.async false
set_option linter.all false
set_option maxRecDepth 100000
set_option maxHeartbeats 1600000
/-! Own layer: many ranks, a name that none bears (k64). -/
namespace LU
open LT
open PySem PySem.Spec PyProof.Rows L2 NdefX LamX
def zcand (j : Nat) : Str := ⟨#[122, 97 + j / 26, 97 + j % 26]⟩
def mrs (m : Nat) : List (Str × Int) := (List.range m).map fun k => (zcand k, 1 + ((k : Nat) : Int) % 9)
theorem mrs_len (m : Nat) : (mrs m).length = m := by unfold mrs; rw [List.length_map, List.length_range]
def Bag (H : Hp) (xs : List V) : Prop := ∀ v ∈ xs, Odd H v ∧ RkNo H v
theorem Bag.mono {H H' : Hp} {xs : List V} (h : Bag H xs) (s : Same H H') : Bag H' xs := fun v hv => ⟨(h v hv).1.mono s, (h v hv).2.mono s⟩
theorem Bag.look {H H' : Hp} {xs : List V} {p : Addr} (h : Bag H xs) (hp : Pot H p) (hp' : Pot H' p) (s : SameB p H H') : Bag H' xs := fun v hv => ⟨odd_look (h v hv).1 hp' s, (h v hv).2.look hp hp' s⟩
theorem Bag.put {H : Hp} {xs : List V} {R : Addr} {ys zs : List V} (h : Bag H xs) (e : H R = some (.lst ys)) : Bag (L2.upd H R (.lst zs)) xs := fun v hv => ⟨odd_putL (h v hv).1 e, (h v hv).2.put e⟩
theorem Bag.add {H : Hp} {xs : List V} {v : V} (h : Bag H xs) (o : Odd H v) (r : RkNo H v) : Bag H (v :: xs) := fun w hw => by
  rcases List.mem_cons.mp hw with rfl | hw
  · exact ⟨o, r⟩
  · exact h w hw
theorem Bag.many {H : Hp} {xs : List V} {a : Addr} (h : Bag H xs) (e : H a = some (.dK (sd (mrs 31)))) : Bag H (.ref a :: xs) :=
  h.add (.dK e) (.inr ⟨a, _, rfl, e, by rw [sd_len, mrs_len]; decide, .inl (by rw [sd_len, mrs_len]; decide)⟩)
end LU
set_option Elab.async false
set_option linter.all false
set_option maxRecDepth 100000
set_option maxHeartbeats 1600000
/-! Own layer: a plan without names gets one. -/
namespace LT
open PySem PySem.Spec PyProof.Rows L2 NdefX
end LT
set_option Elab.async false
set_option linter.all false
set_option maxRecDepth 100000
set_option maxHeartbeats 1600000
/-! Own layer: books held against one another, where that makes things; what a book stands for. -/
namespace LT
open PySem PySem.Spec PyProof.Rows L2 NdefX LamX
/-! ### how entries show -/
end LT
set_option Elab.async false
set_option linter.all false
set_option maxRecDepth 100000
set_option maxHeartbeats 1600000
/-! Own layer: a plan and how many names it has; a plan without names gets one (k64). -/
namespace LU
open LT
open PySem PySem.Spec PyProof.Rows L2 NdefX LamX
/-- the rows of a call: the pot, the plan, perhaps the day -/
structure PlH (H : Hp) (p P la : Addr) (D : PlanD) (kn : Int) : Prop where
  pot : Pot H p
  hP : H P = some (.dK (planK D kn la))
  hn : H D.n = some (.lst (D.zs.map V.str))
  hl : H D.l = some (.lst (D.ls.map V.str))
  G : PlanG D
  z0 : D.zs ≠ []
  few : D.zs.length < 26
theorem PlH.mono {H H' : Hp} {p P la : Addr} {D : PlanD} {kn : Int} (h : PlH H p P la D kn) (s : Same H H') : PlH H' p P la D kn := ⟨h.pot.mono s, s _ _ h.hP, s _ _ h.hn, s _ _ h.hl, h.G, h.z0, h.few⟩
theorem PlH.look {H H' : Hp} {p P la : Addr} {D : PlanD} {kn : Int} (h : PlH H p P la D kn) (hp : Pot H' p) (s : SameB p H H') : PlH H' p P la D kn :=
  ⟨hp, s _ _ (ne_of_pot h.pot h.hP) h.hP, s _ _ (ne_of_pot h.pot h.hn strs_no_pot) h.hn, s _ _ (ne_of_pot h.pot h.hl strs_no_pot) h.hl, h.G, h.z0, h.few⟩
theorem PlH.name {H : Hp} {p P la : Addr} {D : PlanD} {kn : Int} (h : PlH H p P la D kn) : ∃ z, D.zs[0]? = some z ∧ Nm z ∧ atI (D.zs.map V.str) 0 = some (.str z) ∧ keepB D.rk (.str z) = true := by
  cases e : D.zs with
  | nil => exact absurd e h.z0
  | cons z r =>
    have m : z ∈ D.zs := by rw [e]; exact List.mem_cons_self
    exact ⟨z, rfl, h.G.zs.nm z m, atI_nat (j := 0) rfl, decide_eq_true (by rw [h.G.zk]; exact m)⟩
end LU
set_option Elab.async false
set_option linter.all false
set_option maxRecDepth 100000
set_option maxHeartbeats 1600000
/-! Own layer: != of two dicts; a strange key put into ranks and taken out again; lists of entries that show. -/
namespace LT
open PySem PySem.Spec PyProof.Rows L2 NdefX LamX
def rNeDG : R2 := fun x y H Q => ∃ a b ks ls, x = .ref a ∧ y = .ref b ∧ H a = some (.dK ks) ∧ H b = some (.dK ls) ∧ (∀ p ∈ ks, flatV p.2 = true) ∧ (∀ p ∈ ls, flatV p.2 = true) ∧ Q (.bl (!dkEq ks ls)) H
section
variable {X : Cx}
theorem op_neDG (hu : X.A.units < cLine) : OpR X (compareOp .NotEq) rNeDG := by
  intro pins s σ H x y v u Q I rx ry h
  obtain ⟨a, b, ks, ls, rfl, rfl, ea, eb, h1, h2, q⟩ := h
  obtain rfl : v = Value.ref a := rx
  obtain rfl : u = Value.ref b := ry
  obtain ⟨_, ya, va, ra, da⟩ := (show ObjOk X.prog X.w H s.heap a (.dK ks) from I.hok a _ ea)
  obtain ⟨_, yb, vb, rb, db⟩ := (show ObjOk X.prog X.w H s.heap b (.dK ls) from I.hok b _ eb)
  exact PySem.W.keq_ne (knd := mixKind X.prog X.w) (r := ks.all (hitB ls)) ya yb da db hu (fun _ => hits_gen rb ra h1 h2) (fin_bl I q (by unfold dkEq; rw [ra.length, rb.length]))
end
end LT
namespace LT
open PySem PySem.Spec PyProof.Rows L2 NdefX LamX
theorem sum_lenK (n : Nat) : ∀ ts : List Str, (∀ t ∈ ts, t.length ≤ n) → (ts.map (·.length)).sum ≤ n * ts.length
  | [], _ => Nat.zero_le _
  | t :: r, h => by
    have h1 := sum_lenK n r fun x hx => h x (List.mem_cons_of_mem _ hx)
    have h2 := h t List.mem_cons_self
    rw [List.map_cons, List.sum_cons, List.length_cons, Nat.mul_add, Nat.mul_one]
    omega
end LT
namespace LT
open PySem PySem.Spec PyProof.Rows L2 NdefX LamX
/-- what stands while a book is held against its law -/
structure St63 (CB CH : Addr) (T : List (Addr × Str)) (b r E dl tl : Addr) (us ts ts0 : List Addr) (rk : List (Str × Int)) (ev es : List Evt) (fp : List Addr) (m : List V) (H : Hp) : Prop where
  W : Bk CB CH H b rk es fp
  er : H r = some (.dK (sd rk))
  el : H tl = some (.lst (ts.map V.ref ++ m))
  hts : Paired (EvT H) ts (entW ev)
  ed : H dl = some (.lst (us.map V.ref))
  hus : Paired (EvT H) us (entW ev)
  eE : H E = some (.lst (ts0.map V.ref))
  h0 : Paired (EvT H) ts0 ev
  TT : Tabs T H
section
variable {CB CH : Addr} {T : List (Addr × Str)} {b r E dl tl : Addr} {us ts ts0 : List Addr} {rk : List (Str × Int)} {ev es : List Evt} {fp : List Addr} {m : List V} {H H' : Hp}
theorem St63.ext (k : St63 CB CH T b r E dl tl us ts ts0 rk ev es fp m H) (e : ExtN H H') (t : Tabs T H') : St63 CB CH T b r E dl tl us ts ts0 rk ev es fp m H' :=
  ⟨k.W.extN e, e _ _ k.er nofun, e _ _ k.el nofun, paired_imp (fun _ _ h => evT_extN e h) k.hts, e _ _ k.ed nofun, paired_imp (fun _ _ h => evT_extN e h) k.hus, e _ _ k.eE nofun, paired_imp (fun _ _ h => evT_extN e h) k.h0, t⟩
theorem St63.own {o : Addr} {ks : List (Key × V)} (k : St63 CB CH T b r E dl tl us ts ts0 rk ev es fp m H) (ho : H o = some (.dK ks)) (nf : o ∉ fp) (nr : o ≠ r) (s : SameL [o] H H') : St63 CB CH T b r E dl tl us ts ts0 rk ev es fp m H' := by
  have n1 : ∀ {a : Addr} {x : HO}, H a = some x → x ≠ .dK ks → a ∉ [o] := fun {a x} e h m => by
    rw [List.mem_singleton.mp m, ho] at e
    exact h (Option.some.inj e).symm
  have tp : ∀ (a : Addr) (x : Evt), EvT H a x → EvT H' a x := fun a x e => s a (.tup [.str (kindS x.mv), .int x.kn, .str x.who, .int x.day, x.w]) (n1 e nofun) e
  exact ⟨k.W.monoL s fun c hc m => nf (by rw [← List.mem_singleton.mp m]; exact hc), s _ _ (fun m => nr (List.mem_singleton.mp m).symm) k.er, s _ _ (n1 k.el nofun) k.el, paired_imp tp k.hts, s _ _ (n1 k.ed nofun) k.ed, paired_imp tp k.hus, s _ _ (n1 k.eE nofun) k.eE, paired_imp tp k.h0,
    tabs_L k.TT (fun c hc x e => by
      rw [List.mem_singleton.mp hc, ho] at e
      cases e
      exact ⟨nofun, nofun⟩) s⟩
theorem St63.more (k : St63 CB CH T b r E dl tl us ts ts0 rk ev es fp [] H) (x : V) (n1 : tl ≠ dl) (n2 : tl ≠ E) : St63 CB CH T b r E dl tl us ts ts0 rk ev es fp [x] (upd H tl (.lst (ts.map V.ref ++ [x]))) := by
  have el := k.el
  have s : SameL [tl] H (upd H tl (.lst (ts.map V.ref ++ [x]))) := SameL.upd List.mem_cons_self (SameL.of (Same.refl _))
  have ne : ∀ {a : Addr} {y : HO}, H a = some y → (∀ zs, y ≠ .lst zs) → a ∉ [tl] := fun {a y} e h m => by
    rw [List.mem_singleton.mp m, el] at e
    exact h _ (Option.some.inj e).symm
  have tp : ∀ (a : Addr) (z : Evt), EvT H a z → EvT (upd H tl (.lst (ts.map V.ref ++ [x]))) a z := fun a z e => s a (.tup [.str (kindS z.mv), .int z.kn, .str z.who, .int z.day, z.w]) (ne e nofun) e
  exact ⟨k.W.monoL s fun c hc m => k.W.nl el (by rw [← List.mem_singleton.mp m]; exact hc), s _ _ (ne k.er nofun) k.er, upd_same, paired_imp tp k.hts, s _ _ (fun m => n1 (List.mem_singleton.mp m).symm) k.ed, paired_imp tp k.hus, s _ _ (fun m => n2 (List.mem_singleton.mp m).symm) k.eE, paired_imp tp k.h0,
    tabs_updG k.TT el⟩
end
end LT
namespace LT
open PySem PySem.Spec PyProof.Rows L2 NdefX LamX
theorem atI_end63 {xs : List V} {v : V} (h : xs[xs.length - 1]? = some v) : atI xs (-1) = some v := by
  have hl := (List.getElem?_eq_some_iff.mp h).1
  unfold atI ixN
  rw [if_neg (by decide), if_pos (by omega)]
  show xs[((xs.length : Int) + -1).toNat]? = _
  rw [show ((xs.length : Int) + -1).toNat = xs.length - 1 by omega]
  exact h
end LT
namespace LT
open PySem PySem.Spec PyProof.Rows L2 NdefX LamX
end LT
namespace LT
open PySem PySem.Spec PyProof.Rows L2 NdefX LamX
theorem NewN.ne {H : Hp} {a b : Addr} {C dx : Addr} {fs : List (Str × V)} (n : NewN H a) (h : H b = some (.ins C dx fs)) : b ≠ a := fun e => by
  obtain ⟨ps, z⟩ := n _ (by rw [← e]; exact h)
  cases z
end LT
set_option Elab.async false
set_option linter.all false
set_option maxRecDepth 100000
set_option maxHeartbeats 1600000
/-! Own layer: things that stay apart from some lists show so. -/
namespace LT
open PySem PySem.Spec PyProof.Rows L2 NdefX
theorem ShV.keep {CS : Addr} {H H' : Hp} {n : Nat} {as : List Addr} {v : V} {t : Str} (h : ShV CS (spSRepr CS) H n as v t) (inst : ∀ a dx fs, H a = some (.ins CS dx fs) → H' a = some (.ins CS dx fs)) (ls : ∀ a ∈ as, ∀ o, H a = some o → H' a = some o) : ShV CS (spSRepr CS) H' n as v t := by
  induction h with
  | int j h => exact .int j h
  | str z h => exact .str z h
  | non => exact .non
  | own ha hsp =>
    refine .own (inst _ _ _ ha) fun g => ?_
    obtain ⟨x, f, la, e, ⟨dx, hx⟩, s1, s2, u, eu, e2, _⟩ := hsp g
    exact ⟨x, f, la, e, ⟨dx, inst _ _ _ hx⟩, s1, s2, u, eu, e2, rfl⟩
  | lst hl hlen hna each ih => exact .lst (ls _ List.mem_cons_self _ hl) hlen hna fun i v t h1 h2 => ih i v t h1 h2 fun a ha => ls a (List.mem_cons_of_mem _ ha)
  | tup hl hlen hna each ih => exact .tup (ls _ List.mem_cons_self _ hl) hlen hna fun i v t h1 h2 => ih i v t h1 h2 fun a ha => ls a (List.mem_cons_of_mem _ ha)
  | more h hn hs ih => exact .more (ih fun a ha => ls a (hs a ha)) hn hs
/-- shows so, and is made of things that stand apart from S -/
def ShF (CS : Addr) (H : Hp) (S : List Addr) (v : V) (t : Str) : Prop := ∃ as, ShV CS (spSRepr CS) H 4 as v t ∧ (∀ a ∈ as, a ∉ S ∧ ∃ o, H a = some o) ∧ t.length ≤ 1100000
theorem ShF.it {CS : Addr} {H : Hp} {S : List Addr} {F : Addr} {v : V} {t : Str} (h : ShF CS H S v t) (hF : F ∈ S) : It CS H F v t := by
  obtain ⟨as, h1, h2, h3⟩ := h
  exact ⟨as, h1, fun hm => (h2 F hm).1 hF, h3⟩
theorem ShF.keep {CS : Addr} {H H' : Hp} {S : List Addr} {F : Addr} {xs : List V} {v : V} {t : Str} (h : ShF CS H S v t) (hF : F ∈ S) (e : H F = some (.lst xs)) (s : SameB F H H') : ShF CS H' S v t := by
  obtain ⟨as, h1, h2, h3⟩ := h
  refine ⟨as, h1.keep (fun a dx fs k => s _ _ (ne_of k e (by intro z; cases z)) k) (fun a ha o k => s _ _ (fun z => (h2 a ha).1 (by rw [z]; exact hF)) k), fun a ha => ⟨(h2 a ha).1, ?_⟩, h3⟩
  obtain ⟨o, k⟩ := (h2 a ha).2
  exact ⟨o, s _ _ (fun z => (h2 a ha).1 (by rw [z]; exact hF)) k⟩
theorem ShF.mono {CS : Addr} {H H' : Hp} {S : List Addr} {v : V} {t : Str} (h : ShF CS H S v t) (s : Same H H') : ShF CS H' S v t := by
  obtain ⟨as, h1, h2, h3⟩ := h
  refine ⟨as, h1.keep (fun a dx fs k => s _ _ k) (fun a ha o k => s _ _ k), fun a ha => ⟨(h2 a ha).1, ?_⟩, h3⟩
  obtain ⟨o, k⟩ := (h2 a ha).2
  exact ⟨o, s _ _ k⟩
/-! ### the texts -/
def unfT : Option (Int × Int) → Str
  | none => "None"
  | some (d, n) => tupleText [Str.ofString (toString d), Str.ofString (toString n)]
def knT : Option Int → Str
  | none => "None"
  | some d => Str.ofString (toString d)
/-! ### two lists that grow -/
end LT
set_option Elab.async false
set_option linter.all false
set_option maxRecDepth 100000
set_option maxHeartbeats 1600000
/-! Own layer: what the stores tell, as repr shows it. -/
namespace LU
open LT
open PySem PySem.Spec PyProof.Rows L2 NdefX
def Txt86 (rk : List (Str × Int)) (es : List Evt) (z : Str) (kn : Option Int) (R d : Int) (w : Nat) (t : Str) : Prop :=
  if w = 0 then ∃ rs, HeadsOf es (rk.map (·.1)) z kn rs ∧ t = listText (rs.map shR)
  else if w = 1 then t = toString ((shopOf es rk z kn R).left d)
  else if w = 2 then ∃ o, UnfO (shopOf es rk z kn R) o ∧ t = unfT o
  else if w = 3 then ∃ least day, Want (shopOf es rk z kn R) d (fun _ => True) least day ∧ t = tupleText [Str.ofString (toString (-least)), knT day]
  else t = tupleText [Str.ofString (toString (outI es (rk.map (·.1)) z d kn)), Str.ofString (toString (landI es z kn d)), Str.ofString (toString (backI es (rk.map (·.1)) z d kn)), Str.ofString (toString (fewI 2 300 80 es (rk.map (·.1)) z d kn))]
theorem Txt86.uniq {rk : List (Str × Int)} {es : List Evt} {z : Str} {kn : Option Int} {R d : Int} {w : Nat} {t t' : Str} (h : Txt86 rk es z kn R d w t) (h' : Txt86 rk es z kn R d w t') : t = t' := by
  unfold Txt86 at h h'
  by_cases w0 : w = 0
  · rw [if_pos w0] at h h'
    obtain ⟨rs, a, rfl⟩ := h
    obtain ⟨rs', a', rfl⟩ := h'
    rw [runs_uniq a a']
  rw [if_neg w0] at h h'
  by_cases w1 : w = 1
  · rw [if_pos w1] at h h'
    rw [h, h']
  rw [if_neg w1] at h h'
  by_cases w2 : w = 2
  · rw [if_pos w2] at h h'
    obtain ⟨o, a, rfl⟩ := h
    obtain ⟨o', a', rfl⟩ := h'
    rw [a.uniq a']
  rw [if_neg w2] at h h'
  by_cases w3 : w = 3
  · rw [if_pos w3] at h h'
    obtain ⟨l, y, a, rfl⟩ := h
    obtain ⟨l', y', a', rfl⟩ := h'
    obtain ⟨rfl, rfl⟩ := a.uniq a'
    rfl
  rw [if_neg w3] at h h'
  rw [h, h']
end LU
set_option Elab.async false
set_option linter.all false
set_option maxRecDepth 100000
set_option maxHeartbeats 1600000
/-! Own layer: the five answers in a list, as repr shows them. -/
namespace LU
open LT
open PySem PySem.Spec PyProof.Rows L2 NdefX LamX
structure Ask (CS : Addr) (rk : List (Str × Int)) (es : List Evt) (z : Str) (kn : Option Int) (R d : Int) (H8 H : Hp) (A : Addr) (i : Nat) : Prop where
  n : H8 A = none
  s : Same H8 H
  ls : ∃ (vs : List V) (ts : List Str), H A = some (.lst vs) ∧ vs.length = i ∧ Paired (ShF CS H [A]) vs ts ∧ ∀ j t, ts[j]? = some t → Txt86 rk es z kn R d j t
section
variable {CS : Addr} {rk : List (Str × Int)} {es : List Evt} {z : Str} {kn : Option Int} {R d : Int} {H8 H H1 : Hp} {A : Addr} {i : Nat}
theorem Ask.nil (n : H8 A = none) : Ask CS rk es z kn R d H8 (L2.upd H8 A (.lst [])) A 0 := ⟨n, same_upd n, [], [], upd_same, rfl, .nil, nofun⟩
theorem Ask.push {v : V} {tx : Str} (k : Ask CS rk es z kn R d H8 H A i) (s : Same H H1) (sh : ∀ F xs, H F = some (.lst xs) → ShF CS H1 [F] v tx) (h : Txt86 rk es z kn R d i tx) :
    ∃ vs, H1 A = some (.lst vs) ∧ vs.length = i ∧ Ask CS rk es z kn R d H8 (L2.upd H1 A (.lst (vs ++ [v]))) A (i + 1) := by
  obtain ⟨vs, ts, e, l, p, hx⟩ := k.ls
  have e1 := s _ _ e
  have sb : SameB A H1 (L2.upd H1 A (.lst (vs ++ [v]))) := SameB.upd (SameB.of (Same.refl _))
  refine ⟨vs, e1, l, k.n, same_put k.n (k.s.trans s), vs ++ [v], ts ++ [tx], upd_same, by rw [List.length_append, l]; rfl, paired_snoc' (paired_imp (fun _ _ q => (q.mono s).keep List.mem_cons_self e1 sb) p) ((sh A vs e).keep List.mem_cons_self e1 sb), fun j t hj => ?_⟩
  have tl : ts.length = i := by rw [← Paired.length p, l]
  by_cases hl : j < ts.length
  · rw [List.getElem?_append_left hl] at hj
    exact hx j t hj
  · have ej : j = i := by
      have := (List.getElem?_eq_some_iff.mp hj).1
      rw [List.length_append] at this
      have : j < ts.length + 1 := this
      omega
    rw [List.getElem?_append_right (by omega), ej, tl, Nat.sub_self] at hj
    cases hj
    rw [ej]
    exact h
end
end LU
set_option Elab.async false
set_option linter.all false
set_option maxRecDepth 100000
set_option maxHeartbeats 3200000
/-! Own layer: repr of (a book's entries, its ranks, its last known day). -/
namespace LU
open LT
open PySem PySem.Spec PyProof.Rows L2 NdefX LamX
def rkD (rk : List (Str × Int)) : PyData := .dict (rk.map fun p => (.str p.1, .int p.2))
/-- how one thing reads -/
def Rd (h : Heap) (u : Value) (d : PyData) : Prop := (∃ as, Reads h u d as ∧ (d.hasDict = true → sysModules ∉ as)) ∧ d.showable = true ∧ d.shown.length ≤ sizeLine
theorem rd_all {P : Program} {w : World} {h : Heap} : ∀ {us : List Value} {ds : List PyData}, Paired (Rd h) us ds →
    ∃ as bs, ReadsAll h us ds as ∧ ReadAtMost h (PyData.depthAll ds) bs ∧ ReprAllK P w bs h (PyData.depthAll ds) us (PyData.shownAll ds)
  | _, _, .nil => ⟨_, [], .nil, (fun _ h => nomatch h), by simp only [PyData.shownAll]; exact .nil⟩
  | _ :: _, d :: ds, .cons r rs => by
    obtain ⟨⟨as, q1, n1⟩, f1, f3⟩ := r
    obtain ⟨b1, hb1, k1⟩ := ReprK.of_reads (prog := P) (w := w) q1 f1 n1 f3
    obtain ⟨bs, b2, q2, hb2, k2⟩ := rd_all (P := P) (w := w) rs
    refine ⟨_, b1 ++ b2, .cons q1 q2, ?_, ?_⟩
    · simp only [PyData.depthAll]
      exact (hb1.mono (Nat.le_max_left _ _)).append (hb2.mono (Nat.le_max_right _ _))
    · simp only [PyData.depthAll, PyData.shownAll]
      exact .cons ((k1.more fun b hb => List.mem_append_left _ hb).level_le (Nat.le_max_left _ _)) (k2.more_le (fun b hb => List.mem_append_right _ hb) (Nat.le_max_right _ _))
theorem kv_reads {P : Program} {w : World} {h : Heap} : ∀ {rk : List (Str × Int)} {vs : List (Key × Value)} {l : List DictEntry}, KV (sd rk) vs → Pairs (mixKind P w) l vs →
    ReadsAll h (l.map (·.key)) ((rk.map fun p => (PyData.str p.1, PyData.int p.2)).map (·.1)) [] ∧ ReadsAll h (l.map (·.val)) ((rk.map fun p => (PyData.str p.1, PyData.int p.2)).map (·.2)) []
  | [], _, _, r, hp => by
    cases r
    cases hp
    exact ⟨.nil, .nil⟩
  | p :: rk, _, _, r, hp => by
    have r : KV ((Sum.inr p.1, V.int p.2) :: sd rk) _ := r
    cases r with
    | cons r1 r2 =>
      rename_i kv vs
      obtain ⟨kk, uu⟩ := kv
      obtain ⟨e1, t, e2⟩ := r1
      cases e1
      cases e2
      cases hp with
      | cons k1 k2 k3 =>
        rename_i e l
        obtain ⟨q1, q2⟩ := kv_reads (h := h) r2 k3
        have k0 : keyIs (Sum.inr p.1) e.key = true := k1
        obtain ⟨_, _, z, _⟩ | ⟨y, t', z, e3⟩ := keyIs_shape k0
        · cases z
        · cases z
          constructor
          · rw [List.map_cons, e3]
            exact ReadsAll.cons (Reads.str _ _) q1
          · rw [List.map_cons, k2]
            exact ReadsAll.cons (Reads.int _ _) q2
section
variable {X : Cx} {pins : List (Addr × Obj)} {σ : L2.St} {H : Hp} {s : Shared}
theorem rk_reads (I : Inv X pins σ H s) {a : Addr} {rk : List (Str × Int)} (h : H a = some (.dK (sd rk))) : ∃ as, Reads s.heap (.ref a) (rkD rk) as ∧ sysModules ∉ as := by
  obtain ⟨_, hs, vs, rel, o, es, ep, ho, hx, hd, hko, hp, hn⟩ := I.hok a _ h
  obtain ⟨q1, q2⟩ := kv_reads (h := s.heap) rel hp
  refine ⟨_, Reads.dict (as := []) (bs := []) ho hx.1 hd q1 q2, fun z => ?_⟩
  have z2 : sysModules = a := by simpa using z
  rw [z2] at hs
  simp at hs
end
end LU
set_option Elab.async false
set_option linter.all false
set_option maxRecDepth 100000
set_option maxHeartbeats 1600000
/-! Own layer: how a list of loads shows (k34). -/
namespace LG
open LT
open PySem PySem.Spec PyProof.Rows L2 NdefX LamX
theorem lg71 {i : Int} (h : i.natAbs ≤ 10 ^ 71) : i.natAbs.log2 < 1920 := by
  rcases Nat.eq_zero_or_pos i.natAbs with z | z
  · rw [z]; decide
  · rw [Nat.log2_lt (by omega)]
    exact Nat.lt_of_le_of_lt h (by decide)
theorem tlen71 {i : Int} (h : i.natAbs ≤ 10 ^ 71) : (Str.ofString (toString i)).length ≤ 241 := by
  rw [PySem.ofString_length]
  refine int_text_length_le (k := 240) (by decide) ?_
  rcases Nat.eq_zero_or_pos i.natAbs with z | z
  · rw [z]; decide
  · rw [Nat.log2_lt (by omega)]
    exact Nat.lt_of_le_of_lt h (by decide)
/-- a load as it shows -/
def ldD (l : Ld) : PyData := .tuple [.int l.1, .int l.2.1, LU.rkD l.2.2]
structure LdB (l : Ld) : Prop where
  o : l.1.natAbs ≤ 10 ^ 71
  b : l.2.1.natAbs ≤ 10 ^ 71
  len : l.2.2.length ≤ 8
  kv : ∀ p ∈ l.2.2, Nm p.1 ∧ p.2.natAbs ≤ 10 ^ 71
theorem kv_show : ∀ {rk : KV2}, (∀ p ∈ rk, Nm p.1 ∧ p.2.natAbs ≤ 10 ^ 71) →
    PyData.showableKv (rk.map fun p => (PyData.str p.1, PyData.int p.2)) = true ∧ PyData.depthKv (rk.map fun p => (PyData.str p.1, PyData.int p.2)) = 0 ∧
      (∀ t ∈ PyData.shownKv (rk.map fun p => (PyData.str p.1, PyData.int p.2)), t.length ≤ 1000) ∧ (PyData.shownKv (rk.map fun p => (PyData.str p.1, PyData.int p.2))).length = rk.length
  | [], _ => ⟨by simp [PyData.showableKv], by simp [PyData.depthKv], by simp [PyData.shownKv], by simp [PyData.shownKv]⟩
  | p :: rk, h => by
    obtain ⟨a1, a2, a3, a4⟩ := kv_show (rk := rk) fun q hq => h q (List.mem_cons_of_mem _ hq)
    obtain ⟨n1, pb⟩ := h p List.mem_cons_self
    have t2 := tlen71 pb
    have t3 := nm_repr n1
    have q1 : (Str.ofString ": ").length = 2 := by decide +kernel
    refine ⟨?_, ?_, ?_, ?_⟩
    · rw [List.map_cons]
      simp only [PyData.showableKv, PyData.showable, a1, decide_eq_true (lg71 pb), Bool.and_self]
    · rw [List.map_cons]
      simp only [PyData.depthKv, PyData.depth, a2]
      rfl
    · intro t ht
      rw [List.map_cons] at ht
      simp only [PyData.shownKv, PyData.shown, List.mem_cons] at ht
      rcases ht with rfl | ht
      · rw [str_app_len, str_app_len, q1]
        omega
      · exact a3 t (by simpa only [PyData.shownKv] using ht)
    · rw [List.map_cons]
      simp only [PyData.shownKv, List.length_cons, a4]
theorem kvD_show {rk : KV2} (h : ∀ p ∈ rk, Nm p.1 ∧ p.2.natAbs ≤ 10 ^ 71) (l8 : rk.length ≤ 8) : (LU.rkD rk).showable = true ∧ (LU.rkD rk).depth = 1 ∧ (LU.rkD rk).shown.length ≤ 9000 := by
  obtain ⟨a1, a2, a3, a4⟩ := kv_show h
  refine ⟨by unfold LU.rkD; simp only [PyData.showable, a1], by unfold LU.rkD; simp only [PyData.depth, a2], ?_⟩
  have a := dictText_len_le (PyData.shownKv (rk.map fun p => (PyData.str p.1, PyData.int p.2)))
  have b := sum_lenK 1000 _ a3
  have e : (LU.rkD rk).shown = dictText (PyData.shownKv (rk.map fun p => (PyData.str p.1, PyData.int p.2))) := by unfold LU.rkD; simp only [PyData.shown]
  rw [e]
  omega
theorem ldD_show {l : Ld} (k : LdB l) : (ldD l).showable = true ∧ (ldD l).depth = 2 ∧ (ldD l).shown.length ≤ 10000 := by
  obtain ⟨s1, s2, s3⟩ := kvD_show k.kv k.len
  have to := tlen71 k.o
  have tb := tlen71 k.b
  unfold ldD
  refine ⟨by simp only [PyData.showable, PyData.showableAll, s1, decide_eq_true (lg71 k.o), decide_eq_true (lg71 k.b), Bool.and_self], by simp only [PyData.depth, PyData.depthAll, s2]; rfl, ?_⟩
  have a := tupleText_len_le (PyData.shownAll [.int l.1, .int l.2.1, LU.rkD l.2.2])
  have e : (PyData.tuple [.int l.1, .int l.2.1, LU.rkD l.2.2]).shown = tupleText (PyData.shownAll [.int l.1, .int l.2.1, LU.rkD l.2.2]) := by simp only [PyData.shown]
  rw [e]
  simp only [PyData.shownAll, PyData.shown, List.map_cons, List.map_nil, List.sum_cons, List.sum_nil, List.length_cons, List.length_nil] at a ⊢
  simp only [PyData.shownAll, PyData.shown] at *
  omega
section
variable {X : Cx} {pins : List (Addr × Obj)} {σ : L2.St} {H : Hp} {s : Shared}
/-- a load stands at v -/
def LdV (H : Hp) (v : V) (l : Ld) : Prop := ∃ t d : Addr, v = .ref t ∧ H t = some (.tup [.int l.1, .int l.2.1, .ref d]) ∧ H d = some (.dK (sd l.2.2)) ∧ LdB l
theorem ld_one (I : Inv X pins σ H s) {v : V} {u : Value} {l : Ld} (h : LdV H v l) (r : RelV v u) :
    ∃ as bs, Reads s.heap u (ldD l) as ∧ ReadAtMost s.heap 2 bs ∧ ReprK X.prog X.w bs s.heap 2 u (ldD l).shown := by
  obtain ⟨t, d, rfl, ht, hd0, k⟩ := h
  cases (show _ = Value.ref t from r)
  obtain ⟨its, rv, ⟨o, ho, hcl, m, hd⟩, _⟩ := I.tuple (SqT.of ht)
  obtain ⟨s1, s2, s3⟩ := kvD_show k.kv k.len
  have t1 : (PyData.int l.1).shown.length ≤ 241 := by simp only [PyData.shown]; exact tlen71 k.o
  have t2 : (PyData.int l.2.1).shown.length ≤ 241 := by simp only [PyData.shown]; exact tlen71 k.b
  have R : Paired (LU.Rd s.heap) its [.int l.1, .int l.2.1, LU.rkD l.2.2] := by
    cases rv with
    | cons r1 rv =>
      cases rv with
      | cons r2 rv =>
        cases rv with
        | cons r3 rv =>
          cases rv
          refine .cons ⟨?_, by simp only [PyData.showable]; exact decide_eq_true (lg71 k.o), by rw [sizeLine_eq]; omega⟩ (.cons ⟨?_, by simp only [PyData.showable]; exact decide_eq_true (lg71 k.b), by rw [sizeLine_eq]; omega⟩ (.cons ⟨?_, s1, by rw [sizeLine_eq]; omega⟩ .nil))
          · obtain ⟨t', rfl⟩ := (show ∃ t', _ = Value.int l.1 t' from r1)
            exact ⟨_, Reads.int _ _, fun z => by simp [PyData.hasDict] at z⟩
          · obtain ⟨t', rfl⟩ := (show ∃ t', _ = Value.int l.2.1 t' from r2)
            exact ⟨_, Reads.int _ _, fun z => by simp [PyData.hasDict] at z⟩
          · cases (show _ = Value.ref d from r3)
            obtain ⟨as, q, z⟩ := LU.rk_reads I hd0
            exact ⟨as, q, fun _ => z⟩
  obtain ⟨as, bs, rd, hbs, hk⟩ := LU.rd_all (P := X.prog) (w := X.w) R
  have dp : PyData.depthAll [.int l.1, .int l.2.1, LU.rkD l.2.2] = 1 := by
    simp only [PyData.depthAll, s2, PyData.depth]
    rfl
  rw [dp] at hbs hk
  have rt : Reads s.heap (.ref t) (ldD l) as := .tuple ho hcl hd (by simpa using rd)
  have d2 := (ldD_show k).2.1
  have hna : t ∉ bs := not_mem_of_deeper rt (by rw [d2]; omega) hbs
  refine ⟨_, t :: bs, rt, fun b hb => ?_, ?_⟩
  · rcases List.mem_cons.mp hb with rfl | hb
    · exact ⟨_, _, rt, by rw [d2]; exact Nat.le_refl _⟩
    · obtain ⟨d', as', r', hd'⟩ := hbs b hb
      exact ⟨d', as', r', by omega⟩
  · have := ReprK.tuple (prog := X.prog) (w := X.w) ho hcl hd hna (by simpa using hk)
    unfold ldD
    simpa only [PyData.shown] using this
theorem ld_all (I : Inv X pins σ H s) : ∀ {vs : List V} {ls : List Ld} {us : List Value}, Paired (LdV H) vs ls → Vals vs us →
    ∃ as bs, ReadsAll s.heap us (ls.map ldD) as ∧ ReadAtMost s.heap 2 bs ∧ ReprAllK X.prog X.w bs s.heap 2 us (PyData.shownAll (ls.map ldD))
  | _, _, _, .nil, r => by
    cases r
    exact ⟨_, [], .nil, (fun _ h => nomatch h), by simp only [List.map_nil, PyData.shownAll]; exact .nil⟩
  | _ :: _, l :: ls, _, .cons h hs, r => by
    cases r with
    | cons r1 r2 =>
      obtain ⟨as, b1, q1, hb1, k1⟩ := ld_one I h r1
      obtain ⟨bs, b2, q2, hb2, k2⟩ := ld_all I hs r2
      refine ⟨_, b1 ++ b2, .cons q1 q2, hb1.append hb2, ?_⟩
      simp only [List.map_cons, PyData.shownAll]
      exact .cons (k1.more fun b hb => List.mem_append_left _ hb) (k2.more_le (fun b hb => List.mem_append_right _ hb) (Nat.le_refl _))
/-- repr of a list of loads -/
def ldsD (ls : List Ld) : PyData := .list (ls.map ldD)
theorem shown_len : ∀ {ls : List Ld}, (∀ l ∈ ls, LdB l) → (∀ t ∈ PyData.shownAll (ls.map ldD), t.length ≤ 10000) ∧ (PyData.shownAll (ls.map ldD)).length = ls.length
  | [], _ => ⟨by simp [PyData.shownAll], by simp [PyData.shownAll]⟩
  | l :: ls, h => by
    obtain ⟨a, b⟩ := shown_len (ls := ls) fun x hx => h x (List.mem_cons_of_mem _ hx)
    rw [List.map_cons]
    refine ⟨fun t ht => ?_, by simp only [PyData.shownAll, List.length_cons, b]⟩
    simp only [PyData.shownAll, List.mem_cons] at ht
    rcases ht with rfl | ht
    · exact (ldD_show (h l List.mem_cons_self)).2.2
    · exact a t ht
def rReprLd (K : PySem.W.Frag) : List V → Hp → VK → Prop := fun xs H Q => ∃ (L : Addr) (vs : List V) (ls : List Ld), xs = [.ref L] ∧ SqL K H L vs ∧ Paired (LdV H) vs ls ∧ ls.length ≤ 300 ∧ (∀ l ∈ ls, LdB l) ∧ Q (.str (ldsD ls).shown) H
theorem call_reprLd (hG : X.A.guards = some []) (hu : X.A.units + 64 < cLine) : CallR X (.builtin "repr") (rReprLd X.K) := by
  intro pins s σ H xs us Q I r h
  obtain ⟨L, vs, ls, rfl, hl, hs, h3, hb0, q⟩ := h
  obtain ⟨u, rfl, ru⟩ := vals1 r
  cases ru
  obtain ⟨its, rv, ⟨o, n, ho, hc, _, hd⟩, _⟩ := I.list hl
  obtain ⟨t1, t2⟩ := shown_len hb0
  have hz' : (listText (PyData.shownAll (ls.map ldD))).length ≤ sizeLine := by
    have a := listText_len_le (PyData.shownAll (ls.map ldD))
    have b := sum_lenK 10000 _ t1
    rw [t2] at a b
    rw [sizeLine_eq]
    omega
  obtain ⟨as, bs, rd, hb, hk⟩ := ld_all I hs rv
  have dep : ∀ {ls : List Ld}, (∀ l ∈ ls, LdB l) → ls ≠ [] → PyData.depthAll (ls.map ldD) = 2 := by
    intro ls
    induction ls with
    | nil => intro _ h; exact absurd rfl h
    | cons l r ih =>
      intro h _
      rw [List.map_cons]
      simp only [PyData.depthAll, (ldD_show (h l List.mem_cons_self)).2.1]
      by_cases hr : r = []
      · subst hr
        rfl
      · rw [ih (fun x hx => h x (List.mem_cons_of_mem _ hx)) hr]
        rfl
  have q2 : Q (.str (listText (PyData.shownAll (ls.map ldD)))) H := by
    unfold ldsD at q
    simpa only [PyData.shown] using q
  refine call_repr_slot (by omega) (show s.TypeIs (.ref L) "list" from ⟨o, ho, hc⟩) F.slot_list_repr.toG ?_
  cases its with
  | nil =>
    cases ls with
    | nil =>
      simp only [List.map_nil, PyData.shownAll, listText_nil] at q2
      exact call_list_repr_empty ⟨o, ho, hc⟩ ho hd ⟨_, _, rfl, ⟨.str _, H, I.kept fun _ _ e => e, ⟨_, rfl⟩, q2⟩⟩
    | cons l r => cases rd
  | cons x l' =>
    have hne : ls ≠ [] := fun e => by
      subst e
      cases rd
    have hna : L ∉ bs := not_mem_of_deeper (.list ho hc hd rd) (by simp only [PyData.depth, dep hb0 hne]; omega) hb
    exact call_list_reprK (A := X.A.in1) ho hc hd hna (by simpa using hk.length_eq) (fun i y e => hk.item i y (by simpa using e)) hG (fun b _ => Clear.nil b) (by show X.A.units + 1 + _ < cLine; omega) (fun _ _ e => e)
      (fun h' u tk hk' => ⟨_, _, rfl, ⟨.str _, H, I.kept hk', ⟨_, rfl⟩, q2⟩⟩) hz'
end
theorem paired_of {α β : Type} {R : α → β → Prop} : ∀ {xs : List α} {ys : List β}, xs.length = ys.length → (∀ (i : Nat) (x : α) (y : β), xs[i]? = some x → ys[i]? = some y → R x y) → Paired R xs ys
  | [], [], _, _ => .nil
  | [], _ :: _, h, _ => by cases h
  | _ :: _, [], h, _ => by cases h
  | x :: xs, y :: ys, h, r => .cons (r 0 x y rfl rfl) (paired_of (by simpa using h) fun i a b h1 h2 => r (i + 1) a b (by simpa using h1) (by simpa using h2))
theorem lds_pair {H : Hp} {L : Addr} {ts ds : List Addr} {ls : List Ld} (k : LdsAt H L ts ds ls) (h : ∀ l ∈ ls, LdB l) : Paired (LdV H) (ts.map V.ref) ls := paired_of (by rw [List.length_map]; exact k.lt) fun i x l h1 h2 => by
  rw [List.getElem?_map, Option.map_eq_some_iff] at h1
  obtain ⟨t, ht, rfl⟩ := h1
  have ld := k.ld
  have lt := k.lt
  have il := (List.getElem?_eq_some_iff.mp ht).1
  have hd := List.getElem?_eq_getElem (l := ds) (i := i) (by omega)
  obtain ⟨e1, e2⟩ := k.row i t _ l ht hd h2
  exact ⟨t, _, rfl, e1, e2, h l (List.mem_of_getElem? h2)⟩
end LG
set_option Elab.async false
set_option linter.all false
set_option maxRecDepth 100000
set_option maxHeartbeats 1600000
/-! Own layer: a list of loads of which the first ones are changed (k34). -/
namespace LG
open LT
open PySem PySem.Spec PyProof.Rows L2 NdefX LamX
/-- the loads from k on stand -/
structure HalfAt (H : Hp) (L : Addr) (ts ds : List Addr) (ls : List Ld) (k : Nat) : Prop where
  e : H L = some (.lst (ts.map V.ref))
  row : ∀ (i : Nat) (t d : Addr) (l : Ld), k ≤ i → ts[i]? = some t → ds[i]? = some d → ls[i]? = some l → H t = some (.tup [.int l.1, .int l.2.1, .ref d]) ∧ H d = some (.dK (sd l.2.2))
  lt : ts.length = ls.length
  ld : ds.length = ls.length
  nd : ds.Nodup
theorem LdsAt.half {H : Hp} {L : Addr} {ts ds : List Addr} {ls : List Ld} (k : LdsAt H L ts ds ls) : HalfAt H L ts ds ls 0 := ⟨k.e, fun i t d l _ => k.row i t d l, k.lt, k.ld, k.nd⟩
theorem HalfAt.mono {H H1 : Hp} {L : Addr} {ts ds : List Addr} {ls : List Ld} {k : Nat} (h : HalfAt H L ts ds ls k) (s : Same H H1) : HalfAt H1 L ts ds ls k :=
  ⟨s _ _ h.e, fun i t d l hi h1 h2 h3 => by
    obtain ⟨a, b⟩ := h.row i t d l hi h1 h2 h3
    exact ⟨s _ _ a, s _ _ b⟩, h.lt, h.ld, h.nd⟩
theorem HalfAt.at {H : Hp} {L : Addr} {ts ds : List Addr} {ls : List Ld} {k i : Nat} (h : HalfAt H L ts ds ls k) (hi : k ≤ i) (il : i < ls.length) :
    ∃ t d l, ts[i]? = some t ∧ ds[i]? = some d ∧ ls[i]? = some l ∧ H t = some (.tup [.int l.1, .int l.2.1, .ref d]) ∧ H d = some (.dK (sd l.2.2)) := by
  have lt := h.lt
  have ld := h.ld
  have h1 := List.getElem?_eq_getElem (l := ts) (i := i) (by omega)
  have h2 := List.getElem?_eq_getElem (l := ds) (i := i) (by omega)
  have h3 := List.getElem?_eq_getElem (l := ls) (i := i) (by omega)
  obtain ⟨a, b⟩ := h.row i _ _ _ hi h1 h2 h3
  exact ⟨_, _, _, h1, h2, h3, a, b⟩
theorem HalfAt.put {H : Hp} {L d : Addr} {ts ds : List Addr} {ls : List Ld} {k i : Nat} {kv kv' : List (Key × V)} (h : HalfAt H L ts ds ls k) (hi : ds[i]? = some d) (ed : H d = some (.dK kv)) (hk : i ≤ k) : HalfAt (L2.upd H d (.dK kv')) L ts ds ls (k + 1) := by
  have nl : ∀ {a : Addr} {xs : List V}, H a = some (.lst xs) → a ≠ d := fun h z => by rw [z, ed] at h; cases h
  have nt : ∀ {a : Addr} {xs : List V}, H a = some (.tup xs) → a ≠ d := fun h z => by rw [z, ed] at h; cases h
  refine ⟨by rw [upd_ne (nl h.e)]; exact h.e, fun j t d' l hj h1 h2 h3 => ?_, h.lt, h.ld, h.nd⟩
  obtain ⟨a, b⟩ := h.row j t d' l (by omega) h1 h2 h3
  refine ⟨by rw [upd_ne (nt a)]; exact a, ?_⟩
  rw [upd_ne fun z => ?_]
  · exact b
  · subst z
    have il := (List.getElem?_eq_some_iff.mp hi).1
    have jl := (List.getElem?_eq_some_iff.mp h2).1
    have := List.pairwise_iff_getElem.mp h.nd i j il jl (by omega)
    rw [(List.getElem?_eq_some_iff.mp hi).2, (List.getElem?_eq_some_iff.mp h2).2] at this
    exact this rfl
theorem HalfAt.pair {H : Hp} {L : Addr} {ts ds : List Addr} {ls : List Ld} {k : Nat} (h : HalfAt H L ts ds ls k) (hB : ∀ l ∈ ls, LdB l) (j n : Nat) (hj : k ≤ j) : Paired (LdV H) (((ts.drop j).take n).map V.ref) ((ls.drop j).take n) := by
  have lt := h.lt
  have ld := h.ld
  refine paired_of (by simp [lt]) fun i x l h1 h2 => ?_
  rw [List.getElem?_map, Option.map_eq_some_iff] at h1
  obtain ⟨t, ht, rfl⟩ := h1
  have il := (List.getElem?_eq_some_iff.mp ht).1
  rw [List.length_take, List.length_drop] at il
  rw [List.getElem?_take_of_lt (by omega), List.getElem?_drop] at ht h2
  have jl := (List.getElem?_eq_some_iff.mp ht).1
  have hd := List.getElem?_eq_getElem (l := ds) (i := j + i) (by omega)
  obtain ⟨e1, e2⟩ := h.row (j + i) t _ l (by omega) ht hd h2
  exact ⟨t, _, rfl, e1, e2, hB l (List.mem_of_getElem? h2)⟩
theorem cut_from (ts : List Addr) (j : Nat) : cutV (ts.map V.ref) (some (j : Int)) none = ((ts.drop j).take ts.length).map V.ref := by
  rw [cut_drop V.ref ts (by omega), Int.toNat_natCast, List.take_of_length_le (by rw [List.length_drop]; omega)]
theorem cut_but (ts : List Addr) (j : Nat) (h : j < ts.length) : cutV (ts.map V.ref) (some (j : Int)) (some (-1)) = ((ts.drop j).take (ts.length - 1 - j)).map V.ref := by
  unfold cutV
  rw [sIx_pos (i := (j : Int)) (by omega), Int.toNat_natCast, List.length_map, Nat.min_eq_left (by omega), ← List.map_drop, ← List.map_take]
  congr 1
  have : HT.sIx ts.length ts.length (some (-1)) = ts.length - 1 := by
    show (if (-1 : Int) < 0 then ((-1 : Int) + (ts.length : Int)).toNat else min (-1 : Int).toNat ts.length) = _
    rw [if_pos (by decide)]
    omega
  rw [this]
/-! ### == of lists of loads without stores -/
def DKe : Eqv := fun x y H => ∃ a b, x = .ref a ∧ y = .ref b ∧ H a = some (.dK []) ∧ H b = some (.dK [])
theorem mon_ke : Mon DKe := fun _ _ _ _ e ⟨a, b, hx, hy, h1, h2⟩ => ⟨a, b, hx, hy, e _ _ h1, e _ _ h2⟩
section
variable {X : Cx}
theorem eqG_ke : EqG X 1 DKe := by
  intro A pins s σ H x y u v sb I rx ry d
  obtain ⟨a, b, rfl, rfl, h1, h2⟩ := d
  have hu := sb.room.units
  exact eqV_run I 1 A (by omega) _ _ _ _ (.inr (.inr (.inr ⟨a, b, [], [], rfl, rfl, h1, h2, rfl, nofun⟩))) rx ry X.xe _ ⟨rfl, H, I, Ext.rfl'⟩
def DIt : Eqv := fun x y H => DFlat x y H ∨ DKe x y H
theorem mon_it : Mon DIt := mon_flat.or mon_ke
def DLds (K : PySem.W.Frag) : Eqv := DList (DTup K DIt)
theorem op_eqLd (hr : Room 3 X.A) : OpR X (compareOp .Eq) (rEqG (DLds X.K)) := op_eqG (rcG_list (mon_tup mon_it) (eqG_tup mon_it ((eqG_flat.mono (Nat.zero_le 1)).or eqG_ke))) hr
end
end LG
set_option Elab.async false
set_option linter.all false
set_option maxRecDepth 100000
set_option maxHeartbeats 1600000
/-! Own layer: calls by keywords alone, in any order, defaults among the rest. -/
namespace LT
open PySem PySem.Spec PyProof.Rows L2
/-- those at these places -/
def pick {α : Type} (is : List Nat) (l : List α) : List α := is.filterMap (l[·]?)
theorem vals_get : ∀ {vs : List V} {us : List Value}, Vals vs us → ∀ i : Nat, (vs[i]? = none ∧ us[i]? = none) ∨ ∃ v u, vs[i]? = some v ∧ us[i]? = some u ∧ RelV v u
  | _, _, .nil, i => .inl ⟨rfl, rfl⟩
  | _, _, .cons h _, 0 => .inr ⟨_, _, rfl, rfl, h⟩
  | _, _, .cons _ t, i + 1 => vals_get t i
theorem pick_vals {vs : List V} {us : List Value} (h : Vals vs us) : ∀ is : List Nat, Vals (pick is vs) (pick is us)
  | [] => .nil
  | i :: is => by
    have ih := pick_vals h is
    unfold pick at ih ⊢
    rcases vals_get h i with ⟨a, b⟩ | ⟨v, u, a, b, r⟩
    · rw [List.filterMap_cons, List.filterMap_cons, a, b]
      exact ih
    · rw [List.filterMap_cons, List.filterMap_cons, a, b]
      exact .cons r ih
section
variable {X : Cx} {CX : CXT} {k : Nat} {f C : Addr} {fd : FuncData} {ps ks : List Str} {sp : Sp} {E : XK} {m x : Str} {apos pos p : Pos} {o : Expr} {kws : List Keyword} {ta : TE} {tk : TA}
  {g : List Value → List Value → List Value} {gV : List V → List V → List V}
def tCallKn (j : Nat) (sp : Sp) (gV : List V → List V → List V) (E : XK) (tk : TA) : TE := fun σ H Q => tk σ H fun zs H1 => zs.length = j ∧ sp (gV [] zs) H1 Q E
theorem pe_callKn (F : FnOk X.prog X.w X.K X.mg X.base CX k f fd ps sp) (hr : Room k X.A) (hg : Gl X x) (hm : X.mg x = some (.ref f))
    (hk : PySem.W.keepIn X.K (.ref f) = true) (hb : KBn X.K fd ps 0 ks g gV) (hx : Passes CX X E) (hkw : PK X kws tk)
    (hall : (backToKw pos (keywordEach kws X.env)).all (·.1.isSome) = true := by rfl)
    (hks : (backToKw pos (keywordEach kws X.env)).filterMap (·.1) = ks := by rfl)
    (hdb : (x == ("__debug__" : Str)) = false := by decide)
    (hpl : ((backTo pos (starEach [] X.env)).any (·.1) || (backToKw pos (keywordEach kws X.env)).any (·.1.isNone)) = false := by rfl) :
    PE X (.Call (.Name x p) [] kws pos) (tCallKn ks.length sp gV E tk) := by
  refine ⟨fun pins s σ H Q I h => wpAny_Call_Name_kw (ld_glob I hg hm ?_ hdb)⟩
  refine PySem.W.callWith_KW0 (h₀ := X.base) I.ok.mod.kin hk hall ?_ hpl
  refine thn (hkw.run pos pins s σ H _ I h) fun ws s2 ⟨zs, H2, I2, rz, l2, q2⟩ => ⟨I2.kIn, ?_⟩
  rw [hks]
  exact run_fnN (us := []) (vs := []) F hr hb hx I2 .nil rz rfl l2 q2
end
end LT
set_option Elab.async false
set_option linter.all false
set_option maxRecDepth 100000
set_option maxHeartbeats 1600000
set_option pp.maxSteps 300
namespace K34
open PySem PySem.Spec PyProof.Rows L2 LT NdefX
section
variable {P : Program} {w : World} {K : PySem.W.Frag} {mg : Str → Option Value} {base : Heap}
theorem parts_ge {a d : Int} (hd : 1 ≤ d) : a ≤ partsI a d * d := by
  unfold partsI
  have h1 := Int.emod_add_mul_ediv (a + d - 1) d
  have h3 := Int.emod_lt_of_pos (a + d - 1) (show 0 < d by omega)
  rw [Int.mul_comm] at h1
  generalize (a + d - 1) / d * d = x at *
  omega
theorem room_fit {s c m : Int} (N : N3 s c m) : roomI s c m * m ≤ c := by
  have m1 := N.m1
  have h1 := Int.emod_add_mul_ediv c m
  have h2 := Int.emod_nonneg c (show m ≠ 0 by omega)
  rw [Int.mul_comm] at h1
  unfold roomI
  split
  · omega
  · rename_i h
    have := Int.mul_le_mul_of_nonneg_right (show s ≤ c / m by omega) (show 0 ≤ m by omega)
    omega
theorem few_take {s c m o b k n : Int} (N : N3 s c m) (o0 : 0 ≤ o) (b0 : 0 ≤ b) (k0 : 0 ≤ k) (h : fewI s c m o b k = some n) : o ≤ n * roomI s c m ∧ b ≤ n * roomI s c m ∧ o * m + k ≤ n * c := by
  have r0 := (room_bd N.s1 N.c1 N.m1).1
  have c1 := N.c1
  rw [few_up N o0 b0 k0] at h
  by_cases hr : roomI s c m = 0
  · rw [if_pos hr] at h
    rw [hr]
    by_cases hm : 0 < o ∨ 0 < b
    · rw [if_pos hm] at h
      cases h
    · rw [if_neg hm] at h
      cases h
      have eo : o = 0 := by omega
      have eb : b = 0 := by omega
      subst eo eb
      refine ⟨by simp, by simp, ?_⟩
      rw [Int.zero_mul, Int.zero_add]
      exact parts_ge c1
  · rw [if_neg hr] at h
    cases h
    have mx : ∀ x y : Int, x ≤ maxI x y ∧ y ≤ maxI x y := fun x y => by
      unfold maxI
      split <;> omega
    have up : ∀ {a d n : Int}, 1 ≤ d → partsI a d ≤ n → a ≤ n * d := fun {a d n} hd hn => Int.le_trans (parts_ge hd) (Int.mul_le_mul_of_nonneg_right hn (by omega))
    obtain ⟨h1, h2⟩ := mx (partsI o (roomI s c m)) (partsI b (roomI s c m))
    obtain ⟨h3, h4⟩ := mx (maxI (partsI o (roomI s c m)) (partsI b (roomI s c m))) (partsI (o * m + k) c)
    exact ⟨up (by omega) (Int.le_trans h1 h3), up (by omega) (Int.le_trans h2 h3), up c1 h4⟩
theorem ld_men {c m r o b : Int} {kvs : LG.KV2} (n : Nat) : (LG.ldF c m r o b kvs n).map (·.1) = (List.range n).map (LG.moF r o) ∧ (LG.ldF c m r o b kvs n).map (·.2.1) = (List.range n).map (LG.moF r b) ∧
    ∀ z, (LG.ldF c m r o b kvs n).map (fun l => LG.ofZ z l.2.2) = (List.range n).map fun i => LG.ofZ z (LG.partN c m r o kvs i) := by
  unfold LG.ldF
  refine ⟨?_, ?_, fun z => ?_⟩ <;> rw [List.map_map] <;> rfl
theorem ofZ_zero {z : Str} {r : LG.KV2} (h : ∀ q ∈ r, q.2 = 0) : LG.ofZ z r = 0 := LG.sum_zero fun q hq => h q (List.mem_filter.mp hq).1
structure AllOK (s c m o b : Int) (kvs : LG.KV2) (ls : List LG.Ld) : Prop where
  men : (ls.map (·.1)).sum = o
  home : (ls.map (·.2.1)).sum = b
  ok : ∀ l ∈ ls, LoadOK kvs l
  each : ∀ z, (ls.map fun l => LG.ofZ z l.2.2).sum = LG.ofZ z kvs
  fit : ∀ l ∈ ls, 0 ≤ l.1 ∧ 0 ≤ l.2.1 ∧ l.1 ≤ s ∧ l.2.1 ≤ s ∧ l.2.1 * m ≤ c ∧ l.1 * m + wsum l.2.2 ≤ c
theorem all_ok {s c m o b : Int} {kvs : LG.KV2} {n : Nat} (N : N3 s c m) (o0 : 0 ≤ o) (b0 : 0 ≤ b) (kv : Kv kvs) (k8 : kvs.length ≤ 8) (h : fewI s c m o b (wsum kvs) = some (n : Int)) : AllOK s c m o b kvs (LG.ldF c m (roomI s c m) o b kvs n) := by
  obtain ⟨r0, rs⟩ := room_bd N.s1 N.c1 N.m1
  have rf := room_fit N
  have m1 := N.m1
  have nn : ∀ q ∈ kvs, 0 ≤ q.2 := fun q hq => by have := kv.w1 q hq; omega
  have F := LG.fits (o := o) (by omega : 0 ≤ m) r0 rf
  obtain ⟨t1, t2, t3⟩ := few_take N o0 b0 (LG.sum_nn nn) h
  obtain ⟨l1, l2, l3⟩ := ld_men (c := c) (m := m) (r := roomI s c m) (o := o) (b := b) (kvs := kvs) n
  have eo : ((List.range n).map (LG.moF (roomI s c m) o)).sum = o := by rw [LG.mo_sum r0 o0, Int.min_eq_left t1]
  have eb : ((List.range n).map (LG.moF (roomI s c m) b)).sum = b := by rw [LG.mo_sum r0 b0, Int.min_eq_left t2]
  refine ⟨by rw [l1, eo], by rw [l2, eb], fun l hl => ?_, fun z => ?_, fun l hl => ?_⟩
  · unfold LG.ldF at hl
    obtain ⟨i, _, rfl⟩ := List.mem_map.mp hl
    have P := LG.part_ok F nn kv.nd i
    exact ⟨P.nd, Nat.le_trans P.len k8, P.ps, P.sub⟩
  · rw [l3]
    have e := LG.each_sum F nn z n
    rw [ofZ_zero (LG.rest_none F nn (n := n) (by
      rw [LG.wt_sum r0 o0, eo]
      have : wsum kvs = (kvs.map (·.2)).sum := rfl
      show LG.tot kvs ≤ _
      unfold LG.tot
      omega))] at e
    omega
  · unfold LG.ldF at hl
    obtain ⟨i, _, rfl⟩ := List.mem_map.mp hl
    have P := LG.part_ok F nn kv.nd i
    obtain ⟨a0, a1⟩ := mo_bd (o := o) r0 i
    obtain ⟨b2, b3⟩ := mo_bd (o := b) r0 i
    have bm := Int.mul_le_mul_of_nonneg_right b3 (show 0 ≤ m by omega)
    have le := P.le
    unfold LG.wtF LG.tot at le
    refine ⟨a0, b2, show LG.moF (roomI s c m) o i ≤ s by omega, show LG.moF (roomI s c m) b i ≤ s by omega, show LG.moF (roomI s c m) b i * m ≤ c by omega, ?_⟩
    show LG.moF (roomI s c m) o i * m + ((LG.partN c m (roomI s c m) o kvs i).map (·.2)).sum ≤ c
    omega
theorem ldB_of {s c m o b : Int} {kvs : LG.KV2} {ls : List LG.Ld} (N : N3 s c m) (kv : Kv kvs) (A : AllOK s c m o b kvs ls) : ∀ l ∈ ls, LG.LdB l := fun l hl => by
  obtain ⟨f1, f2, f3, f4, f5, f6⟩ := A.fit l hl
  have O := A.ok l hl
  have := N.s2
  have := N.c2
  have om : 0 ≤ l.1 * m := Int.mul_nonneg f1 (by have := N.m1; omega)
  refine ⟨by omega, by omega, O.len, fun p hp => ⟨?_, ?_⟩⟩
  · obtain ⟨q, hq, e⟩ := List.mem_map.mp (O.sub p hp)
    rw [← e]
    exact kv.nm q hq
  · have h1 := O.ps p hp
    have h2 := sum_ge (fun x hx => by have := O.ps x hx; omega) hp
    unfold wsum at f6
    omega
def spOwn34 (C : Addr) : Sp := fun vs H Q _ => ∃ (x L : Addr) (s c m o b : Int) (n : Nat) (d : Addr) (kvs : LG.KV2) (ts ds : List Addr), vs = [.ref x, .int o, .int b, .ref d, .ref L] ∧ Bt C H x s c m ∧ 0 ≤ o ∧ o ≤ 10 ^ 60 ∧ 0 ≤ b ∧ b ≤ 10 ^ 60 ∧ LG.Sto H (.ref d) kvs ∧ Kv kvs ∧ fewI s c m o b (wsum kvs) = some (n : Int) ∧ n ≤ 300 ∧
  LG.LdsAt H L ts ds (LG.ldF c m (roomI s c m) o b kvs n) ∧ AllOK s c m o b kvs (LG.ldF c m (roomI s c m) o b kvs n) ∧ d ∉ ds ∧
  ∀ H', (∀ a u, a ≠ L → a ∉ ds → H a = some u → H' a = some u) → Q (.bl true) H'
theorem sc__law_own : FnScope ["_law_ship", "_law_away", "_law_home", "_law_cargo", "_law_found", "_law_kept", "_law_again", "_law_k"] ["_law_ship", "_law_away", "_law_home", "_law_cargo", "_law_found"] (defScope s__law_own) := ⟨rfl, rfl, rfl, by decide +kernel, rfl, by decide +kernel, by decide +kernel⟩
theorem ok__law_own (D : All K P mg) : FnG P w K mg base CX0 8 D.f__law_own D.d__law_own ["_law_ship", "_law_away", "_law_home", "_law_cargo", "_law_found"] (spOwn34 D.C_Boat) := by
  refine okG D.h__law_own.fn sc__law_own (fun h => ?_) (fun cdv A outer s H vs Q E hG hr h => ?_)
  · first | (obtain ⟨_, rfl, _⟩ := h; rfl) | (obtain ⟨_, _, rfl, _⟩ := h; rfl) | (obtain ⟨_, _, _, rfl, _⟩ := h; rfl) | (obtain ⟨_, _, _, _, rfl, _⟩ := h; rfl) | (obtain ⟨_, _, _, _, _, rfl, _⟩ := h; rfl) | (obtain ⟨_, _, _, _, _, _, rfl, _⟩ := h; rfl) | (obtain ⟨_, _, _, _, _, _, _, rfl, _⟩ := h; rfl) | (obtain ⟨_, _, _, _, _, _, _, _, rfl, _⟩ := h; rfl) | (obtain ⟨_, _, _, _, _, _, _, _, _, rfl, _⟩ := h; rfl) | (obtain ⟨_, _, _, _, _, _, _, _, _, _, rfl, _⟩ := h; rfl) | (obtain ⟨_, _, _, _, _, _, _, _, _, _, _, rfl, _⟩ := h; rfl) | (obtain ⟨_, _, _, _, _, _, _, _, _, _, _, _, rfl, _⟩ := h; rfl) | (obtain ⟨_, _, _, _, _, _, _, _, _, _, _, _, _, rfl, _⟩ := h; rfl) | (obtain ⟨_, _, _, _, _, _, _, _, _, _, _, _, _, _, rfl, _⟩ := h; rfl) | (obtain ⟨_, _, _, _, _, _, _, _, _, _, _, _, _, _, _, rfl, _⟩ := h; rfl)
  · have T := D.T
    have nd := sc__law_own.nd
    have hu := hr.units
    have hu1 := hu_of hr
    have hu0 := hr.units0
    have hG2 : (cxOf CX0 P w K mg base ["_law_ship", "_law_away", "_law_home", "_law_cargo", "_law_found", "_law_kept", "_law_again", "_law_k"] "_law_own" (defScope s__law_own) D.f__law_own cdv A outer s H E).nox.A.guards = some [] := hG
    obtain ⟨x, L, s, c, m, o, b, n, d, kvs, ts, ds, rfl, W, o0, o1, b0, b1, hs, kv, hn, n3, k, A, nd3, q⟩ := h
    have N : N3 s c m := ⟨W.s1, W.c1, W.m1, W.s2, W.c2, W.m2⟩
    have hB := ldB_of N kv A
    have ll := LG.ldF_len c m (roomI s c m) o b kvs n
    obtain ⟨_, v4_loads, b4_loads⟩ := D.q_loads.binds1 (ps := ["boat", "out", "back", "stores"]) 4 2 (by simp) (by rfl) (fun _ _ _ _ _ _ _ us its h1 h2 => match us, its, h1, h2 with | [_, _, _, _], [_, _], _, _ => ⟨_, rfl, rfl⟩)
    obtain ⟨_, kw0_loads_stores_back_out_boat⟩ := D.q_loads.kbindsD (ps := ["boat", "out", "back", "stores"]) 0 ["stores", "back", "out", "boat"] (fun us its ws => us ++ pick [3, 2, 1, 0] ws) (by simp) (fun r1 r2 r3 => (r1).append (pick_vals r3 [3, 2, 1, 0])) (fun _ _ _ _ _ _ _ us its ws h1 h2 h3 => match us, its, ws, h1, h2, h3 with | [], [_, _], [_, _, _, _], _, _, _ => ⟨_, rfl, rfl⟩)
    refine ⟨_, pss_cons (ps_set (i := 5) nd rfl (.inl rfl) (pe_callB (LG.call_reprLd hG2 hu) (by rfl) T.repr (by decide +kernel) (pa_cons (pv 4) pa_nil)))
      (pss_cons (ps_set (i := 6) nd rfl (.inl rfl) (pe_callKn (ok_loads D) (hr.mono (by decide)) (by rfl) D.gl_loads D.kp_loads kw0_loads_stores_back_out_boat passL (pk_cons (pv 3) (pk_cons (pv 2) (pk_cons (pv 1) (pk_cons (pv 0) pk_nil))))))
      (pss_cons (ps_if (pt_cmpR op_ne (pe_callB (LG.call_reprLd hG2 hu) (by rfl) T.repr (by decide +kernel) (pa_cons (pv 6) pa_nil)) (pv 5) (nomark _)) (pss_one (ps_ret pe_bl)) pss_nil)
      (pss_cons (ps_for PassesOwn.never rfl (pi_range1 (by rfl) T.range (pa_cons (pe_callB (call_min2 rfl) (by rfl) T.min (by decide +kernel) (pa_cons (pe_callB call_len_seq (by rfl) T.len PySem.boot_len (pa_cons (pv 4) pa_nil)) (pa_cons pe_int pa_nil))) pa_nil)) (pg_name (i := 7) nd rfl (Or.inl rfl)) (pss_cons (ps_dput hu1 (pe_ix ix_tup (pe_ix ix_list (pv 4) (pv 7) (fun _ _ => rfl)) pe_int (fun _ _ => rfl)) pe_str (pe_un un_neg pe_int) rfl)
      (pss_one (ps_if (pt_cmpR op_ne (pe_callB (LG.call_reprLd hG2 hu) (by rfl) T.repr (by decide +kernel) (pa_cons (pe_slice sl_list (pv 4) (po_some (pe_op op_add (pv 7) pe_int)) po_none) pa_nil)) (pe_callB (LG.call_reprLd hG2 hu) (by rfl) T.repr (by decide +kernel) (pa_cons (pe_slice sl_list (pv 6) (po_some (pe_op op_add (pv 7) pe_int)) po_none) pa_nil)) (nomark _)) (pss_one (ps_ret pe_bl)) pss_nil))))
      (pss_cons (ps_if (pt_cmpR op_gt (pe_callB call_len_seq (by rfl) T.len PySem.boot_len (pa_cons (pv 4) pa_nil)) pe_int (nomark _)) (pss_cons (ps_dput hu1 (pe_ix ix_tup (pe_ix ix_list (pv 4) (pe_un un_neg pe_int) (fun _ _ => rfl)) pe_int (fun _ _ => rfl)) pe_str (pe_un un_neg pe_int) rfl)
      (pss_one (ps_if (pt_cmpR op_ne (pe_callB (LG.call_reprLd hG2 hu) (by rfl) T.repr (by decide +kernel) (pa_cons (pe_slice sl_list (pv 4) (po_some pe_int) (po_some (pe_un un_neg pe_int))) pa_nil)) (pe_callB (LG.call_reprLd hG2 hu) (by rfl) T.repr (by decide +kernel) (pa_cons (pe_slice sl_list (pv 6) (po_some pe_int) (po_some (pe_un un_neg pe_int))) pa_nil)) (nomark _)) (pss_one (ps_ret pe_bl)) pss_nil))) pss_nil)
      (pss_cons (ps_expr (pe_bm PySem.F.plainAttrs_list PySem.F.slot_list_append PySem.F.type_list_append mt_append (pv 4) (pa_cons pe_non pa_nil)))
      (pss_one (ps_ret (pe_and (pe_cmpR op_eq (pe_callB (LG.call_reprLd hG2 hu) (by rfl) T.repr (by decide +kernel) (pa_cons (pv 6) pa_nil)) (pv 5) (nomark _)) (pe_one (pe_cmpR op_eq (pe_callB (LG.call_reprLd hG2 hu) (by rfl) T.repr (by decide +kernel) (pa_cons (pe_call (ok_loads D) (hr.mono (by decide)) (by rfl) D.gl_loads D.kp_loads b4_loads v4_loads passL (pa_cons (pv 0) (pa_cons (pv 1) (pa_cons (pv 2) (pa_cons (pv 3) pa_nil))))) pa_nil)) (pv 5) (nomark _))))))))))), ?_⟩
    generalize hls : LG.ldF c m (roomI s c m) o b kvs n = ls at *
    have nn : ∀ H1 : Hp, fewI s c m o b (wsum kvs) = none → ∀ H', Same H1 H' → False := fun H1 e => by rw [hn] at e; cases e
    refine ⟨_, rfl, L, _, ls, rfl, SqL.of k.e, LG.lds_pair k hB, by omega, hB, ?_⟩
    refine ⟨_, rfl, _, rfl, _, rfl, _, rfl, rfl, x, s, c, m, o, b, kvs, .ref d, rfl, W, o0, o1, b0, b1, hs, (fun e => by rw [hn] at e; cases e), (fun n' e h3 => by rw [hn] at e; have := Option.some.inj e; omega), fun n' e _ M ts2 ds2 H1 k2 nw2 s1 => ?_⟩
    have en : n' = n := (Option.some.inj (hn.symm.trans e)).symm
    subst en
    rw [Int.toNat_natCast, hls] at k2
    refine ⟨_, rfl, M, _, ls, rfl, SqL.of k2.e, LG.lds_pair k2 hB, by omega, hB, _, rfl, ?_⟩
    refine ⟨rfl, _, rfl, ?_⟩
    rw [show decide (V.str (LG.ldsD ls).shown = V.str (LG.ldsD ls).shown) = true from decide_eq_true rfl]
    have lt := k.lt
    have ld := k.ld
    refine iteF ⟨_, rfl, L, _, rfl, .inl (SqL.of (s1 _ _ k.e)), _, _, rfl, ?_⟩
    have eM : (if (12 : Int) < (((ts.map V.ref).length : Nat) : Int) then (12 : Int) else (((ts.map V.ref).length : Nat) : Int)) = ((min n 12 : Nat) : Int) := by
      rw [List.length_map, lt]
      split <;> omega
    rw [eM]
    have nds : ∀ a ∈ ds, ∃ u, H a = some u := fun a ha => by
      obtain ⟨i, hi⟩ := List.getElem?_of_mem ha
      have il := (List.getElem?_eq_some_iff.mp hi).1
      exact ⟨_, (k.row i _ a _ (List.getElem?_eq_getElem (by omega)) hi (List.getElem?_eq_getElem (by omega))).2⟩
    have nd2 : ∀ a ∈ M :: (ts2 ++ ds2), a ∉ ds := fun a ha hd => by
      obtain ⟨u, e⟩ := nds a hd
      rw [nw2 a ha] at e
      cases e
    refine ⟨_, rfl, by omega, by omega, for_range (lo := 0) (n := min n 12) (fun i σ H' => (∃ x7, σ = [some (.ref x), some (.int o), some (.int b), some (.ref d), some (.ref L), some (.str (LG.ldsD ls).shown), some (.ref M), x7]) ∧ LG.HalfAt H' L ts ds ls i ∧ LG.LdsAt H' M ts2 ds2 ls ∧ ∀ a u, a ∉ ds → H a = some u → H' a = some u)
      ⟨⟨none, rfl⟩, k.half.mono s1, k2, fun a u _ e => s1 a u e⟩ ?_ ?_⟩
    · rintro i σ H3 hi ⟨⟨x7, rfl⟩, hk, k3, fr⟩
      rw [show (0 : Int) + ((i : Nat) : Int) = ((i : Nat) : Int) by omega]
      obtain ⟨ti, di, li, h1, h2, h3, et, ed⟩ := hk.at (Nat.le_refl i) (by omega)
      have lil := hB li (List.mem_of_getElem? h3)
      have l8 := lil.len
      refine ⟨_, rfl, _, rfl, _, rfl, L, _, (i : Int), .ref ti, rfl, rfl, SqL.of hk.e, atI_nat (j := i) (by rw [List.getElem?_map, h1]; rfl), ti, _, 2, .ref di, rfl, rfl, SqT.of et, atI_nat (j := 2) rfl, di, _, rfl, DPut.k (k := Sum.inr (Str.ofString "more")) ed (by rw [sd_len]; exact small2k (by omega)), ?_⟩
      have hk4 := hk.put (kv' := putK (sd li.2.2) (Sum.inr (Str.ofString "more")) (.int (-1))) h2 ed (Nat.le_refl i)
      have mdi := List.mem_of_getElem? h2
      have k4 : LG.LdsAt (L2.upd H3 di (.dK (putK (sd li.2.2) (Sum.inr (Str.ofString "more")) (.int (-1))))) M ts2 ds2 ls := k3.mono fun a ha u e => by
        rw [upd_ne fun z => nd2 a ha (by rw [z]; exact mdi)]
        exact e
      have fr4 : ∀ a u, a ∉ ds → H a = some u → L2.upd H3 di (.dK (putK (sd li.2.2) (Sum.inr (Str.ofString "more")) (.int (-1)))) a = some u := fun a u ha e => by
        rw [upd_ne fun z => ha (by rw [z]; exact mdi)]
        exact fr a u ha e
      generalize L2.upd H3 di (.dK (putK (sd li.2.2) (Sum.inr (Str.ofString "more")) (.int (-1)))) = H4 at *
      have e1 : ((i : Nat) : Int) + 1 = ((i + 1 : Nat) : Int) := by omega
      have hB2 : ∀ l ∈ (ls.drop (i + 1)).take ts.length, LG.LdB l := fun l hl => hB l (List.mem_of_mem_drop (List.mem_of_mem_take hl))
      have l3 : ((ls.drop (i + 1)).take ts.length).length ≤ 300 := by rw [List.length_take, List.length_drop]; omega
      refine ⟨_, rfl, _, rfl, _, _, rfl, rfl, _, rfl, L, _, rfl, SqL.of hk4.e, fun F1 nF1 => ?_⟩
      rw [e1, LG.cut_from]
      have s5 := same_upd (o := .lst (((ts.drop (i + 1)).take ts.length).map V.ref)) nF1
      have eF5 := upd_same (H := H4) (a := F1) (o := .lst (((ts.drop (i + 1)).take ts.length).map V.ref))
      have hk5 := hk4.mono s5
      have k5 : LG.LdsAt (L2.upd H4 F1 (.lst (((ts.drop (i + 1)).take ts.length).map V.ref))) M ts2 ds2 ls := k4.mono fun a _ u e => s5 a u e
      generalize L2.upd H4 F1 (.lst (((ts.drop (i + 1)).take ts.length).map V.ref)) = H5 at *
      refine ⟨F1, _, _, rfl, SqL.of eF5, hk5.pair hB (i + 1) ts.length (Nat.le_refl _), l3, hB2, ?_⟩
      refine ⟨_, rfl, _, rfl, _, _, rfl, rfl, _, rfl, M, _, rfl, SqL.of k5.e, fun F2 nF2 => ?_⟩
      rw [e1, LG.cut_from]
      have s6 := same_upd (o := .lst (((ts2.drop (i + 1)).take ts2.length).map V.ref)) nF2
      have eF6 := upd_same (H := H5) (a := F2) (o := .lst (((ts2.drop (i + 1)).take ts2.length).map V.ref))
      have hk6 := hk5.mono s6
      have k6 : LG.LdsAt (L2.upd H5 F2 (.lst (((ts2.drop (i + 1)).take ts2.length).map V.ref))) M ts2 ds2 ls := k5.mono fun a _ u e => s6 a u e
      generalize L2.upd H5 F2 (.lst (((ts2.drop (i + 1)).take ts2.length).map V.ref)) = H6 at *
      have lt2 : ts2.length = ts.length := by rw [k2.lt, lt]
      rw [lt2] at eF6
      refine ⟨F2, _, _, rfl, SqL.of eF6, k6.half.pair hB (i + 1) ts.length (Nat.zero_le _), l3, hB2, rfl, _, rfl, ?_⟩
      rw [decide_eq_true rfl]
      refine iteF ⟨⟨_, rfl⟩, hk6, k6, fun a u ha e => s6 _ _ (s5 _ _ (fr4 a u ha e))⟩
    · rintro σ H3 ⟨⟨x7, rfl⟩, hk, k3, fr⟩
      have ends : ∀ {y : V}, (ts.map V.ref)[n - 1]? = some y → atI (ts.map V.ref) (-1) = some y := fun h => LT.atI_end63 (by rw [List.length_map, lt, ll]; exact h)
      apply joinA (α := Unit) (J := fun _ H' => H' L = some (.lst (ts.map V.ref)) ∧ LG.LdsAt H' M ts2 ds2 ls ∧ ∀ a u, a ∉ ds → H a = some u → H' a = some u) (sl := fun _ => [some (.ref x), some (.int o), some (.int b), some (.ref d), some (.ref L), some (.str (LG.ldsD ls).shown), some (.ref M), x7])
      · intro k9
        refine ⟨_, rfl, L, _, rfl, .inl (SqL.of hk.e), _, _, rfl, rfl, _, rfl, ?_⟩
        by_cases h12 : 12 < n
        · rw [decide_eq_true (show (12 : Int) < (((ts.map V.ref).length : Nat) : Int) by rw [List.length_map]; omega)]
          rw [Nat.min_eq_right (by omega)] at hk
          obtain ⟨ti, di, li, h1, h2, h3, et, ed⟩ := hk.at (i := n - 1) (by omega) (by omega)
          have lil := hB li (List.mem_of_getElem? h3)
          have l8 := lil.len
          refine iteT ⟨_, rfl, _, rfl, _, rfl, L, _, (-1), .ref ti, rfl, rfl, SqL.of hk.e, ends (by rw [List.getElem?_map, h1]; rfl), ti, _, 2, .ref di, rfl, rfl, SqT.of et, atI_nat (j := 2) rfl, di, _, rfl, DPut.k (k := Sum.inr (Str.ofString "more")) ed (by rw [sd_len]; exact small2k (by omega)), ?_⟩
          have mdi := List.mem_of_getElem? h2
          have eL3 := hk.e
          have nl : L ≠ di := fun z => by rw [z, ed] at eL3; cases eL3
          have eL4 : L2.upd H3 di (.dK (putK (sd li.2.2) (Sum.inr (Str.ofString "more")) (.int (-1)))) L = some (.lst (ts.map V.ref)) := by rw [upd_ne nl]; exact eL3
          have prs : Paired (LG.LdV (L2.upd H3 di (.dK (putK (sd li.2.2) (Sum.inr (Str.ofString "more")) (.int (-1)))))) (((ts.drop 12).take (ts.length - 1 - 12)).map V.ref) ((ls.drop 12).take (ts.length - 1 - 12)) := by
            refine LG.paired_of (by simp [lt]) fun i y l e1 e2 => ?_
            have P := hk.pair hB 12 (ts.length - 1 - 12) (Nat.le_refl _)
            rw [List.getElem?_map, Option.map_eq_some_iff] at e1
            obtain ⟨t, ht, rfl⟩ := e1
            have il := (List.getElem?_eq_some_iff.mp ht).1
            rw [List.length_take, List.length_drop] at il
            rw [List.getElem?_take_of_lt (by omega), List.getElem?_drop] at ht e2
            obtain ⟨dd, hd⟩ : ∃ dd, ds[12 + i]? = some dd := ⟨_, List.getElem?_eq_getElem (by omega)⟩
            obtain ⟨q1, q2⟩ := hk.row (12 + i) t dd l (by omega) ht hd e2
            refine ⟨t, dd, rfl, ?_, ?_, hB l (List.mem_of_getElem? e2)⟩
            · rw [upd_ne fun z => by rw [z, ed] at q1; cases q1]
              exact q1
            · rw [upd_ne fun z => ?_]
              · exact q2
              · have il2 := (List.getElem?_eq_some_iff.mp h2).1
                have := List.pairwise_iff_getElem.mp k.nd (12 + i) (n - 1) (List.getElem?_eq_some_iff.mp hd).1 il2 (by omega)
                rw [(List.getElem?_eq_some_iff.mp h2).2, (List.getElem?_eq_some_iff.mp hd).2] at this
                exact this z
          have k4 : LG.LdsAt (L2.upd H3 di (.dK (putK (sd li.2.2) (Sum.inr (Str.ofString "more")) (.int (-1))))) M ts2 ds2 ls := k3.mono fun a ha u e => by
            rw [upd_ne fun z => nd2 a ha (by rw [z]; exact mdi)]
            exact e
          have fr4 : ∀ a u, a ∉ ds → H a = some u → L2.upd H3 di (.dK (putK (sd li.2.2) (Sum.inr (Str.ofString "more")) (.int (-1)))) a = some u := fun a u ha e => by
            rw [upd_ne fun z => ha (by rw [z]; exact mdi)]
            exact fr a u ha e
          generalize L2.upd H3 di (.dK (putK (sd li.2.2) (Sum.inr (Str.ofString "more")) (.int (-1)))) = H4 at *
          have hB2 : ∀ l ∈ (ls.drop 12).take (ts.length - 1 - 12), LG.LdB l := fun l hl => hB l (List.mem_of_mem_drop (List.mem_of_mem_take hl))
          have l3 : ((ls.drop 12).take (ts.length - 1 - 12)).length ≤ 300 := by rw [List.length_take, List.length_drop]; omega
          have lt2 : ts2.length = ts.length := by rw [k2.lt, lt]
          have c1 := LG.cut_but ts 12 (by omega)
          have c2 := LG.cut_but ts2 12 (by omega)
          refine ⟨_, rfl, _, rfl, _, rfl, _, rfl, L, _, rfl, SqL.of eL4, fun F1 nF1 => ?_⟩
          have s5 := same_upd (o := .lst (cutV (ts.map V.ref) (some 12) (some (-1)))) nF1
          have eF5 := upd_same (H := H4) (a := F1) (o := .lst (cutV (ts.map V.ref) (some 12) (some (-1))))
          have k5 : LG.LdsAt (L2.upd H4 F1 (.lst (cutV (ts.map V.ref) (some 12) (some (-1))))) M ts2 ds2 ls := k4.mono fun a _ u e => s5 a u e
          have prs5 := paired_imp (fun a b (h : LG.LdV H4 a b) => (show LG.LdV (L2.upd H4 F1 (.lst (cutV (ts.map V.ref) (some 12) (some (-1))))) a b from by
            obtain ⟨t, d', e1, e2, e3, e4⟩ := h
            exact ⟨t, d', e1, s5 _ _ e2, s5 _ _ e3, e4⟩)) prs
          generalize L2.upd H4 F1 (.lst (cutV (ts.map V.ref) (some 12) (some (-1)))) = H5 at *
          rw [show cutV (ts.map V.ref) (some 12) (some (-1)) = _ from c1] at eF5
          refine ⟨F1, _, _, rfl, SqL.of eF5, prs5, l3, hB2, ?_⟩
          refine ⟨_, rfl, _, rfl, _, rfl, _, rfl, M, _, rfl, SqL.of k5.e, fun F2 nF2 => ?_⟩
          have s6 := same_upd (o := .lst (cutV (ts2.map V.ref) (some 12) (some (-1)))) nF2
          have eF6 := upd_same (H := H5) (a := F2) (o := .lst (cutV (ts2.map V.ref) (some 12) (some (-1))))
          have k6 : LG.LdsAt (L2.upd H5 F2 (.lst (cutV (ts2.map V.ref) (some 12) (some (-1))))) M ts2 ds2 ls := k5.mono fun a _ u e => s6 a u e
          generalize L2.upd H5 F2 (.lst (cutV (ts2.map V.ref) (some 12) (some (-1)))) = H6 at *
          rw [show cutV (ts2.map V.ref) (some 12) (some (-1)) = _ from c2, lt2] at eF6
          refine ⟨F2, _, _, rfl, SqL.of eF6, k6.half.pair hB 12 (ts.length - 1 - 12) (Nat.zero_le _), l3, hB2, rfl, _, rfl, ?_⟩
          rw [decide_eq_true rfl]
          exact iteF (k9 () _ ⟨s6 _ _ (s5 _ _ eL4), k6, fun a u ha e => s6 _ _ (s5 _ _ (fr4 a u ha e))⟩)
        · rw [decide_eq_false (show ¬ (12 : Int) < (((ts.map V.ref).length : Nat) : Int) by rw [List.length_map]; omega)]
          exact iteF (k9 () _ ⟨hk.e, k3, fr⟩)
      clear hk k3 fr
      rintro _ H4 ⟨eL4, k4, fr4⟩
      refine ⟨_, rfl, .inl ⟨rfl, _, SqL.of eL4⟩, L, _, _, rfl, rfl, eL4, by rw [List.length_map]; exact small2k (by omega), ?_⟩
      have nLM : ∀ a ∈ M :: (ts2 ++ ds2), a ≠ L := fun a ha z => by
        have h1 := nw2 a ha
        rw [z, k.e] at h1
        cases h1
      have k5 : LG.LdsAt (L2.upd H4 L (.lst (ts.map V.ref ++ [.non]))) M ts2 ds2 ls := k4.mono fun a ha u e => by
        rw [upd_ne (nLM a ha)]
        exact e
      have fr5 : ∀ a u, a ≠ L → a ∉ ds → H a = some u → L2.upd H4 L (.lst (ts.map V.ref ++ [.non])) a = some u := fun a u hl ha e => by
        rw [upd_ne hl]
        exact fr4 a u ha e
      generalize L2.upd H4 L (.lst (ts.map V.ref ++ [.non])) = H5 at *
      refine ⟨_, rfl, M, _, ls, rfl, SqL.of k5.e, LG.lds_pair k5 hB, by omega, hB, _, rfl, rfl, ?_⟩
      rw [decide_eq_true rfl]
      have eLH := k.e
      have W5 : Bt D.C_Boat H5 x s c m := by
        obtain ⟨⟨dx, h1⟩, a1, a2, a3, a4, a5, a6⟩ := W
        refine ⟨⟨dx, fr5 _ _ (fun z => by rw [z, eLH] at h1; cases h1) (fun hd => ?_) h1⟩, a1, a2, a3, a4, a5, a6⟩
        obtain ⟨i, hi⟩ := List.getElem?_of_mem hd
        have il := (List.getElem?_eq_some_iff.mp hi).1
        obtain ⟨_, e⟩ := k.row i _ x _ (List.getElem?_eq_getElem (by omega)) hi (List.getElem?_eq_getElem (by omega))
        rw [e] at h1
        cases h1
      have hs5 : LG.Sto H5 (.ref d) kvs := by
        cases hs with
        | dict e k8 l => exact .dict (fr5 _ _ (fun z => by rw [z, eLH] at e; cases e) nd3 e) k8 l
      refine ⟨_, rfl, iteT ?_⟩
      refine ⟨_, rfl, _, rfl, _, rfl, _, rfl, x, s, c, m, o, b, kvs, .ref d, rfl, W5, o0, o1, b0, b1, hs5, (fun e => by rw [hn] at e; cases e), (fun n' e h3 => by rw [hn] at e; have := Option.some.inj e; omega), fun n' e _ M3 ts3 ds3 H6 k6 _ s6 => ?_⟩
      have en : n' = n := (Option.some.inj (hn.symm.trans e)).symm
      subst en
      rw [Int.toNat_natCast, hls] at k6
      refine ⟨M3, _, ls, rfl, SqL.of k6.e, LG.lds_pair k6 hB, by omega, hB, _, rfl, rfl, ?_⟩
      rw [decide_eq_true rfl]
      exact q H6 fun a u hl ha e => s6 _ _ (fr5 a u hl ha e)
end
end K34
set_option Elab.async false
set_option linter.all false
set_option maxRecDepth 100000
set_option maxHeartbeats 1600000
set_option pp.maxSteps 300
namespace K34
open PySem PySem.Spec PyProof.Rows L2 LT NdefX
section
variable {P : Program} {w : World} {K : PySem.W.Frag} {mg : Str → Option Value} {base : Heap}
def spLooked (C : Addr) : Sp := fun vs H Q _ => ∃ (t x : Addr) (s c m o b : Int) (d : Addr) (kvs : LG.KV2), vs = [.ref t, .ref x, .int o, .int b, .ref d] ∧ H t = some (.tup [.int s, .int c, .int m]) ∧ N3 s c m ∧ Bt C H x s c m ∧ 0 ≤ o ∧ o ≤ 10 ^ 60 ∧ 0 ≤ b ∧ b ≤ 10 ^ 60 ∧
  H d = some (.dK (sd kvs)) ∧ Kv kvs ∧ kvs.length ≤ 8 ∧ ∀ H', Same H H' → Q (.bl true) H'
theorem sc__law_looked : FnScope ["_law_numbers", "_law_ship", "_law_away", "_law_home", "_law_cargo", "_law_kept", "_law_least", "_law_found", "_law_word_here", "_law_load"] ["_law_numbers", "_law_ship", "_law_away", "_law_home", "_law_cargo"] (defScope s__law_looked) := ⟨rfl, rfl, rfl, by decide +kernel, rfl, by decide +kernel, by decide +kernel⟩
theorem ok__law_looked (D : All K P mg) : FnG P w K mg base CX0 9 D.f__law_looked D.d__law_looked ["_law_numbers", "_law_ship", "_law_away", "_law_home", "_law_cargo"] (spLooked D.C_Boat) := by
  refine okG D.h__law_looked.fn sc__law_looked (fun h => ?_) (fun cdv A outer s H vs Q E hG hr h => ?_)
  · first | (obtain ⟨_, rfl, _⟩ := h; rfl) | (obtain ⟨_, _, rfl, _⟩ := h; rfl) | (obtain ⟨_, _, _, rfl, _⟩ := h; rfl) | (obtain ⟨_, _, _, _, rfl, _⟩ := h; rfl) | (obtain ⟨_, _, _, _, _, rfl, _⟩ := h; rfl) | (obtain ⟨_, _, _, _, _, _, rfl, _⟩ := h; rfl) | (obtain ⟨_, _, _, _, _, _, _, rfl, _⟩ := h; rfl) | (obtain ⟨_, _, _, _, _, _, _, _, rfl, _⟩ := h; rfl) | (obtain ⟨_, _, _, _, _, _, _, _, _, rfl, _⟩ := h; rfl) | (obtain ⟨_, _, _, _, _, _, _, _, _, _, rfl, _⟩ := h; rfl) | (obtain ⟨_, _, _, _, _, _, _, _, _, _, _, rfl, _⟩ := h; rfl) | (obtain ⟨_, _, _, _, _, _, _, _, _, _, _, _, rfl, _⟩ := h; rfl) | (obtain ⟨_, _, _, _, _, _, _, _, _, _, _, _, _, rfl, _⟩ := h; rfl) | (obtain ⟨_, _, _, _, _, _, _, _, _, _, _, _, _, _, rfl, _⟩ := h; rfl) | (obtain ⟨_, _, _, _, _, _, _, _, _, _, _, _, _, _, _, rfl, _⟩ := h; rfl)
  · have T := D.T
    have nd := sc__law_looked.nd
    have hu := hr.units
    have hu1 := hu_of hr
    have hu0 := hr.units0
    have hG2 : (cxOf CX0 P w K mg base ["_law_numbers", "_law_ship", "_law_away", "_law_home", "_law_cargo", "_law_kept", "_law_least", "_law_found", "_law_word_here", "_law_load"] "_law_looked" (defScope s__law_looked) D.f__law_looked cdv A outer s H E).nox.A.guards = some [] := hG
    obtain ⟨t, x, s, c, m, o, b, d, kvs, rfl, et, N, W, o0, o1, b0, b1, ed, kv, k8, q⟩ := h
    refine ⟨_, pss_cons (ps_set (i := 5) nd rfl (.inl rfl) (pe_callTy call_dictD (by rfl) T.dict (by decide +kernel) (pa_cons (pv 4) pa_nil)))
      (pss_cons (ps_set (i := 6) nd rfl (.inl rfl) (pe_call (ok__law_fewest D) (hr.mono (by decide)) (by rfl) D.h__law_fewest.gl D.h__law_fewest.fn.kp D.h__law_fewest.bd .nil pass0 (pa_cons (pv 0) (pa_cons (pv 2) (pa_cons (pv 3) (pa_cons (pe_sumVals rfl (by rfl) T.sum (pv 4)) pa_nil))))))
      (pss_cons (ps_asg (pe_call (ok__law_told D) (hr.mono (by decide)) (by rfl) D.h__law_told.gl D.h__law_told.fn.kp D.h__law_told.bd .nil pass0 (pa_cons (pv 1) (pa_cons (pv 2) (pa_cons (pv 3) (pa_cons (pv 4) pa_nil))))) (pg_tup rfl (pgs_cons (pg_name (i := 7) nd rfl (Or.inl rfl)) (pgs_cons (pg_name (i := 8) nd rfl (Or.inl rfl)) pgs_nil))))
      (pss_cons (ps_if (PW.pt (pw_or (pt_cmpR op_isN (pv 6) pe_non (nomark _)) (pw_or1 (pt_cmpR op_gt (pv 6) pe_int (nomark _))))) (pss_one (ps_ret (pe_and (pe_cmpR op_isN (pv 7) pe_non (nomark _)) (pe_and (pe_cmpR op_eq (pv 8) (pe_ix ix_list (pe_lst (pa_cons pe_str (pa_cons pe_str pa_nil))) (pe_callTy call_int1 (by rfl) T.int (by decide +kernel) (pa_cons (pe_cmpR op_isN (pv 6) pe_non (nomark _)) pa_nil)) (fun _ _ => rfl)) (nomark _)) (pe_one (pe_cmpR (LT.op_eqDG hu0) (pv 4) (pv 5) (nomark _))))))) pss_nil)
      (pss_cons (ps_if (PW.pt (pw_or (pt_not (pt_val (pe_callB call_isi (by rfl) T.isi (by decide +kernel) (pa_cons (pv 7) (pa_cons (pe_bltn (v := .ty "list") (by rfl) T.list (by decide +kernel) rfl) pa_nil))))) (pw_or (pt_cmpR op_ne (pe_callB call_len_seq (by rfl) T.len PySem.boot_len (pa_cons (pv 7) pa_nil)) (pv 6) (nomark _)) (pw_or1 (pt_not (pt_val (pe_callB (cr_all rfl) (by rfl) T.all (by decide +kernel) (pa_cons (pe_lc (own := [("_law_load", 9)]) (g := gName 9) (tt := tYes) rfl nd (pi_list (pv 7)) (blkOk_by (N := ["_law_numbers", "_law_ship", "_law_away", "_law_home", "_law_cargo", "_law_kept", "_law_least", "_law_found", "_law_word_here", "_law_load"]) (sc := defScope s__law_looked) (by decide +kernel)) (fun _ _ _ _ _ => (pg_name (i := 9) nd rfl (Or.inl rfl))) (fun _ _ _ _ _ => pts_nil) (fun _ _ _ _ _ => (pe_call (ok__law_is_load D) (hr.mono (by decide)) (by rfl) D.h__law_is_load.gl D.h__law_is_load.fn.kp D.h__law_is_load.bd .nil pass0 (pa_cons (pv 0) (pa_cons (pv 9) pa_nil))))) pa_nil)))))))) (pss_one (ps_ret pe_bl)) pss_nil)
      (pss_cons (ps_if (PW.pt (pw_or (pt_not (pt_val (pe_call (ok__law_carry_all D) (hr.mono (by decide)) (by rfl) D.h__law_carry_all.gl D.h__law_carry_all.fn.kp D.h__law_carry_all.bd .nil pass0 (pa_cons (pv 7) (pa_cons (pv 2) (pa_cons (pv 3) (pa_cons (pv 5) pa_nil))))))) (pw_or1 (pt_cmpR (LT.op_neDG hu0) (pv 4) (pv 5) (nomark _))))) (pss_one (ps_ret pe_bl)) pss_nil)
      (pss_one (ps_ret (pe_and (pe_callG (ok__law_own D) hG2 (hr.mono (by decide)) (by rfl) D.h__law_own.gl D.h__law_own.fn.kp D.h__law_own.bd .nil pass0 (pa_cons (pv 1) (pa_cons (pv 2) (pa_cons (pv 3) (pa_cons (pv 4) (pa_cons (pv 7) pa_nil)))))) (pe_one (pe_cmpR (LT.op_eqDG hu0) (pv 4) (pv 5) (nomark _))))))))))), ?_⟩
    refine ⟨_, rfl, d, _, rfl, .inl ed, fun R nR => ?_⟩
    have s1 := same_upd (o := .dK (sd kvs)) nR
    have eR := upd_same (H := H) (a := R) (o := .dK (sd kvs))
    have et1 := s1 _ _ et
    have ed1 := s1 _ _ ed
    have W1 := W.mono s1
    generalize L2.upd H R (.dK (sd kvs)) = H1 at *
    refine ⟨_, rfl, _, rfl, _, rfl, _, rfl, d, _, kvs.map (·.2), rfl, ed1, sd_vals kvs, ?_⟩
    have hst : LG.Sto H1 (.ref d) kvs := .dict ed1 kv k8
    obtain ⟨k0, k1⟩ := hst.stv.bd
    have kk : (kvs.map (·.2)).sum = wsum kvs := rfl
    rw [kk]
    refine ⟨t, s, c, m, o, b, wsum kvs, rfl, et1, N, o0, o1, b0, b1, k0, by omega, ?_⟩
    refine ⟨_, rfl, _, rfl, _, rfl, _, rfl, x, s, c, m, o, b, kvs, .ref d, rfl, W1, o0, o1, b0, b1, hst, fun sm hw T H2 nT s2 eT => ?_, fun n hn hm T L ts ds H2 nT eT k nw s2 => ?_⟩
    · have nTR : T ≠ R := fun z => by rw [z, eR] at nT; cases nT
      refine ⟨T, _, rfl, SqT.of eT, rfl, _, _, rfl, _, _, rfl, rfl, ?_⟩
      have s02 := s1.trans s2
      have fin : ∀ H3, Same H2 H3 → dkEq (sd kvs) (sd kvs) = true ∧ H3 d = some (.dK (sd kvs)) ∧ H3 R = some (.dK (sd kvs)) := fun H3 s3 => ⟨rkEq_perm kv.nd (List.Perm.refl _), s3 _ _ (s2 _ _ ed1), s3 _ _ (s2 _ _ eR)⟩
      rcases hw with ⟨hn, rfl⟩ | ⟨⟨n, hn, h3⟩, rfl⟩
      · rw [hn]
        refine ⟨_, rfl, rfl, _, rfl, ?_⟩
        rw [decide_eq_true (show leastV none = V.non from rfl)]
        refine iteT ⟨_, rfl, rfl, ?_⟩
        rw [decide_eq_true (show V.non = V.non from rfl)]
        refine ⟨_, rfl, iteT ⟨_, rfl, by show 2 ≤ sizeLine; decide, fun l nl => ?_⟩⟩
        have s3 := same_upd (o := .lst [V.str (Str.ofString "many"), .str (Str.ofString "small")]) nl
        have el := upd_same (H := H2) (a := l) (o := .lst [V.str (Str.ofString "many"), .str (Str.ofString "small")])
        obtain ⟨f1, f2, f3⟩ := fin _ s3
        refine ⟨_, rfl, rfl, .inr ⟨_, rfl, l, _, 1, _, rfl, rfl, SqL.of el, atI_nat (j := 1) rfl, rfl, ?_⟩⟩
        rw [decide_eq_true (show wordV true = V.str (Str.ofString "small") from rfl)]
        refine ⟨_, rfl, iteT ⟨_, rfl, _, rfl, d, R, _, _, rfl, rfl, f2, f3, sd_flat kvs, sd_flat kvs, ?_⟩⟩
        rw [f1]
        exact q _ (s02.trans s3)
      · rw [hn]
        refine ⟨_, rfl, rfl, _, rfl, ?_⟩
        rw [decide_eq_false (show ¬ leastV (some n) = V.non from nofun)]
        refine iteF ⟨_, rfl, _, _, rfl, rfl, _, rfl, ?_⟩
        rw [decide_eq_true h3]
        refine iteT ⟨_, rfl, rfl, ?_⟩
        rw [decide_eq_true (show V.non = V.non from rfl)]
        refine ⟨_, rfl, iteT ⟨_, rfl, by show 2 ≤ sizeLine; decide, fun l nl => ?_⟩⟩
        have s3 := same_upd (o := .lst [V.str (Str.ofString "many"), .str (Str.ofString "small")]) nl
        have el := upd_same (H := H2) (a := l) (o := .lst [V.str (Str.ofString "many"), .str (Str.ofString "small")])
        obtain ⟨f1, f2, f3⟩ := fin _ s3
        refine ⟨_, rfl, rfl, .inr ⟨_, rfl, l, _, 0, _, rfl, rfl, SqL.of el, atI_nat (j := 0) rfl, rfl, ?_⟩⟩
        rw [decide_eq_true (show wordV false = V.str (Str.ofString "many") from rfl)]
        refine ⟨_, rfl, iteT ⟨_, rfl, _, rfl, d, R, _, _, rfl, rfl, f2, f3, sd_flat kvs, sd_flat kvs, ?_⟩⟩
        rw [f1]
        exact q _ (s02.trans s3)
    · obtain ⟨nn, rfl⟩ : ∃ nn : Nat, n = (nn : Int) := ⟨n.toNat, by have := few_nn N.s1 N.c1 N.m1 o0 b0 k0 hn; omega⟩
      rw [Int.toNat_natCast] at k
      have A := all_ok N o0 b0 kv k8 hn
      have ll := LG.ldF_len c m (roomI s c m) o b kvs nn
      refine ⟨T, _, rfl, SqT.of eT, rfl, _, _, rfl, _, _, rfl, rfl, ?_⟩
      rw [hn]
      refine ⟨_, rfl, rfl, _, rfl, ?_⟩
      rw [decide_eq_false (show ¬ leastV (some (nn : Int)) = V.non from nofun)]
      refine iteF ⟨_, rfl, _, _, rfl, rfl, _, rfl, ?_⟩
      rw [decide_eq_false (show ¬ (300 : Int) < (nn : Int) by omega)]
      have eL := k.e
      have s02 := s1.trans s2
      refine iteF ⟨_, rfl, .ref L, .ty "list", _, _, true, rfl, .ty _, .base (.lst eL), kit_ty (show kitB "list" "list" = some true by decide +kernel), _, rfl, iteF ?_⟩
      refine ⟨_, rfl, L, _, rfl, .inl (SqL.of eL), _, rfl, rfl, _, rfl, ?_⟩
      rw [show decide (V.int (((ts.map V.ref).length : Nat) : Int) = leastV (some (nn : Int))) = true from decide_eq_true (by rw [List.length_map, k.lt, ll]; rfl)]
      refine iteF ?_
      have item : ∀ {i : Nat} {y : V}, (ts.map V.ref)[i]? = some y → ∃ (t' d' : Addr) (l : LG.Ld), y = .ref t' ∧ l ∈ LG.ldF c m (roomI s c m) o b kvs nn ∧ H2 t' = some (.tup [.int l.1, .int l.2.1, .ref d']) ∧ H2 d' = some (.dK (sd l.2.2)) := fun {i y} hy => by
        rw [List.getElem?_map, Option.map_eq_some_iff] at hy
        obtain ⟨t', ht, rfl⟩ := hy
        have lt := k.lt
        have ld := k.ld
        have il := (List.getElem?_eq_some_iff.mp ht).1
        have hd := List.getElem?_eq_getElem (l := ds) (i := i) (by omega)
        have hl := List.getElem?_eq_getElem (l := LG.ldF c m (roomI s c m) o b kvs nn) (i := i) (by omega)
        obtain ⟨e1, e2⟩ := k.row i _ _ _ ht hd hl
        exact ⟨t', _, _, rfl, List.mem_of_getElem? hl, e1, e2⟩
      have tl : (ts.map V.ref).length = nn := by rw [List.length_map, k.lt, ll]
      refine ⟨_, rfl, L, rfl, ⟨_, SqL.of k.e⟩, fun F nF => ?_⟩
      refine lc_list (K := K) (a := L) (xs := ts.map V.ref) (fun i H' => Same H2 H' ∧ H' F = some (.lst ((List.replicate i true).map V.bl))) ⟨same_upd nF, upd_same⟩ (fun j H' _ ⟨s, _⟩ => SqL.of (s _ _ k.e)) ?_ ?_
      · rintro i y H3 hy ⟨s3, eF⟩
        have il := (List.getElem?_eq_some_iff.mp hy).1
        obtain ⟨t', d', l, rfl, hm2, e1, e2⟩ := item hy
        obtain ⟨g1, g2, g3, g4, g5, g6⟩ := A.fit l hm2
        have O := A.ok l hm2
        refine ⟨rfl, _, rfl, _, rfl, t, t', d', s, c, m, l.1, l.2.1, l.2.2, rfl, s3 _ _ (s2 _ _ et1), N, s3 _ _ e1, s3 _ _ e2, O.nd, O.len, O.ps, g1, g2, g3, g4, g5, g6, fun H4 s4 => ?_⟩
        refine ⟨_, s4 _ _ eF, small2k (by rw [List.length_map, List.length_replicate]; omega), same_app nF (s3.trans s4), ?_⟩
        rw [upd_same, ← rep_succ, List.map_append]
        rfl
      · rintro H3 ⟨s3, eF⟩
        refine ⟨F, List.replicate _ true, rfl, SqL.of eF, ?_⟩
        rw [rep_all]
        have k3 : LG.LdsAt H3 L ts ds _ := k.mono fun a _ u e => s3 a u e
        refine ⟨_, rfl, iteF ⟨_, rfl, _, rfl, _, rfl, _, rfl, L, R, ts, ds, _, o, b, kvs, rfl, k3, s3 _ _ (s2 _ _ eR), kv, k8, by omega, A.men, A.home, A.ok, A.each, fun H4 s4 => ⟨_, rfl, iteF ?_⟩⟩⟩
        have s14 : Same H1 H4 := s2.trans (s3.trans s4)
        have k4 : LG.LdsAt H4 L ts ds _ := k3.mono fun a _ u e => s4 a u e
        have ef : dkEq (sd kvs) (sd kvs) = true := rkEq_perm kv.nd (List.Perm.refl _)
        refine ⟨_, rfl, _, rfl, d, R, _, _, rfl, rfl, s14 _ _ ed1, s14 _ _ eR, sd_flat kvs, sd_flat kvs, ?_⟩
        rw [ef]
        have out : ∀ {a : Addr} {u : HO}, H1 a = some u → a ≠ L ∧ a ∉ ds := fun {a u} e => by
          refine ⟨fun z => ?_, fun h => ?_⟩
          · have := nw L List.mem_cons_self
            rw [← z, e] at this
            cases this
          · have := nw a (List.mem_cons_of_mem _ (List.mem_append_right _ h))
            rw [e] at this
            cases this
        refine ⟨_, rfl, iteF ⟨_, rfl, _, rfl, _, rfl, _, rfl, _, rfl, x, L, s, c, m, o, b, nn, d, kvs, ts, ds, rfl, W1.mono s14, o0, o1, b0, b1, .dict (s14 _ _ ed1) kv k8, kv, hn, by omega, k4, A, (out ed1).2, fun H5 fr => ?_⟩⟩
        have s15 : Same H1 H5 := fun a u e => fr a u (out e).1 (out e).2 (s14 _ _ e)
        refine ⟨_, rfl, iteT ⟨_, rfl, _, rfl, d, R, _, _, rfl, rfl, s15 _ _ ed1, s15 _ _ eR, sd_flat kvs, sd_flat kvs, ?_⟩⟩
        rw [ef]
        exact q H5 (s1.trans s15)
end
end K34
set_option Elab.async false
set_option linter.all false
set_option maxRecDepth 100000
set_option maxHeartbeats 1600000
set_option pp.maxSteps 300
namespace K34
open PySem PySem.Spec PyProof.Rows L2 LT NdefX
section
variable {P : Program} {w : World} {K : PySem.W.Frag} {mg : Str → Option Value} {base : Heap}
theorem nb34 {C : Addr} {H : Hp} {x dx : Addr} {s c m : Int} {R : VK} {E : XK} (nx : H x = none) (ndx : H dx = none) (nex : dx ≠ x) (N : N3 s c m)
    (h : ∀ H', Same H H' → Bt C H' x s c m → R .non H') :
    spInit C [.ref x, .int s, .int c, .int m] (upd (upd H dx (.own x)) x (.ins C dx [])) R E := by
  refine ⟨x, dx, s, c, m, rfl, upd_same, N.s1, N.c1, N.m1, ?_⟩
  rw [upd_upd]
  exact h _ (same_made (C := C) nx ndx) ⟨⟨dx, upd_same⟩, N.s1, N.c1, N.m1, N.s2, N.c2, N.m2⟩
def spLaw (K : PySem.W.Frag) : Sp := fun vs H Q _ => ∃ (a : Addr) (ns : List Int), vs = [.ref a] ∧ SqL K H a (ns.map V.int) ∧ ns.length ≤ 63 ∧ ∀ H', Q (.bl true) H'
theorem sc_law : FnScope ["_law_script", "_law_k", "_law_pot_here", "_law_numbers", "_law_ship", "_law_away", "_law_home", "_law_cargo", "_law_first"] ["_law_script"] (defScope s_law) := ⟨rfl, rfl, rfl, by decide +kernel, rfl, by decide +kernel, by decide +kernel⟩
theorem ok_law (D : All K P mg) {f : Addr} {fd : FuncData} (F : Fun K "law" "law" s_law f fd) : FnG P w K mg base CX0 10 f fd ["_law_script"] (spLaw K) := by
  refine okG F sc_law (fun h => ?_) (fun cdv A outer s H vs Q E hG hr h => ?_)
  · first | (obtain ⟨_, rfl, _⟩ := h; rfl) | (obtain ⟨_, _, rfl, _⟩ := h; rfl) | (obtain ⟨_, _, _, rfl, _⟩ := h; rfl) | (obtain ⟨_, _, _, _, rfl, _⟩ := h; rfl) | (obtain ⟨_, _, _, _, _, rfl, _⟩ := h; rfl) | (obtain ⟨_, _, _, _, _, _, rfl, _⟩ := h; rfl) | (obtain ⟨_, _, _, _, _, _, _, rfl, _⟩ := h; rfl) | (obtain ⟨_, _, _, _, _, _, _, _, rfl, _⟩ := h; rfl) | (obtain ⟨_, _, _, _, _, _, _, _, _, rfl, _⟩ := h; rfl) | (obtain ⟨_, _, _, _, _, _, _, _, _, _, rfl, _⟩ := h; rfl) | (obtain ⟨_, _, _, _, _, _, _, _, _, _, _, rfl, _⟩ := h; rfl) | (obtain ⟨_, _, _, _, _, _, _, _, _, _, _, _, rfl, _⟩ := h; rfl) | (obtain ⟨_, _, _, _, _, _, _, _, _, _, _, _, _, rfl, _⟩ := h; rfl) | (obtain ⟨_, _, _, _, _, _, _, _, _, _, _, _, _, _, rfl, _⟩ := h; rfl) | (obtain ⟨_, _, _, _, _, _, _, _, _, _, _, _, _, _, _, rfl, _⟩ := h; rfl)
  · have T := D.T
    have nd := sc_law.nd
    have hu := hr.units
    have hu1 := hu_of hr
    have hu0 := hr.units0
    have hG2 : (cxOf CX0 P w K mg base ["_law_script", "_law_k", "_law_pot_here", "_law_numbers", "_law_ship", "_law_away", "_law_home", "_law_cargo", "_law_first"] "law" (defScope s_law) f cdv A outer s H E).nox.A.guards = some [] := hG
    obtain ⟨sc, ss, rfl, hS, hl, q⟩ := h
    obtain ⟨_, v2_loads, b2_loads⟩ := D.q_loads.binds1 (ps := ["boat", "out", "back", "stores"]) 2 0 (by simp) (by rfl) (fun _ _ _ _ _ _ _ us its h1 h2 => match us, its, h1, h2 with | [_, _], [_, _], _, _ => ⟨_, rfl, rfl⟩)
    obtain ⟨_, v3_loads, b3_loads⟩ := D.q_loads.binds1 (ps := ["boat", "out", "back", "stores"]) 3 1 (by simp) (by rfl) (fun _ _ _ _ _ _ _ us its h1 h2 => match us, its, h1, h2 with | [_, _, _], [_, _], _, _ => ⟨_, rfl, rfl⟩)
    refine ⟨_, pss_cons (ps_for PassesOwn.never rfl (pi_range1 (by rfl) T.range (pa_cons (pe_callB (call_max2 rfl) (by rfl) T.max (by decide +kernel) (pa_cons pe_int (pa_cons (pe_callB (call_min2 rfl) (by rfl) T.min (by decide +kernel) (pa_cons (pe_callB call_len_seq (by rfl) T.len PySem.boot_len (pa_cons (pv 0) pa_nil)) (pa_cons pe_int pa_nil))) pa_nil))) pa_nil)) (pg_name (i := 1) nd rfl (Or.inl rfl)) (pss_cons (ps_set (i := 2) nd rfl (.inl rfl) (pe_call (ok__law_pot D) (hr.mono (by decide)) (by rfl) D.h__law_pot.gl D.h__law_pot.fn.kp D.h__law_pot.bd .nil pass0 (pa_cons (pv 0) (pa_cons (pv 1) pa_nil))))
      (pss_cons (ps_set (i := 3) nd rfl (.inl rfl) (pe_call (ok__law_boat D) (hr.mono (by decide)) (by rfl) D.h__law_boat.gl D.h__law_boat.fn.kp D.h__law_boat.bd .nil pass0 (pa_cons (pv 2) pa_nil)))
      (pss_cons (ps_set (i := 4) nd rfl (.inl rfl) (pe_make D.M_Boat (ok_Boat___init__ D) (hr.mono (by decide)) (by rfl) D.Z_Boat.gl D.h_Boat___init__.bd .nil pass0 (pa_cons (pe_ix ix_tup (pv 3) pe_int (fun _ _ => rfl)) (pa_cons (pe_ix ix_tup (pv 3) pe_int (fun _ _ => rfl)) (pa_cons (pe_ix ix_tup (pv 3) pe_int (fun _ _ => rfl)) pa_nil)))))
      (pss_cons (ps_par (i := 5) (j := 6) (by rfl) nd rfl rfl (by decide) rfl rfl (pa_cons (pe_call (ok__law_men D) (hr.mono (by decide)) (by rfl) D.h__law_men.gl D.h__law_men.fn.kp D.h__law_men.bd .nil pass0 (pa_cons (pv 2) (pa_cons (pe_call (ok__law_room D) (hr.mono (by decide)) (by rfl) D.h__law_room.gl D.h__law_room.fn.kp D.h__law_room.bd .nil pass0 (pa_cons (pv 3) pa_nil)) pa_nil))) (pa_cons (pe_call (ok__law_men D) (hr.mono (by decide)) (by rfl) D.h__law_men.gl D.h__law_men.fn.kp D.h__law_men.bd .nil pass0 (pa_cons (pv 2) (pa_cons (pe_call (ok__law_room D) (hr.mono (by decide)) (by rfl) D.h__law_room.gl D.h__law_room.fn.kp D.h__law_room.bd .nil pass0 (pa_cons (pv 3) pa_nil)) pa_nil))) pa_nil)) (by rfl))
      (pss_cons (ps_set (i := 7) nd rfl (.inl rfl) (pe_call (ok__law_stores D) (hr.mono (by decide)) (by rfl) D.h__law_stores.gl D.h__law_stores.fn.kp D.h__law_stores.bd .nil pass0 (pa_cons (pv 2) pa_nil)))
      (pss_cons (ps_expr (pe_call (ok__law_heavy D) (hr.mono (by decide)) (by rfl) D.h__law_heavy.gl D.h__law_heavy.fn.kp D.h__law_heavy.bd .nil pass0 (pa_cons (pv 2) (pa_cons (pv 7) (pa_cons (pe_op op_sub (pe_op op_mulW pe_int (pe_ix ix_tup (pv 3) pe_int (fun _ _ => rfl))) (pe_op op_mulW (pv 5) (pe_ix ix_tup (pv 3) pe_int (fun _ _ => rfl)))) pa_nil)))))
      (pss_cons (ps_set (i := 8) nd rfl (.inl rfl) (pe_callTy call_dictD (by rfl) T.dict (by decide +kernel) (pa_cons (pv 7) pa_nil)))
      (pss_cons (ps_if (pt_not (pt_val (pe_callG (ok__law_looked D) hG2 (hr.mono (by decide)) (by rfl) D.h__law_looked.gl D.h__law_looked.fn.kp D.h__law_looked.bd .nil pass0 (pa_cons (pv 3) (pa_cons (pv 4) (pa_cons (pv 5) (pa_cons (pv 6) (pa_cons (pv 7) pa_nil)))))))) (pss_one (ps_ret pe_bl)) pss_nil)
      (pss_one (ps_if (pt_cmpR (op_neE hu0) (pv 7) pe_dnewK (nomark _)) (pss_cons (ps_expr (pe_call (ok__law_turned D) (hr.mono (by decide)) (by rfl) D.h__law_turned.gl D.h__law_turned.fn.kp D.h__law_turned.bd .nil pass0 (pa_cons (pv 2) (pa_cons (pv 7) pa_nil))))
      (pss_one (ps_if (PW.pt (pw_or (pt_not (pt_val (pe_callG (ok__law_looked D) hG2 (hr.mono (by decide)) (by rfl) D.h__law_looked.gl D.h__law_looked.fn.kp D.h__law_looked.bd .nil pass0 (pa_cons (pv 3) (pa_cons (pv 4) (pa_cons (pv 5) (pa_cons (pv 6) (pa_cons (pv 7) pa_nil)))))))) (pw_or1 (pt_not (pt_val (pe_callG (ok__law_looked D) hG2 (hr.mono (by decide)) (by rfl) D.h__law_looked.gl D.h__law_looked.fn.kp D.h__law_looked.bd .nil pass0 (pa_cons (pv 3) (pa_cons (pv 4) (pa_cons (pv 5) (pa_cons (pv 6) (pa_cons (pv 8) pa_nil))))))))))) (pss_one (ps_ret pe_bl)) pss_nil))) pss_nil)))))))))))
      (pss_one (ps_ret (pe_and (pe_cmpR (LG.op_eqLd (hr.mono (by decide))) (pe_call (ok_loads D) (hr.mono (by decide)) (by rfl) D.gl_loads D.kp_loads b2_loads v2_loads passL (pa_cons (pe_make D.M_Boat (ok_Boat___init__ D) (hr.mono (by decide)) (by rfl) D.Z_Boat.gl D.h_Boat___init__.bd .nil pass0 (pa_cons pe_int (pa_cons pe_int (pa_cons pe_int pa_nil)))) (pa_cons pe_int pa_nil))) (pe_lst pa_nil) (nomark _)) (pe_one (pe_cmpR (LG.op_eqLd (hr.mono (by decide))) (pe_call (ok_loads D) (hr.mono (by decide)) (by rfl) D.gl_loads D.kp_loads b3_loads v3_loads passL (pa_cons (pe_make D.M_Boat (ok_Boat___init__ D) (hr.mono (by decide)) (by rfl) D.Z_Boat.gl D.h_Boat___init__.bd .nil pass0 (pa_cons pe_int (pa_cons pe_int (pa_cons pe_int pa_nil)))) (pa_cons pe_int (pa_cons pe_int pa_nil)))) (pe_lst (pa_cons (pe_tup (pa_cons pe_int (pa_cons pe_int (pa_cons pe_dnewK pa_nil)))) pa_nil)) (nomark _)))))), ?_⟩
    refine ⟨_, rfl, sc, _, rfl, .inl hS, _, _, rfl, _, _, rfl, ?_⟩
    generalize hN : (if (if (8 : Int) < (((ss.map V.int).length : Nat) : Int) then (8 : Int) else (((ss.map V.int).length : Nat) : Int)) > 1 then (if (8 : Int) < (((ss.map V.int).length : Nat) : Int) then (8 : Int) else (((ss.map V.int).length : Nat) : Int)) else 1) = N
    have hN8 : 1 ≤ N ∧ N ≤ 8 := by
      rw [← hN]
      split <;> (try split) <;> omega
    refine ⟨N, rfl, by omega, by omega, for_range (lo := 0) (n := N.toNat) (fun i σ H' => (∃ x1 x2 x3 x4 x5 x6 x7 x8, σ = [some (.ref sc), x1, x2, x3, x4, x5, x6, x7, x8]) ∧ Same H H')
      ⟨⟨none, none, none, none, none, none, none, none, rfl⟩, Same.refl _⟩ ?_ ?_⟩
    · rintro i σ H0 hi ⟨⟨x1, x2, x3, x4, x5, x6, x7, x8, rfl⟩, sm0⟩
      refine ⟨_, rfl, _, rfl, sc, ss, i, (by rw [Int.zero_add]; rfl), sm0.seq hS, by omega, fun p H1 np s1 hp1 => ?_⟩
      refine ⟨_, rfl, p, rfl, hp1, fun t s c m H2 N3' et2 hp2 s2 => ?_⟩
      have r2 : atI [V.int s, .int c, .int m] 0 = some (.int s) ∧ atI [V.int s, .int c, .int m] 1 = some (.int c) ∧ atI [V.int s, .int c, .int m] 2 = some (.int m) := ⟨atI_nat (j := 0) rfl, atI_nat (j := 1) rfl, atI_nat (j := 2) rfl⟩
      refine ⟨_, rfl, t, _, 0, _, rfl, rfl, SqT.of et2, r2.1, _, rfl, t, _, 1, _, rfl, rfl, SqT.of et2, r2.2.1, _, rfl, t, _, 2, _, rfl, rfl, SqT.of et2, r2.2.2, fun x dx nx ndx nex => nb34 nx ndx nex N3' fun H4 s4 B4 => ⟨rfl, ?_⟩⟩
      have et4 := s4 _ _ et2
      have hp4 := hp2.mono s4
      have npH : H p = none := sm0.free np
      have sm2 : Same H H2 := fun a u e => s2 _ _ (fun z => by rw [z, npH] at e; cases e) (s1 _ _ (sm0 _ _ e))
      obtain ⟨rr0, rr1⟩ := room_bd N3'.s1 N3'.c1 N3'.m1
      have := N3'.s2
      have := N3'.c1
      have := N3'.c2
      have := N3'.m1
      have := N3'.m2
      have nxp : x ≠ p := hp2.ne nx
      have ntp : t ≠ p := ne_of_pot hp2 et2
      refine ⟨_, rfl, _, rfl, t, s, c, m, rfl, et4, N3', p, roomI s c m, rfl, hp4, rr0, by omega, fun o H5 o0 o1 hp5 sb5 => ?_⟩
      have et5 := sb5 _ _ ntp et4
      refine ⟨_, rfl, _, rfl, t, s, c, m, rfl, et5, N3', p, roomI s c m, rfl, hp5, rr0, by omega, fun b H6 b0 b1 hp6 sb6 => ?_⟩
      have et6 := sb6 _ _ ntp et5
      refine ⟨_, _, rfl, ?_⟩
      refine ⟨_, rfl, p, rfl, hp6, fun d kvs H7 nd7 hd7 hk hl7 hw7 hp7 sb7 => ?_⟩
      have et7 := sb7 _ _ ntp et6
      have sm7 : ∀ a u, a ≠ p → H4 a = some u → H7 a = some u := fun a u h e => sb7 _ _ h (sb6 _ _ h (sb5 _ _ h e))
      have oldp : ∀ {a : Addr} {u : HO}, H a = some u → a ≠ p := fun e z => by rw [z, npH] at e; cases e
      have smH7 : Same H H7 := fun a u e => sm7 _ _ (oldp e) (s4 _ _ (sm2 _ _ e))
      have ndH : H d = none := by
        cases e : H d with
        | none => rfl
        | some u =>
          have := sb6 _ _ (oldp e) (sb5 _ _ (oldp e) (s4 _ _ (sm2 _ _ e)))
          rw [nd7] at this
          cases this
      have cm1 : CMulW 300 c := wide_mul (a := 10) (b := 150) (by decide) (Nat.lt_of_le_of_lt (show c.natAbs ≤ 10 ^ 40 by omega) (by decide)) (by decide) (by decide) (by decide)
      have cm2 : CMulW o m := wide_mul (a := 210) (b := 150) (Nat.lt_of_le_of_lt (show o.natAbs ≤ 10 ^ 60 by omega) (by decide)) (Nat.lt_of_le_of_lt (show m.natAbs ≤ 10 ^ 40 by omega) (by decide)) (by decide) (by decide) (by decide)
      have om0 : 0 ≤ o * m := Int.mul_nonneg o0 (by omega)
      refine ⟨_, rfl, _, rfl, _, rfl, t, _, 1, _, rfl, rfl, SqT.of et7, r2.2.1, _, _, rfl, rfl, cm1, _, rfl, _, rfl, t, _, 2, _, rfl, rfl, SqT.of et7, r2.2.2, _, _, rfl, rfl, cm2, _, _, rfl, rfl, p, d, kvs, _, rfl, hp7, hd7, hk, hl7, (fun q hq => by have := hw7 q hq; omega), by omega, fun kvs8 H8 hk8 hl8 hw8 hp8 hd8 sp8 => ?_⟩
      have oldd : ∀ {a : Addr} {u : HO}, H a = some u → a ≠ d := fun e z => by rw [z, ndH] at e; cases e
      have sm8 : Same H H8 := fun a u e => sp8 _ _ (oldp e) (oldd e) (smH7 _ _ e)
      have eb4 := B4.at_
      obtain ⟨dx, hx4⟩ := id eb4
      have hx7 := sm7 _ _ nxp hx4
      have nxd : x ≠ d := fun z => by rw [z, hd7] at hx7; cases hx7
      have ntd : t ≠ d := fun z => by rw [z, hd7] at et7; cases et7
      have et8 := sp8 _ _ ntp ntd et7
      have B8 : Bt D.C_Boat H8 x s c m := ⟨⟨dx, sp8 _ _ nxp nxd hx7⟩, B4.s1, B4.c1, B4.m1, B4.s2, B4.c2, B4.m2⟩
      refine ⟨_, rfl, d, _, rfl, .inl hd8, fun R nR => ?_⟩
      have s9 := same_upd (o := .dK (sd kvs8)) nR
      have eR := upd_same (H := H8) (a := R) (o := .dK (sd kvs8))
      have nRp : R ≠ p := hp8.ne nR
      have nRd : R ≠ d := fun z => by rw [z, hd8] at nR; cases nR
      have hp9 := hp8.mono s9
      generalize L2.upd H8 R (.dK (sd kvs8)) = H9 at *
      refine ⟨_, rfl, _, rfl, _, rfl, _, rfl, _, rfl, t, x, s, c, m, o, b, d, kvs8, rfl, s9 _ _ et8, N3', B8.mono s9, o0, o1, b0, b1, s9 _ _ hd8, hk8, hl8, fun H10 s10 => ⟨_, rfl, iteF ?_⟩⟩
      have s90 := s9.trans s10
      refine ⟨_, rfl, fun E0 nE => ?_⟩
      have s11 := same_upd (o := .dK []) nE
      have hp11 := (hp9.mono s10).upd (o := .dK []) ((hp9.mono s10).ne nE)
      have e11 := upd_same (H := H10) (a := E0) (o := .dK [])
      generalize L2.upd H10 E0 (.dK []) = H11 at *
      have s81 := s90.trans s11
      have sm11 : Same H H11 := sm8.trans s81
      refine ⟨d, E0, _, rfl, rfl, s81 _ _ hd8, e11, _, rfl, ?_⟩
      by_cases hk0 : kvs8 = []
      · subst hk0
        exact iteF ⟨⟨_, _, _, _, _, _, _, _, rfl⟩, sm11⟩
      have ee : (!(sd kvs8).isEmpty) = true := by
        cases kvs8 with
        | nil => exact absurd rfl hk0
        | cons _ _ => rfl
      rw [ee]
      have hR11 := s11 _ _ (s10 _ _ eR)
      refine iteT ⟨_, rfl, _, rfl, p, d, kvs8, rfl, hp11, s81 _ _ hd8, hk8, hl8, hk0, hw8, fun kvs12 H12 hk12 hl12 hp12 hd12 sp12 => ?_⟩
      have et12 := sp12 _ _ ntp ntd (s81 _ _ et8)
      have hR12 := sp12 _ _ nRp nRd hR11
      have hx8 := sp8 _ _ nxp nxd hx7
      have B12 : Bt D.C_Boat H12 x s c m := ⟨⟨dx, sp12 _ _ nxp nxd (s81 _ _ hx8)⟩, B4.s1, B4.c1, B4.m1, B4.s2, B4.c2, B4.m2⟩
      have sm12 : Same H H12 := fun a u e => sp12 _ _ (oldp e) (oldd e) (sm11 _ _ e)
      refine ⟨_, rfl, _, rfl, _, rfl, _, rfl, _, rfl, t, x, s, c, m, o, b, d, kvs12, rfl, et12, N3', B12, o0, o1, b0, b1, hd12, hk12, hl12, fun H13 s13 => ⟨_, rfl, iteF ?_⟩⟩
      refine ⟨_, rfl, _, rfl, _, rfl, _, rfl, _, rfl, t, x, s, c, m, o, b, R, kvs8, rfl, s13 _ _ et12, N3', B12.mono s13, o0, o1, b0, b1, s13 _ _ hR12, hk8, hl8, fun H14 s14 => ⟨_, rfl, iteF ?_⟩⟩
      exact ⟨⟨_, _, _, _, _, _, _, _, rfl⟩, sm12.trans (s13.trans s14)⟩
    · rintro σ H0 ⟨⟨x1, x2, x3, x4, x5, x6, x7, x8, rfl⟩, sm0⟩
      have N34 : N3 3 10 4 := ⟨by decide, by decide, by decide, by decide, by decide, by decide⟩
      refine fun x dx nx ndx nex => nb34 nx ndx nex N34 fun H2 s2 B2 => ⟨rfl, ?_⟩
      have f0 : fewI 3 10 4 0 0 (wsum []) = some 0 := by decide
      refine ⟨x, 3, 10, 4, 0, 0, [], .non, rfl, B2, by decide, by decide, by decide, by decide, .non, (fun e => by rw [f0] at e; cases e), (fun n e h => by rw [f0] at e; have := Option.some.inj e; omega), fun n e _ L ts ds H3 k nw s3 => ?_⟩
      have en : n = 0 := (Option.some.inj (f0.symm.trans e)).symm
      subst en
      refine ⟨by show 0 ≤ sizeLine; decide, fun l nl => ⟨⟨L, l, [], [], rfl, rfl, ?_, upd_same, Prs.nil⟩, fun H4 x4 => ?_⟩⟩
      · have lt := k.lt
        have : ts = [] := List.eq_nil_of_length_eq_zero lt
        rw [same_upd nl _ _ k.e, this]
        rfl
      refine ⟨_, rfl, iteT ?_⟩
      refine fun x' dx' nx' ndx' nex' => nb34 nx' ndx' nex' N34 fun H5 s5 B5 => ⟨rfl, ?_⟩
      have f1 : fewI 3 10 4 2 1 (wsum []) = some 1 := by decide
      refine ⟨x', 3, 10, 4, 2, 1, [], .non, rfl, B5, by decide, by decide, by decide, by decide, .non, (fun e => by rw [f1] at e; cases e), (fun n e h => by rw [f1] at e; have := Option.some.inj e; omega), fun n e _ L ts ds H6 k nw s6 => ?_⟩
      have en : n = 1 := (Option.some.inj (f1.symm.trans e)).symm
      subst en
      rw [show LG.ldF 10 4 (roomI 3 10 4) 2 1 [] (Int.toNat 1) = [(2, 1, [])] by decide +kernel] at k
      obtain ⟨tt, rfl⟩ : ∃ tt, ts = [tt] := List.length_eq_one_iff.mp k.lt
      obtain ⟨dd, rfl⟩ : ∃ dd, ds = [dd] := List.length_eq_one_iff.mp k.ld
      obtain ⟨e1, e2⟩ := k.row 0 tt dd (2, 1, []) rfl rfl rfl
      refine fun e0 ne0 => ⟨by show 3 ≤ sizeLine; decide, fun tp ntp => ⟨by show 1 ≤ sizeLine; decide, fun l nl => ⟨⟨L, l, [V.ref tt], [V.ref tp], rfl, rfl, ?_, upd_same, ?_⟩, fun H7 x7 => q H7⟩⟩⟩
      · exact same_upd nl _ _ (same_upd ntp _ _ (same_upd ne0 _ _ k.e))
      · refine Prs.cons ⟨tt, tp, [.int 2, .int 1, .ref dd], [.int 2, .int 1, .ref e0], rfl, rfl, SqT.of (same_upd nl _ _ (same_upd ntp _ _ (same_upd ne0 _ _ e1))), SqT.of (same_upd nl _ _ upd_same), Prs.cons (.inl ⟨rfl, rfl, rfl⟩) (Prs.cons (.inl ⟨rfl, rfl, rfl⟩) (Prs.cons (.inr ⟨dd, e0, rfl, rfl, ?_, ?_⟩) Prs.nil))⟩ Prs.nil
        · exact same_upd nl _ _ (same_upd ntp _ _ (same_upd ne0 _ _ e2))
        · exact same_upd nl _ _ (same_upd ntp _ _ upd_same)
end
end K34
set_option Elab.async false
set_option linter.all false
set_option maxRecDepth 100000
set_option maxHeartbeats 3200000
namespace K34
open PySem PySem.Spec PyProof.Rows L2 LT NdefX
structure LeftC (K : PySem.W.Frag) (C_LightsError C_Wrong C_Barred C_NoWeather C_TooMany C_Small C_Early C_Clash C_Boat : Addr) : Prop where
  n_LightsError : PySem.W.nsIn K mainGlobals "LightsError" = some (some (.ref C_LightsError))
  n_Wrong : PySem.W.nsIn K mainGlobals "Wrong" = some (some (.ref C_Wrong))
  n_Barred : PySem.W.nsIn K mainGlobals "Barred" = some (some (.ref C_Barred))
  n_NoWeather : PySem.W.nsIn K mainGlobals "NoWeather" = some (some (.ref C_NoWeather))
  n_TooMany : PySem.W.nsIn K mainGlobals "TooMany" = some (some (.ref C_TooMany))
  n_Small : PySem.W.nsIn K mainGlobals "Small" = some (some (.ref C_Small))
  n_Early : PySem.W.nsIn K mainGlobals "Early" = some (some (.ref C_Early))
  n_Clash : PySem.W.nsIn K mainGlobals "Clash" = some (some (.ref C_Clash))
  n_Boat : PySem.W.nsIn K mainGlobals "Boat" = some (some (.ref C_Boat))
  i_LightsError : PySem.W.isClsIn K C_LightsError = true
  ty_LightsError : PySem.W.typeIn K (.ref C_LightsError) = some (.type "type")
  i_Wrong : PySem.W.isClsIn K C_Wrong = true
  ty_Wrong : PySem.W.typeIn K (.ref C_Wrong) = some (.type "type")
  i_Barred : PySem.W.isClsIn K C_Barred = true
  ty_Barred : PySem.W.typeIn K (.ref C_Barred) = some (.type "type")
  i_NoWeather : PySem.W.isClsIn K C_NoWeather = true
  ty_NoWeather : PySem.W.typeIn K (.ref C_NoWeather) = some (.type "type")
  i_TooMany : PySem.W.isClsIn K C_TooMany = true
  ty_TooMany : PySem.W.typeIn K (.ref C_TooMany) = some (.type "type")
  i_Small : PySem.W.isClsIn K C_Small = true
  ty_Small : PySem.W.typeIn K (.ref C_Small) = some (.type "type")
  i_Early : PySem.W.isClsIn K C_Early = true
  ty_Early : PySem.W.typeIn K (.ref C_Early) = some (.type "type")
  i_Clash : PySem.W.isClsIn K C_Clash = true
  ty_Clash : PySem.W.typeIn K (.ref C_Clash) = some (.type "type")
  sb_LightsError : PySem.W.subIn K (.ref C_LightsError) (.type "BaseException") = some true
  cn : PySem.W.specialIn K (.builtin "object.__class__") "__get__" = some (some (.builtin "getset_descriptor.__get__"))
  ct : PySem.W.takesIn K (.builtin "object.__class__") = some true
  x_Small : PySem.W.excIn K C_Small [.type "ValueError", .type "Exception", .type "BaseException", .type "object"] "ValueError.__new__" = true
  k_Small : PySem.W.keepIn K (.ref C_Small) = true
  b_Small : PySem.W.subIn K (.ref C_Small) (.type "BaseException") = some true
  eg_Small : PySem.W.findIn K (.ref C_Small) "__getattribute__" = some (some (.builtin "BaseException.__getattribute__"))
  ek_Small : PySem.W.findIn K (.ref C_Small) "__getattr__" = some none
  ed_Small : PySem.W.hasDictIn K C_Small = true
  ea_Small : PySem.W.findIn K (.ref C_Small) "__class__" = some (some (.builtin "object.__class__"))
  em_Small : PySem.W.mroIn K C_Small (.type "object") = some true
  sv_Small : PySem.W.subIn K (.ref C_Small) (.type "ValueError") = some true
  x_TooMany : PySem.W.excIn K C_TooMany [.type "ValueError", .type "Exception", .type "BaseException", .type "object"] "ValueError.__new__" = true
  k_TooMany : PySem.W.keepIn K (.ref C_TooMany) = true
  b_TooMany : PySem.W.subIn K (.ref C_TooMany) (.type "BaseException") = some true
  eg_TooMany : PySem.W.findIn K (.ref C_TooMany) "__getattribute__" = some (some (.builtin "BaseException.__getattribute__"))
  ek_TooMany : PySem.W.findIn K (.ref C_TooMany) "__getattr__" = some none
  ed_TooMany : PySem.W.hasDictIn K C_TooMany = true
  ea_TooMany : PySem.W.findIn K (.ref C_TooMany) "__class__" = some (some (.builtin "object.__class__"))
  em_TooMany : PySem.W.mroIn K C_TooMany (.type "object") = some true
  sv_TooMany : PySem.W.subIn K (.ref C_TooMany) (.type "ValueError") = some true
  s_Small_Wrong : PySem.W.subIn K (.ref C_Small) (.ref C_Wrong) = some false
  q_Small_Wrong : ((Value.ref C_Small) == (Value.ref C_Wrong)) = false
  s_Small_Clash : PySem.W.subIn K (.ref C_Small) (.ref C_Clash) = some false
  q_Small_Clash : ((Value.ref C_Small) == (Value.ref C_Clash)) = false
  s_Small_Early : PySem.W.subIn K (.ref C_Small) (.ref C_Early) = some false
  q_Small_Early : ((Value.ref C_Small) == (Value.ref C_Early)) = false
  s_Small_NoWeather : PySem.W.subIn K (.ref C_Small) (.ref C_NoWeather) = some false
  q_Small_NoWeather : ((Value.ref C_Small) == (Value.ref C_NoWeather)) = false
  s_Small_TooMany : PySem.W.subIn K (.ref C_Small) (.ref C_TooMany) = some false
  q_Small_TooMany : ((Value.ref C_Small) == (Value.ref C_TooMany)) = false
  s_Small_Barred : PySem.W.subIn K (.ref C_Small) (.ref C_Barred) = some true
  s_TooMany_Wrong : PySem.W.subIn K (.ref C_TooMany) (.ref C_Wrong) = some false
  q_TooMany_Wrong : ((Value.ref C_TooMany) == (Value.ref C_Wrong)) = false
  s_TooMany_Clash : PySem.W.subIn K (.ref C_TooMany) (.ref C_Clash) = some false
  q_TooMany_Clash : ((Value.ref C_TooMany) == (Value.ref C_Clash)) = false
  s_TooMany_Early : PySem.W.subIn K (.ref C_TooMany) (.ref C_Early) = some false
  q_TooMany_Early : ((Value.ref C_TooMany) == (Value.ref C_Early)) = false
  s_TooMany_NoWeather : PySem.W.subIn K (.ref C_TooMany) (.ref C_NoWeather) = some false
  q_TooMany_NoWeather : ((Value.ref C_TooMany) == (Value.ref C_NoWeather)) = false
  s_TooMany_Small : PySem.W.subIn K (.ref C_TooMany) (.ref C_Small) = some false
  q_TooMany_Small : ((Value.ref C_TooMany) == (Value.ref C_Small)) = false
  s_TooMany_Barred : PySem.W.subIn K (.ref C_TooMany) (.ref C_Barred) = some true
  s_Small_LightsError : PySem.W.subIn K (.ref C_Small) (.ref C_LightsError) = some true
  s_TooMany_LightsError : PySem.W.subIn K (.ref C_TooMany) (.ref C_LightsError) = some true
  pg_Boat : PySem.W.plainGet K C_Boat Str.empty = true
  hd_Boat : PySem.W.hasDictIn K C_Boat = true
  po_Boat : PySem.W.plainOver K C_Boat = true
  sa_Boat : PySem.W.findIn K (.ref C_Boat) "__setattr__" = some (some (.builtin "object.__setattr__"))
  kC_Boat : PySem.W.keepIn K (.ref C_Boat) = true
  mk_Boat : PySem.W.makesIn K C_Boat = true
  f_Boat_many_seats : PySem.W.findIn K (.ref C_Boat) "many_seats" = some none
  f_Boat_most_weight : PySem.W.findIn K (.ref C_Boat) "most_weight" = some none
  f_Boat_man_weight : PySem.W.findIn K (.ref C_Boat) "man_weight" = some none
theorem all_mk {l : PySem.W.OpenLaw} {w : World} {K : PySem.W.Frag} {h : Heap} {mg : Str → Option Value} {fa : Addr} (X : K.In h) (G : h.Ns mainGlobals mg) (hfa : mg "law" = some (.ref fa))
    {C_LightsError C_Wrong C_Barred C_NoWeather C_TooMany C_Small C_Early C_Clash C_Boat : Addr} (D : LeftC K C_LightsError C_Wrong C_Barred C_NoWeather C_TooMany C_Small C_Early C_Clash C_Boat)
    {fBoat___init__ : Addr} {ocBoat___init__ : Value} {odBoat___init__ anBoat___init__ : Option Addr} {kVBoat___init__ dcBoat___init__ pmBoat___init__ cdBoat___init__ ctBoat___init__ : Value} {slBoat___init__ : Array (Option Value)} (F_Boat___init__ : LeftM K C_Boat "__init__" "Boat.__init__" s_Boat___init__ fBoat___init__ ocBoat___init__ odBoat___init__ anBoat___init__ kVBoat___init__ dcBoat___init__ pmBoat___init__ cdBoat___init__ ctBoat___init__ slBoat___init__)
    {fBoat_seats : Addr} {ocBoat_seats : Value} {odBoat_seats anBoat_seats : Option Addr} {kVBoat_seats dcBoat_seats pmBoat_seats cdBoat_seats ctBoat_seats : Value} {slBoat_seats : Array (Option Value)} (F_Boat_seats : LeftM K C_Boat "seats" "Boat.seats" s_Boat_seats fBoat_seats ocBoat_seats odBoat_seats anBoat_seats kVBoat_seats dcBoat_seats pmBoat_seats cdBoat_seats ctBoat_seats slBoat_seats)
    {fBoat_carries : Addr} {ocBoat_carries : Value} {odBoat_carries anBoat_carries : Option Addr} {kVBoat_carries dcBoat_carries pmBoat_carries cdBoat_carries ctBoat_carries : Value} {slBoat_carries : Array (Option Value)} (F_Boat_carries : LeftM K C_Boat "carries" "Boat.carries" s_Boat_carries fBoat_carries ocBoat_carries odBoat_carries anBoat_carries kVBoat_carries dcBoat_carries pmBoat_carries cdBoat_carries ctBoat_carries slBoat_carries)
    {fBoat_man : Addr} {ocBoat_man : Value} {odBoat_man anBoat_man : Option Addr} {kVBoat_man dcBoat_man pmBoat_man cdBoat_man ctBoat_man : Value} {slBoat_man : Array (Option Value)} (F_Boat_man : LeftM K C_Boat "man" "Boat.man" s_Boat_man fBoat_man ocBoat_man odBoat_man anBoat_man kVBoat_man dcBoat_man pmBoat_man cdBoat_man ctBoat_man slBoat_man)
    {ffewest Tfewest : Addr} {ocfewest : Value} {odfewest anfewest : Option Addr} {kVfewest dcfewest pmfewest cdfewest ctfewest : Value} {slfewest : Array (Option Value)} {oTfewest : Value} {dTfewest : Option Addr} {nTfewest : Nat} {sTfewest : Array (Option Value)} {t0fewest : Tok} (F_fewest : LeftD K "fewest" s_fewest #[.int 0 t0fewest, .none] ffewest Tfewest ocfewest odfewest anfewest kVfewest dcfewest pmfewest cdfewest ctfewest slfewest oTfewest dTfewest nTfewest sTfewest)
    {floads Tloads : Addr} {ocloads : Value} {odloads anloads : Option Addr} {kVloads dcloads pmloads cdloads ctloads : Value} {slloads : Array (Option Value)} {oTloads : Value} {dTloads : Option Addr} {nTloads : Nat} {sTloads : Array (Option Value)} {t0loads : Tok} (F_loads : LeftD K "loads" s_loads #[.int 0 t0loads, .none] floads Tloads ocloads odloads anloads kVloads dcloads pmloads cdloads ctloads slloads oTloads dTloads nTloads sTloads)
    {fis_name : Addr} {ocis_name : Value} {odis_name anis_name : Option Addr} {kVis_name dcis_name pmis_name cdis_name ctis_name : Value} {slis_name : Array (Option Value)} (F_is_name : Left K "is_name" s_is_name fis_name ocis_name odis_name anis_name kVis_name dcis_name pmis_name cdis_name ctis_name slis_name)
    {fis_whole : Addr} {ocis_whole : Value} {odis_whole anis_whole : Option Addr} {kVis_whole dcis_whole pmis_whole cdis_whole ctis_whole : Value} {slis_whole : Array (Option Value)} (F_is_whole : Left K "is_whole" s_is_whole fis_whole ocis_whole odis_whole anis_whole kVis_whole dcis_whole pmis_whole cdis_whole ctis_whole slis_whole)
    {fis_from : Addr} {ocis_from : Value} {odis_from anis_from : Option Addr} {kVis_from dcis_from pmis_from cdis_from ctis_from : Value} {slis_from : Array (Option Value)} (F_is_from : Left K "is_from" s_is_from fis_from ocis_from odis_from anis_from kVis_from dcis_from pmis_from cdis_from ctis_from slis_from)
    {fparts_for : Addr} {ocparts_for : Value} {odparts_for anparts_for : Option Addr} {kVparts_for dcparts_for pmparts_for cdparts_for ctparts_for : Value} {slparts_for : Array (Option Value)} (F_parts_for : Left K "parts_for" s_parts_for fparts_for ocparts_for odparts_for anparts_for kVparts_for dcparts_for pmparts_for cdparts_for ctparts_for slparts_for)
    {ftaken : Addr} {octaken : Value} {odtaken antaken : Option Addr} {kVtaken dctaken pmtaken cdtaken cttaken : Value} {sltaken : Array (Option Value)} (F_taken : Left K "taken" s_taken ftaken octaken odtaken antaken kVtaken dctaken pmtaken cdtaken cttaken sltaken)
    {froom_of : Addr} {ocroom_of : Value} {odroom_of anroom_of : Option Addr} {kVroom_of dcroom_of pmroom_of cdroom_of ctroom_of : Value} {slroom_of : Array (Option Value)} (F_room_of : Left K "room_of" s_room_of froom_of ocroom_of odroom_of anroom_of kVroom_of dcroom_of pmroom_of cdroom_of ctroom_of slroom_of)
    {fweight_out : Addr} {ocweight_out : Value} {odweight_out anweight_out : Option Addr} {kVweight_out dcweight_out pmweight_out cdweight_out ctweight_out : Value} {slweight_out : Array (Option Value)} (F_weight_out : Left K "weight_out" s_weight_out fweight_out ocweight_out odweight_out anweight_out kVweight_out dcweight_out pmweight_out cdweight_out ctweight_out slweight_out)
    {fcheck_wanted : Addr} {occheck_wanted : Value} {odcheck_wanted ancheck_wanted : Option Addr} {kVcheck_wanted dccheck_wanted pmcheck_wanted cdcheck_wanted ctcheck_wanted : Value} {slcheck_wanted : Array (Option Value)} (F_check_wanted : Left K "check_wanted" s_check_wanted fcheck_wanted occheck_wanted odcheck_wanted ancheck_wanted kVcheck_wanted dccheck_wanted pmcheck_wanted cdcheck_wanted ctcheck_wanted slcheck_wanted)
    {fare_stores : Addr} {ocare_stores : Value} {odare_stores anare_stores : Option Addr} {kVare_stores dcare_stores pmare_stores cdare_stores ctare_stores : Value} {slare_stores : Array (Option Value)} (F_are_stores : Left K "are_stores" s_are_stores fare_stores ocare_stores odare_stores anare_stores kVare_stores dcare_stores pmare_stores cdare_stores ctare_stores slare_stores)
    {f_law_cell : Addr} {oc_law_cell : Value} {od_law_cell an_law_cell : Option Addr} {kV_law_cell dc_law_cell pm_law_cell cd_law_cell ct_law_cell : Value} {sl_law_cell : Array (Option Value)} (F__law_cell : Left K "_law_cell" s__law_cell f_law_cell oc_law_cell od_law_cell an_law_cell kV_law_cell dc_law_cell pm_law_cell cd_law_cell ct_law_cell sl_law_cell)
    {f_law_pot : Addr} {oc_law_pot : Value} {od_law_pot an_law_pot : Option Addr} {kV_law_pot dc_law_pot pm_law_pot cd_law_pot ct_law_pot : Value} {sl_law_pot : Array (Option Value)} (F__law_pot : Left K "_law_pot" s__law_pot f_law_pot oc_law_pot od_law_pot an_law_pot kV_law_pot dc_law_pot pm_law_pot cd_law_pot ct_law_pot sl_law_pot)
    {f_law_take : Addr} {oc_law_take : Value} {od_law_take an_law_take : Option Addr} {kV_law_take dc_law_take pm_law_take cd_law_take ct_law_take : Value} {sl_law_take : Array (Option Value)} (F__law_take : Left K "_law_take" s__law_take f_law_take oc_law_take od_law_take an_law_take kV_law_take dc_law_take pm_law_take cd_law_take ct_law_take sl_law_take)
    {f_law_far : Addr} {oc_law_far : Value} {od_law_far an_law_far : Option Addr} {kV_law_far dc_law_far pm_law_far cd_law_far ct_law_far : Value} {sl_law_far : Array (Option Value)} (F__law_far : Left K "_law_far" s__law_far f_law_far oc_law_far od_law_far an_law_far kV_law_far dc_law_far pm_law_far cd_law_far ct_law_far sl_law_far)
    {f_law_number : Addr} {oc_law_number : Value} {od_law_number an_law_number : Option Addr} {kV_law_number dc_law_number pm_law_number cd_law_number ct_law_number : Value} {sl_law_number : Array (Option Value)} (F__law_number : Left K "_law_number" s__law_number f_law_number oc_law_number od_law_number an_law_number kV_law_number dc_law_number pm_law_number cd_law_number ct_law_number sl_law_number)
    {f_law_boat : Addr} {oc_law_boat : Value} {od_law_boat an_law_boat : Option Addr} {kV_law_boat dc_law_boat pm_law_boat cd_law_boat ct_law_boat : Value} {sl_law_boat : Array (Option Value)} (F__law_boat : Left K "_law_boat" s__law_boat f_law_boat oc_law_boat od_law_boat an_law_boat kV_law_boat dc_law_boat pm_law_boat cd_law_boat ct_law_boat sl_law_boat)
    {f_law_name : Addr} {oc_law_name : Value} {od_law_name an_law_name : Option Addr} {kV_law_name dc_law_name pm_law_name cd_law_name ct_law_name : Value} {sl_law_name : Array (Option Value)} (F__law_name : Left K "_law_name" s__law_name f_law_name oc_law_name od_law_name an_law_name kV_law_name dc_law_name pm_law_name cd_law_name ct_law_name sl_law_name)
    {f_law_stores : Addr} {oc_law_stores : Value} {od_law_stores an_law_stores : Option Addr} {kV_law_stores dc_law_stores pm_law_stores cd_law_stores ct_law_stores : Value} {sl_law_stores : Array (Option Value)} (F__law_stores : Left K "_law_stores" s__law_stores f_law_stores oc_law_stores od_law_stores an_law_stores kV_law_stores dc_law_stores pm_law_stores cd_law_stores ct_law_stores sl_law_stores)
    {f_law_room : Addr} {oc_law_room : Value} {od_law_room an_law_room : Option Addr} {kV_law_room dc_law_room pm_law_room cd_law_room ct_law_room : Value} {sl_law_room : Array (Option Value)} (F__law_room : Left K "_law_room" s__law_room f_law_room oc_law_room od_law_room an_law_room kV_law_room dc_law_room pm_law_room cd_law_room ct_law_room sl_law_room)
    {f_law_men : Addr} {oc_law_men : Value} {od_law_men an_law_men : Option Addr} {kV_law_men dc_law_men pm_law_men cd_law_men ct_law_men : Value} {sl_law_men : Array (Option Value)} (F__law_men : Left K "_law_men" s__law_men f_law_men oc_law_men od_law_men an_law_men kV_law_men dc_law_men pm_law_men cd_law_men ct_law_men sl_law_men)
    {f_law_heavy : Addr} {oc_law_heavy : Value} {od_law_heavy an_law_heavy : Option Addr} {kV_law_heavy dc_law_heavy pm_law_heavy cd_law_heavy ct_law_heavy : Value} {sl_law_heavy : Array (Option Value)} (F__law_heavy : Left K "_law_heavy" s__law_heavy f_law_heavy oc_law_heavy od_law_heavy an_law_heavy kV_law_heavy dc_law_heavy pm_law_heavy cd_law_heavy ct_law_heavy sl_law_heavy)
    {f_law_up : Addr} {oc_law_up : Value} {od_law_up an_law_up : Option Addr} {kV_law_up dc_law_up pm_law_up cd_law_up ct_law_up : Value} {sl_law_up : Array (Option Value)} (F__law_up : Left K "_law_up" s__law_up f_law_up oc_law_up od_law_up an_law_up kV_law_up dc_law_up pm_law_up cd_law_up ct_law_up sl_law_up)
    {f_law_fewest : Addr} {oc_law_fewest : Value} {od_law_fewest an_law_fewest : Option Addr} {kV_law_fewest dc_law_fewest pm_law_fewest cd_law_fewest ct_law_fewest : Value} {sl_law_fewest : Array (Option Value)} (F__law_fewest : Left K "_law_fewest" s__law_fewest f_law_fewest oc_law_fewest od_law_fewest an_law_fewest kV_law_fewest dc_law_fewest pm_law_fewest cd_law_fewest ct_law_fewest sl_law_fewest)
    {f_law_word : Addr} {oc_law_word : Value} {od_law_word an_law_word : Option Addr} {kV_law_word dc_law_word pm_law_word cd_law_word ct_law_word : Value} {sl_law_word : Array (Option Value)} (F__law_word : Left K "_law_word" s__law_word f_law_word oc_law_word od_law_word an_law_word kV_law_word dc_law_word pm_law_word cd_law_word ct_law_word sl_law_word)
    {f_law_told : Addr} {oc_law_told : Value} {od_law_told an_law_told : Option Addr} {kV_law_told dc_law_told pm_law_told cd_law_told ct_law_told : Value} {sl_law_told : Array (Option Value)} (F__law_told : Left K "_law_told" s__law_told f_law_told oc_law_told od_law_told an_law_told kV_law_told dc_law_told pm_law_told cd_law_told ct_law_told sl_law_told)
    {f_law_is_whole : Addr} {oc_law_is_whole : Value} {od_law_is_whole an_law_is_whole : Option Addr} {kV_law_is_whole dc_law_is_whole pm_law_is_whole cd_law_is_whole ct_law_is_whole : Value} {sl_law_is_whole : Array (Option Value)} (F__law_is_whole : Left K "_law_is_whole" s__law_is_whole f_law_is_whole oc_law_is_whole od_law_is_whole an_law_is_whole kV_law_is_whole dc_law_is_whole pm_law_is_whole cd_law_is_whole ct_law_is_whole sl_law_is_whole)
    {f_law_is_load : Addr} {oc_law_is_load : Value} {od_law_is_load an_law_is_load : Option Addr} {kV_law_is_load dc_law_is_load pm_law_is_load cd_law_is_load ct_law_is_load : Value} {sl_law_is_load : Array (Option Value)} (F__law_is_load : Left K "_law_is_load" s__law_is_load f_law_is_load oc_law_is_load od_law_is_load an_law_is_load kV_law_is_load dc_law_is_load pm_law_is_load cd_law_is_load ct_law_is_load sl_law_is_load)
    {f_law_carry_all : Addr} {oc_law_carry_all : Value} {od_law_carry_all an_law_carry_all : Option Addr} {kV_law_carry_all dc_law_carry_all pm_law_carry_all cd_law_carry_all ct_law_carry_all : Value} {sl_law_carry_all : Array (Option Value)} (F__law_carry_all : Left K "_law_carry_all" s__law_carry_all f_law_carry_all oc_law_carry_all od_law_carry_all an_law_carry_all kV_law_carry_all dc_law_carry_all pm_law_carry_all cd_law_carry_all ct_law_carry_all sl_law_carry_all)
    {f_law_own : Addr} {oc_law_own : Value} {od_law_own an_law_own : Option Addr} {kV_law_own dc_law_own pm_law_own cd_law_own ct_law_own : Value} {sl_law_own : Array (Option Value)} (F__law_own : Left K "_law_own" s__law_own f_law_own oc_law_own od_law_own an_law_own kV_law_own dc_law_own pm_law_own cd_law_own ct_law_own sl_law_own)
    {f_law_looked : Addr} {oc_law_looked : Value} {od_law_looked an_law_looked : Option Addr} {kV_law_looked dc_law_looked pm_law_looked cd_law_looked ct_law_looked : Value} {sl_law_looked : Array (Option Value)} (F__law_looked : Left K "_law_looked" s__law_looked f_law_looked oc_law_looked od_law_looked an_law_looked kV_law_looked dc_law_looked pm_law_looked cd_law_looked ct_law_looked sl_law_looked)
    {f_law_turned : Addr} {oc_law_turned : Value} {od_law_turned an_law_turned : Option Addr} {kV_law_turned dc_law_turned pm_law_turned cd_law_turned ct_law_turned : Value} {sl_law_turned : Array (Option Value)} (F__law_turned : Left K "_law_turned" s__law_turned f_law_turned oc_law_turned od_law_turned an_law_turned kV_law_turned dc_law_turned pm_law_turned cd_law_turned ct_law_turned sl_law_turned)
    {flaw : Addr} {oclaw : Value} {odlaw anlaw : Option Addr} {kVlaw dclaw pmlaw cdlaw ctlaw : Value} {sllaw : Array (Option Value)} (F_law : Left K "law" s_law flaw oclaw odlaw anlaw kVlaw dclaw pmlaw cdlaw ctlaw sllaw)
    {t_SMALL_LETTERS : Tok} (y_SMALL_LETTERS : PySem.W.nsIn K mainGlobals "SMALL_LETTERS" = some (some (.str (Str.ofString "abcdefghijklmnopqrstuvwxyz") t_SMALL_LETTERS)))
    {t_LONGEST_NAME : Tok} (y_LONGEST_NAME : PySem.W.nsIn K mainGlobals "LONGEST_NAME" = some (some (.int (8) t_LONGEST_NAME)))
    {t_MOST_THINGS : Tok} (y_MOST_THINGS : PySem.W.nsIn K mainGlobals "MOST_THINGS" = some (some (.int (8) t_MOST_THINGS)))
    {t_MOST_LOADS : Tok} (y_MOST_LOADS : PySem.W.nsIn K mainGlobals "MOST_LOADS" = some (some (.int (300) t_MOST_LOADS)))
    (z_isinstance : PySem.W.nsIn K mainGlobals "isinstance" = some none)
    (z_int : PySem.W.nsIn K mainGlobals "int" = some none)
    (z_bool : PySem.W.nsIn K mainGlobals "bool" = some none)
    (z_len : PySem.W.nsIn K mainGlobals "len" = some none)
    (z_abs : PySem.W.nsIn K mainGlobals "abs" = some none)
    (z_max : PySem.W.nsIn K mainGlobals "max" = some none)
    (z_min : PySem.W.nsIn K mainGlobals "min" = some none)
    (z_divmod : PySem.W.nsIn K mainGlobals "divmod" = some none)
    (z_range : PySem.W.nsIn K mainGlobals "range" = some none)
    (z_repr : PySem.W.nsIn K mainGlobals "repr" = some none)
    (z_zip : PySem.W.nsIn K mainGlobals "zip" = some none)
    (z_ValueError : PySem.W.nsIn K mainGlobals "ValueError" = some none)
    (z_all : PySem.W.nsIn K mainGlobals "all" = some none)
    (z_any : PySem.W.nsIn K mainGlobals "any" = some none)
    (z_sum : PySem.W.nsIn K mainGlobals "sum" = some none)
    (z_sorted : PySem.W.nsIn K mainGlobals "sorted" = some none)
    (z_list : PySem.W.nsIn K mainGlobals "list" = some none)
    (z_tuple : PySem.W.nsIn K mainGlobals "tuple" = some none)
    (z_dict : PySem.W.nsIn K mainGlobals "dict" = some none)
    (z_enumerate : PySem.W.nsIn K mainGlobals "enumerate" = some none)
    (z_reversed : PySem.W.nsIn K mainGlobals "reversed" = some none)
    (z_str : PySem.W.nsIn K mainGlobals "str" = some none)
    (z_set : PySem.W.nsIn K mainGlobals "set" = some none)
    : ∃ fd : FuncData, (∀ (s : Shared) (v : Value), BindsTo s fd ⟨[v], []⟩ [("_law_script", v)]) ∧
      ∀ base : Heap, K.In base → base.Ns mainGlobals mg → FnG l.prog w K mg base CX0 10 fa fd ["_law_script"] (spLaw K) := by
  have e := hfa.symm.trans (PySem.W.mg_of X G F_law.ns)
  cases e
  have N : ∀ {x : Str}, PySem.W.nsIn K mainGlobals x = some none → mg x = none := fun z => PySem.W.mg_none_of X G z
  have D_fewest : FunD K "fewest" "fewest" (defArgs s_fewest) (defBody s_fewest) (defScope s_fewest) [.int 0, .non] [] _ _ := ⟨⟨ocfewest, odfewest, .ref Tfewest, kVfewest, dcfewest, pmfewest, anfewest, cdfewest, ctfewest, slfewest, rfl, F_fewest.lk, F_fewest.cd, .inr ⟨nofun, Tfewest, _, [.int 0 t0fewest, .none], nTfewest, rfl, F_fewest.lT, rfl, (.cons ⟨_, rfl⟩ (.cons rfl .nil))⟩, .inl rfl⟩, F_fewest.kp⟩
  have D_loads : FunD K "loads" "loads" (defArgs s_loads) (defBody s_loads) (defScope s_loads) [.int 0, .non] [] _ _ := ⟨⟨ocloads, odloads, .ref Tloads, kVloads, dcloads, pmloads, anloads, cdloads, ctloads, slloads, rfl, F_loads.lk, F_loads.cd, .inr ⟨nofun, Tloads, _, [.int 0 t0loads, .none], nTloads, rfl, F_loads.lT, rfl, (.cons ⟨_, rfl⟩ (.cons rfl .nil))⟩, .inl rfl⟩, F_loads.kp⟩
  let A : All K l.prog mg := {
    T := ⟨N z_isinstance, N z_int, N z_bool, N z_len, N z_abs, N z_max, N z_min, N z_divmod, N z_range, N z_repr, N z_zip, N z_ValueError, N z_all, N z_any, N z_sum, N z_sorted, N z_list, N z_tuple, N z_dict, N z_enumerate, N z_reversed, N z_str, N z_set⟩
    t_SMALL_LETTERS := t_SMALL_LETTERS
    g_SMALL_LETTERS := PySem.W.mg_of X G y_SMALL_LETTERS
    t_LONGEST_NAME := t_LONGEST_NAME
    g_LONGEST_NAME := PySem.W.mg_of X G y_LONGEST_NAME
    t_MOST_THINGS := t_MOST_THINGS
    g_MOST_THINGS := PySem.W.mg_of X G y_MOST_THINGS
    t_MOST_LOADS := t_MOST_LOADS
    g_MOST_LOADS := PySem.W.mg_of X G y_MOST_LOADS
    C_LightsError := C_LightsError
    g_LightsError := PySem.W.mg_of X G D.n_LightsError
    C_Wrong := C_Wrong
    g_Wrong := PySem.W.mg_of X G D.n_Wrong
    C_Barred := C_Barred
    g_Barred := PySem.W.mg_of X G D.n_Barred
    C_NoWeather := C_NoWeather
    g_NoWeather := PySem.W.mg_of X G D.n_NoWeather
    C_TooMany := C_TooMany
    g_TooMany := PySem.W.mg_of X G D.n_TooMany
    C_Small := C_Small
    g_Small := PySem.W.mg_of X G D.n_Small
    C_Early := C_Early
    g_Early := PySem.W.mg_of X G D.n_Early
    C_Clash := C_Clash
    g_Clash := PySem.W.mg_of X G D.n_Clash
    E_Small := ⟨PySem.W.mg_of X G D.n_Small, D.x_Small, D.k_Small, D.b_Small, D.ty_Small⟩
    x_Small := ⟨D.eg_Small, D.ek_Small, D.b_Small, D.ed_Small, D.ea_Small, D.cn, D.ct, D.em_Small⟩
    kv_Small := kit_ve D.sv_Small
    E_TooMany := ⟨PySem.W.mg_of X G D.n_TooMany, D.x_TooMany, D.k_TooMany, D.b_TooMany, D.ty_TooMany⟩
    x_TooMany := ⟨D.eg_TooMany, D.ek_TooMany, D.b_TooMany, D.ed_TooMany, D.ea_TooMany, D.cn, D.ct, D.em_TooMany⟩
    kv_TooMany := kit_ve D.sv_TooMany
    kit_Small_Wrong := kit_no D.i_Wrong D.ty_Wrong D.s_Small_Wrong D.q_Small_Wrong
    kit_Small_Clash := kit_no D.i_Clash D.ty_Clash D.s_Small_Clash D.q_Small_Clash
    kit_Small_Early := kit_no D.i_Early D.ty_Early D.s_Small_Early D.q_Small_Early
    kit_Small_NoWeather := kit_no D.i_NoWeather D.ty_NoWeather D.s_Small_NoWeather D.q_Small_NoWeather
    kit_Small_Small := kit_self
    kit_Small_TooMany := kit_no D.i_TooMany D.ty_TooMany D.s_Small_TooMany D.q_Small_TooMany
    kit_Small_Barred := kit_yes D.i_Barred D.ty_Barred D.s_Small_Barred
    kit_TooMany_Wrong := kit_no D.i_Wrong D.ty_Wrong D.s_TooMany_Wrong D.q_TooMany_Wrong
    kit_TooMany_Clash := kit_no D.i_Clash D.ty_Clash D.s_TooMany_Clash D.q_TooMany_Clash
    kit_TooMany_Early := kit_no D.i_Early D.ty_Early D.s_TooMany_Early D.q_TooMany_Early
    kit_TooMany_NoWeather := kit_no D.i_NoWeather D.ty_NoWeather D.s_TooMany_NoWeather D.q_TooMany_NoWeather
    kit_TooMany_Small := kit_no D.i_Small D.ty_Small D.s_TooMany_Small D.q_TooMany_Small
    kit_TooMany_TooMany := kit_self
    kit_TooMany_Barred := kit_yes D.i_Barred D.ty_Barred D.s_TooMany_Barred
    exm_Small_LightsError := exm_is D.sb_LightsError D.i_LightsError D.ty_LightsError D.s_Small_LightsError
    exm_TooMany_LightsError := exm_is D.sb_LightsError D.i_LightsError D.ty_LightsError D.s_TooMany_LightsError
    C_Boat := C_Boat
    Z_Boat := ⟨⟨D.pg_Boat, D.hd_Boat, D.po_Boat, D.sa_Boat⟩, PySem.W.mg_of X G D.n_Boat, D.kC_Boat⟩
    n_Boat_many_seats := D.f_Boat_many_seats
    n_Boat_most_weight := D.f_Boat_most_weight
    n_Boat_man_weight := D.f_Boat_man_weight
    f_Boat___init__ := fBoat___init__
    d_Boat___init__ := _
    h_Boat___init__ := ⟨F_Boat___init__.fn, F_Boat___init__.fn.binds fun _ _ _ _ _ _ us hl => match us, hl with | [_, _, _, _], _ => rfl, F_Boat___init__.me⟩
    M_Boat := ⟨D.mk_Boat, F_Boat___init__.at_, F_Boat___init__.isf, D.kC_Boat⟩
    f_Boat_seats := fBoat_seats
    d_Boat_seats := _
    h_Boat_seats := ⟨F_Boat_seats.fn, F_Boat_seats.fn.binds fun _ _ _ _ _ _ us hl => match us, hl with | [_], _ => rfl, F_Boat_seats.me⟩
    f_Boat_carries := fBoat_carries
    d_Boat_carries := _
    h_Boat_carries := ⟨F_Boat_carries.fn, F_Boat_carries.fn.binds fun _ _ _ _ _ _ us hl => match us, hl with | [_], _ => rfl, F_Boat_carries.me⟩
    f_Boat_man := fBoat_man
    d_Boat_man := _
    h_Boat_man := ⟨F_Boat_man.fn, F_Boat_man.fn.binds fun _ _ _ _ _ _ us hl => match us, hl with | [_], _ => rfl, F_Boat_man.me⟩
    f_is_name := fis_name
    d_is_name := _
    h_is_name := ⟨F_is_name.fn, F_is_name.fn.binds fun _ _ _ _ _ _ us hl => match us, hl with | [_], _ => rfl, PySem.W.mg_of X G F_is_name.ns⟩
    f_is_whole := fis_whole
    d_is_whole := _
    h_is_whole := ⟨F_is_whole.fn, F_is_whole.fn.binds fun _ _ _ _ _ _ us hl => match us, hl with | [_], _ => rfl, PySem.W.mg_of X G F_is_whole.ns⟩
    f_is_from := fis_from
    d_is_from := _
    h_is_from := ⟨F_is_from.fn, F_is_from.fn.binds fun _ _ _ _ _ _ us hl => match us, hl with | [_, _], _ => rfl, PySem.W.mg_of X G F_is_from.ns⟩
    f_parts_for := fparts_for
    d_parts_for := _
    h_parts_for := ⟨F_parts_for.fn, F_parts_for.fn.binds fun _ _ _ _ _ _ us hl => match us, hl with | [_, _], _ => rfl, PySem.W.mg_of X G F_parts_for.ns⟩
    f_taken := ftaken
    d_taken := _
    h_taken := ⟨F_taken.fn, F_taken.fn.binds fun _ _ _ _ _ _ us hl => match us, hl with | [_, _], _ => rfl, PySem.W.mg_of X G F_taken.ns⟩
    f_room_of := froom_of
    d_room_of := _
    h_room_of := ⟨F_room_of.fn, F_room_of.fn.binds fun _ _ _ _ _ _ us hl => match us, hl with | [_], _ => rfl, PySem.W.mg_of X G F_room_of.ns⟩
    f_weight_out := fweight_out
    d_weight_out := _
    h_weight_out := ⟨F_weight_out.fn, F_weight_out.fn.binds fun _ _ _ _ _ _ us hl => match us, hl with | [_, _, _], _ => rfl, PySem.W.mg_of X G F_weight_out.ns⟩
    f_check_wanted := fcheck_wanted
    d_check_wanted := _
    h_check_wanted := ⟨F_check_wanted.fn, F_check_wanted.fn.binds fun _ _ _ _ _ _ us hl => match us, hl with | [_, _, _], _ => rfl, PySem.W.mg_of X G F_check_wanted.ns⟩
    f_are_stores := fare_stores
    d_are_stores := _
    h_are_stores := ⟨F_are_stores.fn, F_are_stores.fn.binds fun _ _ _ _ _ _ us hl => match us, hl with | [_], _ => rfl, PySem.W.mg_of X G F_are_stores.ns⟩
    f__law_cell := f_law_cell
    d__law_cell := _
    h__law_cell := ⟨F__law_cell.fn, F__law_cell.fn.binds fun _ _ _ _ _ _ us hl => match us, hl with | [_, _], _ => rfl, PySem.W.mg_of X G F__law_cell.ns⟩
    f__law_pot := f_law_pot
    d__law_pot := _
    h__law_pot := ⟨F__law_pot.fn, F__law_pot.fn.binds fun _ _ _ _ _ _ us hl => match us, hl with | [_, _], _ => rfl, PySem.W.mg_of X G F__law_pot.ns⟩
    f__law_take := f_law_take
    d__law_take := _
    h__law_take := ⟨F__law_take.fn, F__law_take.fn.binds fun _ _ _ _ _ _ us hl => match us, hl with | [_, _], _ => rfl, PySem.W.mg_of X G F__law_take.ns⟩
    f__law_far := f_law_far
    d__law_far := _
    h__law_far := ⟨F__law_far.fn, F__law_far.fn.binds fun _ _ _ _ _ _ us hl => match us, hl with | [_], _ => rfl, PySem.W.mg_of X G F__law_far.ns⟩
    f__law_number := f_law_number
    d__law_number := _
    h__law_number := ⟨F__law_number.fn, F__law_number.fn.binds fun _ _ _ _ _ _ us hl => match us, hl with | [_, _], _ => rfl, PySem.W.mg_of X G F__law_number.ns⟩
    f__law_boat := f_law_boat
    d__law_boat := _
    h__law_boat := ⟨F__law_boat.fn, F__law_boat.fn.binds fun _ _ _ _ _ _ us hl => match us, hl with | [_], _ => rfl, PySem.W.mg_of X G F__law_boat.ns⟩
    f__law_name := f_law_name
    d__law_name := _
    h__law_name := ⟨F__law_name.fn, F__law_name.fn.binds fun _ _ _ _ _ _ us hl => match us, hl with | [_], _ => rfl, PySem.W.mg_of X G F__law_name.ns⟩
    f__law_stores := f_law_stores
    d__law_stores := _
    h__law_stores := ⟨F__law_stores.fn, F__law_stores.fn.binds fun _ _ _ _ _ _ us hl => match us, hl with | [_], _ => rfl, PySem.W.mg_of X G F__law_stores.ns⟩
    f__law_room := f_law_room
    d__law_room := _
    h__law_room := ⟨F__law_room.fn, F__law_room.fn.binds fun _ _ _ _ _ _ us hl => match us, hl with | [_], _ => rfl, PySem.W.mg_of X G F__law_room.ns⟩
    f__law_men := f_law_men
    d__law_men := _
    h__law_men := ⟨F__law_men.fn, F__law_men.fn.binds fun _ _ _ _ _ _ us hl => match us, hl with | [_, _], _ => rfl, PySem.W.mg_of X G F__law_men.ns⟩
    f__law_heavy := f_law_heavy
    d__law_heavy := _
    h__law_heavy := ⟨F__law_heavy.fn, F__law_heavy.fn.binds fun _ _ _ _ _ _ us hl => match us, hl with | [_, _, _], _ => rfl, PySem.W.mg_of X G F__law_heavy.ns⟩
    f__law_up := f_law_up
    d__law_up := _
    h__law_up := ⟨F__law_up.fn, F__law_up.fn.binds fun _ _ _ _ _ _ us hl => match us, hl with | [_, _], _ => rfl, PySem.W.mg_of X G F__law_up.ns⟩
    f__law_fewest := f_law_fewest
    d__law_fewest := _
    h__law_fewest := ⟨F__law_fewest.fn, F__law_fewest.fn.binds fun _ _ _ _ _ _ us hl => match us, hl with | [_, _, _, _], _ => rfl, PySem.W.mg_of X G F__law_fewest.ns⟩
    f__law_word := f_law_word
    d__law_word := _
    h__law_word := ⟨F__law_word.fn, F__law_word.fn.binds fun _ _ _ _ _ _ us hl => match us, hl with | [_], _ => rfl, PySem.W.mg_of X G F__law_word.ns⟩
    f__law_told := f_law_told
    d__law_told := _
    h__law_told := ⟨F__law_told.fn, F__law_told.fn.binds fun _ _ _ _ _ _ us hl => match us, hl with | [_, _, _, _], _ => rfl, PySem.W.mg_of X G F__law_told.ns⟩
    f__law_is_whole := f_law_is_whole
    d__law_is_whole := _
    h__law_is_whole := ⟨F__law_is_whole.fn, F__law_is_whole.fn.binds fun _ _ _ _ _ _ us hl => match us, hl with | [_, _], _ => rfl, PySem.W.mg_of X G F__law_is_whole.ns⟩
    f__law_is_load := f_law_is_load
    d__law_is_load := _
    h__law_is_load := ⟨F__law_is_load.fn, F__law_is_load.fn.binds fun _ _ _ _ _ _ us hl => match us, hl with | [_, _], _ => rfl, PySem.W.mg_of X G F__law_is_load.ns⟩
    f__law_carry_all := f_law_carry_all
    d__law_carry_all := _
    h__law_carry_all := ⟨F__law_carry_all.fn, F__law_carry_all.fn.binds fun _ _ _ _ _ _ us hl => match us, hl with | [_, _, _, _], _ => rfl, PySem.W.mg_of X G F__law_carry_all.ns⟩
    f__law_own := f_law_own
    d__law_own := _
    h__law_own := ⟨F__law_own.fn, F__law_own.fn.binds fun _ _ _ _ _ _ us hl => match us, hl with | [_, _, _, _, _], _ => rfl, PySem.W.mg_of X G F__law_own.ns⟩
    f__law_looked := f_law_looked
    d__law_looked := _
    h__law_looked := ⟨F__law_looked.fn, F__law_looked.fn.binds fun _ _ _ _ _ _ us hl => match us, hl with | [_, _, _, _, _], _ => rfl, PySem.W.mg_of X G F__law_looked.ns⟩
    f__law_turned := f_law_turned
    d__law_turned := _
    h__law_turned := ⟨F__law_turned.fn, F__law_turned.fn.binds fun _ _ _ _ _ _ us hl => match us, hl with | [_, _], _ => rfl, PySem.W.mg_of X G F__law_turned.ns⟩
    f_fewest := ffewest
    d_fewest := _
    q_fewest := D_fewest
    gl_fewest := PySem.W.mg_of X G F_fewest.ns
    kp_fewest := F_fewest.kp
    f_loads := floads
    d_loads := _
    q_loads := D_loads
    gl_loads := PySem.W.mg_of X G F_loads.ns
    kp_loads := F_loads.kp }
  exact ⟨_, fun s v => .of_eq rfl, fun base _ _ => ok_law A F_law.fn⟩
end K34
open PySem PySem.W PyProof.Rows
local macro_rules
  | `(tactic| o_head ($f $k $a $e $t)) => `(tactic| o_headL (kHook (LT.kPlus $k $t) ($a ++ $t) (fun _ => by kernel_rfl)))
  | `(tactic| o_head ($f $k $a $e)) => `(tactic| o_headL ($f $k $a $e))
set_option maxHeartbeats 0 in
theorem PySem.Challenge.cw_lightturns_k34_loads_holds : PySem.Challenge.rw_lightturns_k34_loads.Holds := by
  w_on; o_law; k_head; (case hw => w_witness2)
  k_fill
  refine LT.end_of (l := PySem.Challenge.rw_lightturns_k34_loads) (n := 63) (k := 10) (x := "_law_script") (CX := fun _ => L2.CX0) (sp := fun w => K34.spLaw _) rfl (by decide) rfl ⟨rfl, by decide, by decide⟩ (fun w h Y => PySem.W.kIn_of Y) ?F (fun _ _ a ns hl hb _ hS => ⟨a, ns, rfl, hS, hl, fun _ => rfl⟩) (fun _ _ _ _ _ h => h)
  case F =>
    intro w mg fa h KX G hmg
    refine' K34.all_mk (l := PySem.Challenge.rw_lightturns_k34_loads) KX G hmg ⟨?d_n_LightsError, ?d_n_Wrong, ?d_n_Barred, ?d_n_NoWeather, ?d_n_TooMany, ?d_n_Small, ?d_n_Early, ?d_n_Clash, ?d_n_Boat, ?d_i_LightsError, ?d_ty_LightsError, ?d_i_Wrong, ?d_ty_Wrong, ?d_i_Barred, ?d_ty_Barred, ?d_i_NoWeather, ?d_ty_NoWeather, ?d_i_TooMany, ?d_ty_TooMany, ?d_i_Small, ?d_ty_Small, ?d_i_Early, ?d_ty_Early, ?d_i_Clash, ?d_ty_Clash, ?d_sb_LightsError, ?d_cn, ?d_ct, ?d_x_Small, ?d_k_Small, ?d_b_Small, ?d_eg_Small, ?d_ek_Small, ?d_ed_Small, ?d_ea_Small, ?d_em_Small, ?d_sv_Small, ?d_x_TooMany, ?d_k_TooMany, ?d_b_TooMany, ?d_eg_TooMany, ?d_ek_TooMany, ?d_ed_TooMany, ?d_ea_TooMany, ?d_em_TooMany, ?d_sv_TooMany, ?d_s_Small_Wrong, ?d_q_Small_Wrong, ?d_s_Small_Clash, ?d_q_Small_Clash, ?d_s_Small_Early, ?d_q_Small_Early, ?d_s_Small_NoWeather, ?d_q_Small_NoWeather, ?d_s_Small_TooMany, ?d_q_Small_TooMany, ?d_s_Small_Barred, ?d_s_TooMany_Wrong, ?d_q_TooMany_Wrong, ?d_s_TooMany_Clash, ?d_q_TooMany_Clash, ?d_s_TooMany_Early, ?d_q_TooMany_Early, ?d_s_TooMany_NoWeather, ?d_q_TooMany_NoWeather, ?d_s_TooMany_Small, ?d_q_TooMany_Small, ?d_s_TooMany_Barred, ?d_s_Small_LightsError, ?d_s_TooMany_LightsError, ?d_pg_Boat, ?d_hd_Boat, ?d_po_Boat, ?d_sa_Boat, ?d_kC_Boat, ?d_mk_Boat, ?d_f_Boat_many_seats, ?d_f_Boat_most_weight, ?d_f_Boat_man_weight⟩ ⟨?m_Boat___init___at, ?m_Boat___init___lk, ?m_Boat___init___cd, ?m_Boat___init___kp, ?m_Boat___init___isf⟩ ⟨?m_Boat_seats_at, ?m_Boat_seats_lk, ?m_Boat_seats_cd, ?m_Boat_seats_kp, ?m_Boat_seats_isf⟩ ⟨?m_Boat_carries_at, ?m_Boat_carries_lk, ?m_Boat_carries_cd, ?m_Boat_carries_kp, ?m_Boat_carries_isf⟩ ⟨?m_Boat_man_at, ?m_Boat_man_lk, ?m_Boat_man_cd, ?m_Boat_man_kp, ?m_Boat_man_isf⟩ ⟨?g_fewest_ns, ?g_fewest_lk, ?g_fewest_cd, ?g_fewest_kp, ?g_fewest_lT⟩ ⟨?g_loads_ns, ?g_loads_lk, ?g_loads_cd, ?g_loads_kp, ?g_loads_lT⟩ ⟨?f_is_name_ns, ?f_is_name_lk, ?f_is_name_cd, ?f_is_name_kp⟩ ⟨?f_is_whole_ns, ?f_is_whole_lk, ?f_is_whole_cd, ?f_is_whole_kp⟩ ⟨?f_is_from_ns, ?f_is_from_lk, ?f_is_from_cd, ?f_is_from_kp⟩ ⟨?f_parts_for_ns, ?f_parts_for_lk, ?f_parts_for_cd, ?f_parts_for_kp⟩ ⟨?f_taken_ns, ?f_taken_lk, ?f_taken_cd, ?f_taken_kp⟩ ⟨?f_room_of_ns, ?f_room_of_lk, ?f_room_of_cd, ?f_room_of_kp⟩ ⟨?f_weight_out_ns, ?f_weight_out_lk, ?f_weight_out_cd, ?f_weight_out_kp⟩ ⟨?f_check_wanted_ns, ?f_check_wanted_lk, ?f_check_wanted_cd, ?f_check_wanted_kp⟩ ⟨?f_are_stores_ns, ?f_are_stores_lk, ?f_are_stores_cd, ?f_are_stores_kp⟩ ⟨?f__law_cell_ns, ?f__law_cell_lk, ?f__law_cell_cd, ?f__law_cell_kp⟩ ⟨?f__law_pot_ns, ?f__law_pot_lk, ?f__law_pot_cd, ?f__law_pot_kp⟩ ⟨?f__law_take_ns, ?f__law_take_lk, ?f__law_take_cd, ?f__law_take_kp⟩ ⟨?f__law_far_ns, ?f__law_far_lk, ?f__law_far_cd, ?f__law_far_kp⟩ ⟨?f__law_number_ns, ?f__law_number_lk, ?f__law_number_cd, ?f__law_number_kp⟩ ⟨?f__law_boat_ns, ?f__law_boat_lk, ?f__law_boat_cd, ?f__law_boat_kp⟩ ⟨?f__law_name_ns, ?f__law_name_lk, ?f__law_name_cd, ?f__law_name_kp⟩ ⟨?f__law_stores_ns, ?f__law_stores_lk, ?f__law_stores_cd, ?f__law_stores_kp⟩ ⟨?f__law_room_ns, ?f__law_room_lk, ?f__law_room_cd, ?f__law_room_kp⟩ ⟨?f__law_men_ns, ?f__law_men_lk, ?f__law_men_cd, ?f__law_men_kp⟩ ⟨?f__law_heavy_ns, ?f__law_heavy_lk, ?f__law_heavy_cd, ?f__law_heavy_kp⟩ ⟨?f__law_up_ns, ?f__law_up_lk, ?f__law_up_cd, ?f__law_up_kp⟩ ⟨?f__law_fewest_ns, ?f__law_fewest_lk, ?f__law_fewest_cd, ?f__law_fewest_kp⟩ ⟨?f__law_word_ns, ?f__law_word_lk, ?f__law_word_cd, ?f__law_word_kp⟩ ⟨?f__law_told_ns, ?f__law_told_lk, ?f__law_told_cd, ?f__law_told_kp⟩ ⟨?f__law_is_whole_ns, ?f__law_is_whole_lk, ?f__law_is_whole_cd, ?f__law_is_whole_kp⟩ ⟨?f__law_is_load_ns, ?f__law_is_load_lk, ?f__law_is_load_cd, ?f__law_is_load_kp⟩ ⟨?f__law_carry_all_ns, ?f__law_carry_all_lk, ?f__law_carry_all_cd, ?f__law_carry_all_kp⟩ ⟨?f__law_own_ns, ?f__law_own_lk, ?f__law_own_cd, ?f__law_own_kp⟩ ⟨?f__law_looked_ns, ?f__law_looked_lk, ?f__law_looked_cd, ?f__law_looked_kp⟩ ⟨?f__law_turned_ns, ?f__law_turned_lk, ?f__law_turned_cd, ?f__law_turned_kp⟩ ⟨?f_law_ns, ?f_law_lk, ?f_law_cd, ?f_law_kp⟩ ?y_SMALL_LETTERS ?y_LONGEST_NAME ?y_MOST_THINGS ?y_MOST_LOADS ?z_isinstance ?z_int ?z_bool ?z_len ?z_abs ?z_max ?z_min ?z_divmod ?z_range ?z_repr ?z_zip ?z_ValueError ?z_all ?z_any ?z_sum ?z_sorted ?z_list ?z_tuple ?z_dict ?z_enumerate ?z_reversed ?z_str ?z_set
    (case d_n_LightsError => k_is)
    (case d_n_Wrong => k_is)
    (case d_n_Barred => k_is)
    (case d_n_NoWeather => k_is)
    (case d_n_TooMany => k_is)
    (case d_n_Small => k_is)
    (case d_n_Early => k_is)
    (case d_n_Clash => k_is)
    (case d_n_Boat => k_is)
    (case m_Boat___init___at => k_is)
    (case m_Boat_seats_at => k_is)
    (case m_Boat_carries_at => k_is)
    (case m_Boat_man_at => k_is)
    (case g_fewest_ns => k_is)
    (case g_loads_ns => k_is)
    (case f_is_name_ns => k_is)
    (case f_is_whole_ns => k_is)
    (case f_is_from_ns => k_is)
    (case f_parts_for_ns => k_is)
    (case f_taken_ns => k_is)
    (case f_room_of_ns => k_is)
    (case f_weight_out_ns => k_is)
    (case f_check_wanted_ns => k_is)
    (case f_are_stores_ns => k_is)
    (case f__law_cell_ns => k_is)
    (case f__law_pot_ns => k_is)
    (case f__law_take_ns => k_is)
    (case f__law_far_ns => k_is)
    (case f__law_number_ns => k_is)
    (case f__law_boat_ns => k_is)
    (case f__law_name_ns => k_is)
    (case f__law_stores_ns => k_is)
    (case f__law_room_ns => k_is)
    (case f__law_men_ns => k_is)
    (case f__law_heavy_ns => k_is)
    (case f__law_up_ns => k_is)
    (case f__law_fewest_ns => k_is)
    (case f__law_word_ns => k_is)
    (case f__law_told_ns => k_is)
    (case f__law_is_whole_ns => k_is)
    (case f__law_is_load_ns => k_is)
    (case f__law_carry_all_ns => k_is)
    (case f__law_own_ns => k_is)
    (case f__law_looked_ns => k_is)
    (case f__law_turned_ns => k_is)
    (case f_law_ns => k_is)
    (case y_SMALL_LETTERS => k_is)
    (case y_LONGEST_NAME => k_is)
    (case y_MOST_THINGS => k_is)
    (case y_MOST_LOADS => k_is)
    (case m_Boat___init___lk => k_is)
    (case m_Boat_seats_lk => k_is)
    (case m_Boat_carries_lk => k_is)
    (case m_Boat_man_lk => k_is)
    (case g_fewest_lk => k_is)
    (case g_loads_lk => k_is)
    (case f_is_name_lk => k_is)
    (case f_is_whole_lk => k_is)
    (case f_is_from_lk => k_is)
    (case f_parts_for_lk => k_is)
    (case f_taken_lk => k_is)
    (case f_room_of_lk => k_is)
    (case f_weight_out_lk => k_is)
    (case f_check_wanted_lk => k_is)
    (case f_are_stores_lk => k_is)
    (case f__law_cell_lk => k_is)
    (case f__law_pot_lk => k_is)
    (case f__law_take_lk => k_is)
    (case f__law_far_lk => k_is)
    (case f__law_number_lk => k_is)
    (case f__law_boat_lk => k_is)
    (case f__law_name_lk => k_is)
    (case f__law_stores_lk => k_is)
    (case f__law_room_lk => k_is)
    (case f__law_men_lk => k_is)
    (case f__law_heavy_lk => k_is)
    (case f__law_up_lk => k_is)
    (case f__law_fewest_lk => k_is)
    (case f__law_word_lk => k_is)
    (case f__law_told_lk => k_is)
    (case f__law_is_whole_lk => k_is)
    (case f__law_is_load_lk => k_is)
    (case f__law_carry_all_lk => k_is)
    (case f__law_own_lk => k_is)
    (case f__law_looked_lk => k_is)
    (case f__law_turned_lk => k_is)
    (case f_law_lk => k_is)
    (case g_fewest_lT => k_is)
    (case g_loads_lT => k_is)
    (case d_i_LightsError => k_is)
    (case d_ty_LightsError => k_is)
    (case d_i_Wrong => k_is)
    (case d_ty_Wrong => k_is)
    (case d_i_Barred => k_is)
    (case d_ty_Barred => k_is)
    (case d_i_NoWeather => k_is)
    (case d_ty_NoWeather => k_is)
    (case d_i_TooMany => k_is)
    (case d_ty_TooMany => k_is)
    (case d_i_Small => k_is)
    (case d_ty_Small => k_is)
    (case d_i_Early => k_is)
    (case d_ty_Early => k_is)
    (case d_i_Clash => k_is)
    (case d_ty_Clash => k_is)
    (case d_sb_LightsError => k_is)
    (case d_cn => k_is)
    (case d_ct => k_is)
    (case d_x_Small => k_exc)
    (case d_k_Small => k_is)
    (case d_b_Small => k_is)
    (case d_eg_Small => k_is)
    (case d_ek_Small => k_is)
    (case d_ed_Small => k_is)
    (case d_ea_Small => k_is)
    (case d_em_Small => k_is)
    (case d_sv_Small => k_is)
    (case d_x_TooMany => k_exc)
    (case d_k_TooMany => k_is)
    (case d_b_TooMany => k_is)
    (case d_eg_TooMany => k_is)
    (case d_ek_TooMany => k_is)
    (case d_ed_TooMany => k_is)
    (case d_ea_TooMany => k_is)
    (case d_em_TooMany => k_is)
    (case d_sv_TooMany => k_is)
    (case d_s_Small_Wrong => k_is)
    (case d_q_Small_Wrong => rfl)
    (case d_s_Small_Clash => k_is)
    (case d_q_Small_Clash => rfl)
    (case d_s_Small_Early => k_is)
    (case d_q_Small_Early => rfl)
    (case d_s_Small_NoWeather => k_is)
    (case d_q_Small_NoWeather => rfl)
    (case d_s_Small_TooMany => k_is)
    (case d_q_Small_TooMany => rfl)
    (case d_s_Small_Barred => k_is)
    (case d_s_TooMany_Wrong => k_is)
    (case d_q_TooMany_Wrong => rfl)
    (case d_s_TooMany_Clash => k_is)
    (case d_q_TooMany_Clash => rfl)
    (case d_s_TooMany_Early => k_is)
    (case d_q_TooMany_Early => rfl)
    (case d_s_TooMany_NoWeather => k_is)
    (case d_q_TooMany_NoWeather => rfl)
    (case d_s_TooMany_Small => k_is)
    (case d_q_TooMany_Small => rfl)
    (case d_s_TooMany_Barred => k_is)
    (case d_s_Small_LightsError => k_is)
    (case d_s_TooMany_LightsError => k_is)
    (case d_pg_Boat => k_is)
    (case d_hd_Boat => k_is)
    (case d_po_Boat => k_is)
    (case d_sa_Boat => k_is)
    (case d_kC_Boat => k_is)
    (case d_mk_Boat => k_is)
    (case d_f_Boat_many_seats => k_is)
    (case d_f_Boat_most_weight => k_is)
    (case d_f_Boat_man_weight => k_is)
    (case m_Boat___init___cd => k_is)
    (case m_Boat___init___kp => k_is)
    (case m_Boat___init___isf => k_is)
    (case m_Boat_seats_cd => k_is)
    (case m_Boat_seats_kp => k_is)
    (case m_Boat_seats_isf => k_is)
    (case m_Boat_carries_cd => k_is)
    (case m_Boat_carries_kp => k_is)
    (case m_Boat_carries_isf => k_is)
    (case m_Boat_man_cd => k_is)
    (case m_Boat_man_kp => k_is)
    (case m_Boat_man_isf => k_is)
    (case g_fewest_cd => k_is)
    (case g_fewest_kp => k_is)
    (case g_loads_cd => k_is)
    (case g_loads_kp => k_is)
    (case f_is_name_cd => k_is)
    (case f_is_name_kp => k_is)
    (case f_is_whole_cd => k_is)
    (case f_is_whole_kp => k_is)
    (case f_is_from_cd => k_is)
    (case f_is_from_kp => k_is)
    (case f_parts_for_cd => k_is)
    (case f_parts_for_kp => k_is)
    (case f_taken_cd => k_is)
    (case f_taken_kp => k_is)
    (case f_room_of_cd => k_is)
    (case f_room_of_kp => k_is)
    (case f_weight_out_cd => k_is)
    (case f_weight_out_kp => k_is)
    (case f_check_wanted_cd => k_is)
    (case f_check_wanted_kp => k_is)
    (case f_are_stores_cd => k_is)
    (case f_are_stores_kp => k_is)
    (case f__law_cell_cd => k_is)
    (case f__law_cell_kp => k_is)
    (case f__law_pot_cd => k_is)
    (case f__law_pot_kp => k_is)
    (case f__law_take_cd => k_is)
    (case f__law_take_kp => k_is)
    (case f__law_far_cd => k_is)
    (case f__law_far_kp => k_is)
    (case f__law_number_cd => k_is)
    (case f__law_number_kp => k_is)
    (case f__law_boat_cd => k_is)
    (case f__law_boat_kp => k_is)
    (case f__law_name_cd => k_is)
    (case f__law_name_kp => k_is)
    (case f__law_stores_cd => k_is)
    (case f__law_stores_kp => k_is)
    (case f__law_room_cd => k_is)
    (case f__law_room_kp => k_is)
    (case f__law_men_cd => k_is)
    (case f__law_men_kp => k_is)
    (case f__law_heavy_cd => k_is)
    (case f__law_heavy_kp => k_is)
    (case f__law_up_cd => k_is)
    (case f__law_up_kp => k_is)
    (case f__law_fewest_cd => k_is)
    (case f__law_fewest_kp => k_is)
    (case f__law_word_cd => k_is)
    (case f__law_word_kp => k_is)
    (case f__law_told_cd => k_is)
    (case f__law_told_kp => k_is)
    (case f__law_is_whole_cd => k_is)
    (case f__law_is_whole_kp => k_is)
    (case f__law_is_load_cd => k_is)
    (case f__law_is_load_kp => k_is)
    (case f__law_carry_all_cd => k_is)
    (case f__law_carry_all_kp => k_is)
    (case f__law_own_cd => k_is)
    (case f__law_own_kp => k_is)
    (case f__law_looked_cd => k_is)
    (case f__law_looked_kp => k_is)
    (case f__law_turned_cd => k_is)
    (case f__law_turned_kp => k_is)
    (case f_law_cd => k_is)
    (case f_law_kp => k_is)
    (case z_isinstance => k_is)
    (case z_int => k_is)
    (case z_bool => k_is)
    (case z_len => k_is)
    (case z_abs => k_is)
    (case z_max => k_is)
    (case z_min => k_is)
    (case z_divmod => k_is)
    (case z_range => k_is)
    (case z_repr => k_is)
    (case z_zip => k_is)
    (case z_ValueError => k_is)
    (case z_all => k_is)
    (case z_any => k_is)
    (case z_sum => k_is)
    (case z_sorted => k_is)
    (case z_list => k_is)
    (case z_tuple => k_is)
    (case z_dict => k_is)
    (case z_enumerate => k_is)
    (case z_reversed => k_is)
    (case z_str => k_is)
    (case z_set => k_is)
