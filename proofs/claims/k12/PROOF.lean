import PyProof.Rows.All
import Wide.All
import OpenK.AllK
import Wide.FinOn
import HandS.ForMost
import HandS.IsInst
import HandS.Wide
import HandS.WideBits
import HandS.EndBits
import HandS.Style
import HandS.RaiseMore
import PyProof.ReprRoads
import PyProof.ListStr
import HandS.ForExc
import HandS.Exc
import HandS.ExcIs
import HandS.CallSlots
import HandS.HotCalls
import HandS.Defaults
import HandS.MakeKw
import HandS.MakeKwOnly
import PyProof.EqKinds
import PyProof.NeKinds
import KE.KFmtOwn
import HandS.OwnEq
import HandS.Walk
import HandS.FStr
import HandS.Flow
import PySem.Challenge.RW_lightturns_k12_stretches_made
import PyProof.ReprLen
set_option Elab.async false
set_option linter.all false
set_option maxRecDepth 100000
/-! Own layer: defs called where no repr is under way (FnG), repr of data, the end of a law by such a def. -/
namespace LT
open PySem PySem.Spec PyProof.Rows L2

structure FnG (P : Program) (w : World) (K : PySem.W.Frag) (mg : Str → Option Value) (base : Heap)
    (CX : CXT) (k : Nat) (f : Addr) (fd : FuncData) (ps : List Str) (sp : Sp) : Prop where
  argc : ∀ {vs : List V} {H : Hp} {Q : VK} {E : XK}, sp vs H Q E → vs.length = ps.length
  go : ∀ {A : Around} {outer : List Env} {s : Shared} {H : Hp} {args : Args} {us : List Value} {vs : List V}
    {Q : VK} {E : XK}, A.guards = some [] → Room k A → Env0 P w K mg base A outer s H →
    BindsTo s fd args (ps.zip us) → Vals vs us → sp vs H Q E →
    codeAny (model P w) A (.call (.ref f) args) (CR CX outer P w H s Q E) s

section
variable {P : Program} {w : World} {K : PySem.W.Frag} {mg : Str → Option Value} {base : Heap}
theorem FnG.of {CX : CXT} {k : Nat} {f : Addr} {fd : FuncData} {ps : List Str} {sp : Sp}
    (F : FnOk P w K mg base CX k f fd ps sp) : FnG P w K mg base CX k f fd ps sp :=
  ⟨fun h => F.len _ _ _ _ h, fun _ hr e b v h => F.run _ _ _ _ _ _ _ _ _ hr e b v h⟩

theorem okG {x qual : Str} {st : Stmt} {f : Addr} {fd : FuncData} {N ps : List Str} {k : Nat} {sp : Sp}
    (F : Fun K x qual st f fd) (S : FnScope N ps (defScope st))
    (argc : ∀ {vs : List V} {H : Hp} {Q : VK} {E : XK}, sp vs H Q E → vs.length = ps.length)
    (body : ∀ (cdv : Value) (A : Around) (outer : List Env) (s : Shared) (H : Hp) (vs : List V) (Q : VK) (E : XK),
      A.guards = some [] → Room k (A.deeper (envOfC qual (defScope st) s.heap.objs.size f cdv)) → sp vs H Q E →
      ∃ t, PSs (cxOf CX0 P w K mg base N qual (defScope st) f cdv A outer s H E).nox (defBody st) t ∧
        t { nx := fun _ H' => Q .non H', rt := Q } (start N vs) H) :
    FnG P w K mg base CX0 (k + 1) f fd ps sp := by
  obtain ⟨oc, od, kV, doc, pm, an, cdv, ct, osl, rfl, lk, hcd⟩ := F.ex
  refine ⟨argc, ?_⟩
  intro A outer s H args us vs Q E hg hr e0 hb r hsp
  have inS : ∀ b o, base.get? b = some o → s.heap.get? b = some o := fun b o e => (e0.bs b o e).1
  have KX : K.In s.heap := e0.mod.kin.keeps inS
  have hkind : ∀ y ∈ ps.zip us, (defScope st).names.lookup y.1 = some .local ∨
      ((defScope st).names.lookup y.1 = some .cell ∧
        ((cellsFrom (s.heap.objs.size + 1) (defScope st).names []).lookup y.1).isSome = true) := by
    rintro ⟨n, v⟩ hy
    rcases S.par n (List.of_mem_zip hy).1 with q | q
    · exact Or.inl q
    · exact Or.inr ⟨q, PySem.W.cellsFrom_some _ _ _ (Or.inl q)⟩
  refine codeAny_call_function hr.depth (KX _ _ lk) rfl S.co S.gen rfl (PySem.W.codeRec_of KX hcd)
    (hb _ _ _ _ (wpAny_newFunctionEnv_cells S.kind hkind fun env he s1 x => ?_))
  subst he
  refine ⟨(e0.mod.nolimit.keeps inS).keeps x.toInCall.keep, codeAny_func ?_⟩
  obtain ⟨t, ht, hq⟩ := body cdv A outer s H vs Q E hg (hr.deeper _) hsp
  have I := inv_start (CX := CX0) (N := N) (qual := qual) (f := f) (cd := cdv) (E := E) S hr.hd e0 (argc hsp) r x
  refine wpAny_mono (ht.nox.run [] s1 (start N vs) H _ I hq) (fun fl s' hs => ?_) (fun e s' hs => hs)
  cases fl with
  | brk => obtain ⟨_, _, _, q⟩ := hs; exact q.elim
  | cont => obtain ⟨_, _, _, q⟩ := hs; exact q.elim
  | next =>
    obtain ⟨σ', H', J, q⟩ := hs
    exact ⟨V.non, H', J.os, J.bare, J.base, J.hok, rfl, q⟩
  | ret u =>
    obtain ⟨v, σ', H', J, rv, q⟩ := hs
    exact ⟨v, H', J.os, J.bare, J.base, J.hok, rv, q⟩
end

/-! ### the call of such a def -/
section
variable {X : Cx} {CX : CXT} {k : Nat} {f : Addr} {fd : FuncData} {ps : List Str} {sp : Sp} {dvs : List V}
  {ds : List Value} {E : XK} {x : Str} {p pos : Pos} {e : Expr} {es : List Expr} {t : TA}
theorem runG {pins : List (Addr × Obj)} {σ : L2.St} {H : Hp} {s : Shared} {Q : VK} {us : List Value} {vs : List V}
    (F : FnG X.prog X.w X.K X.mg X.base CX k f fd ps sp) (hg : X.A.guards = some []) (hr : Room k X.A)
    (hb : Binds X.K fd ps ds) (hd : Vals dvs ds) (hx : Passes CX X E)
    (I : Inv X pins σ H s) (r : Vals vs us) (h : sp (vs ++ dvs) H Q E) :
    wpAny (model X.prog X.w) X.A (call (.ref f) us) (EP X pins σ Q) X.xe s := by
  have r2 : Vals (vs ++ dvs) (us ++ ds) := r.append hd
  have hl : (us ++ ds).length = ps.length := r2.length.symm.trans (F.argc h)
  refine wpAny_call (codeAny_mono (F.go hg hr I.env0 (hb s us I.kIn hl) r2 h) fun r s' hq => ?_)
  match r, hq with
  | .error e, hq => exact hx pins σ H s e s' I hq
  | .ok (.ret u), hq => exact I.after hq
  | .ok .next, hq => exact hq.elim
  | .ok .brk, hq => exact hq.elim
  | .ok .cont, hq => exact hq.elim
theorem pe_callG (F : FnG X.prog X.w X.K X.mg X.base CX k f fd ps sp) (hG : X.A.guards = some []) (hr : Room k X.A)
    (hg : Gl X x) (hm : X.mg x = some (.ref f)) (hk : PySem.W.keepIn X.K (.ref f) = true) (hb : Binds X.K fd ps ds)
    (hd : Vals dvs ds) (hx : Passes CX X E) (ha : PA X (e :: es) t)
    (hdb : (x == ("__debug__" : Str)) = false := by decide)
    (he : starEach (e :: es) X.env = (false, eval e X.env) :: starEach es X.env := by rfl)
    (hpl : (backTo pos (starEach es X.env)).any (·.1) = false := by rfl) :
    PE X (.Call (.Name x p) (e :: es) [] pos) (tCall sp dvs E t) := by
  refine ⟨fun pins s σ H Q I h => wpAny_Call_Name_kw (ld_glob I hg hm ?_ hdb)⟩
  refine PySem.W.callWith_K (h₀ := X.base) I.ok.mod.kin hk ?_ he hpl
  exact thn (ha.run pos pins s σ H _ I h) fun us s1 ⟨vs, H1, I1, r, q⟩ => ⟨I1.kIn, runG F hG hr hb hd hx I1 r q⟩

/-- f(k = v, ..), keywords alone -/
theorem pe_callKw {ks : List Str} {kws : List Keyword} {tk : TA} {g : List Value → List Value → List Value} {gV : List V → List V → List V}
    (F : FnOk X.prog X.w X.K X.mg X.base CX k f fd ps sp) (hr : Room k X.A) (hg : Gl X x) (hm : X.mg x = some (.ref f))
    (hk : PySem.W.keepIn X.K (.ref f) = true) (hb : KBinds X.K fd ps ks g gV) (hx : Passes CX X E) (hkw : PK X kws tk)
    (hall : (backToKw pos (keywordEach kws X.env)).all (·.1.isSome) = true := by rfl)
    (hks : (backToKw pos (keywordEach kws X.env)).filterMap (·.1) = ks := by rfl)
    (hdb : (x == ("__debug__" : Str)) = false := by decide)
    (hpl : ((backTo pos (starEach [] X.env)).any (·.1) || (backToKw pos (keywordEach kws X.env)).any (·.1.isNone)) = false := by rfl) :
    PE X (.Call (.Name x p) [] kws pos) (tCallK sp gV E tNil tk) := by
  refine ⟨fun pins s σ H Q I h => wpAny_Call_Name_kw (ld_glob I hg hm ?_ hdb)⟩
  refine PySem.W.callWith_KW0 (h₀ := X.base) I.ok.mod.kin hk hall ?_ hpl
  refine thn (hkw.run pos pins s σ H _ I h) fun ws s2 ⟨zs, H2, I2, rz, q2⟩ => ⟨I2.kIn, ?_⟩
  rw [hks]
  exact run_fnk (us := []) F hr hb hx I2 .nil rz q2
/-- positional values, then those of keywords, in the order of the parameters -/
theorem kb_of {K : PySem.W.Frag} {y qual : Str} {st : Stmt} {f : Addr} {fd : FuncData} {ps ks : List Str} (F : Fun K y qual st f fd)
    (h : ∀ (kV doc pm : Value) (an : Option Addr) (cdv ct : Value) (us ws : List Value), (us ++ ws).length = ps.length →
      bindArgs (PySem.W.fnOf y qual (defArgs st) (defBody st) (defScope st) .none kV doc pm an cdv ct) ⟨us, ks.zip ws⟩ = pure (ps.zip (us ++ ws))) :
    KBinds K fd ps ks (· ++ ·) (· ++ ·) := by
  obtain ⟨oc, od, kV, doc, pm, an, cdv, ct, osl, rfl, lk, hcd⟩ := F.ex
  exact ⟨fun s us ws _ hl => .of_eq (h kV doc pm an cdv ct us ws hl), fun r z => r.append z⟩
end

/-! ### repr of data -/
inductive Sh (K : PySem.W.Frag) (H : Hp) : V → PyData → Prop
  | dp {v : V} {d : PyData} : Dp K H v d → d.hasDict = false → Sh K H v d
  | one {a : Addr} {k : Str} {i : Int} : H a = some (.dK [(.inr k, .int i)]) → Sh K H (.ref a) (.dict [(.str k, .int i)])
section
variable {X : Cx} {pins : List (Addr × Obj)} {σ : L2.St} {H : Hp} {s : Shared}
theorem Sh.reads (I : Inv X pins σ H s) {v : V} {d : PyData} {u : Value} (h : Sh X.K H v d) (r : RelV v u) :
    ∃ as, Reads s.heap u d as ∧ (d.hasDict = true → sysModules ∉ as) := by
  cases h with
  | dp h hd =>
    obtain ⟨as, q⟩ := Dp.reads I d v u h r
    exact ⟨as, q, PyData.noDict_hsm hd⟩
  | one h =>
    rename_i a k i
    cases r
    obtain ⟨_, hs, vs, rel, o, es, ep, ho, hx, hd, hko, hp, hn⟩ := I.hok a _ h
    cases rel with
    | cons r1 r2 =>
      cases r2
      rename_i kv
      obtain ⟨kk, uu⟩ := kv
      obtain ⟨e1, t, e2⟩ := r1
      cases e1
      cases e2
      generalize hes : es.toList = l at hp
      cases hp with
      | cons k1 k2 k3 =>
        cases k3
        rename_i e
        have k0 : keyIs (Sum.inr k) e.key = true := k1
        obtain ⟨_, _, z, _⟩ | ⟨y, t', z, e3⟩ := keyIs_shape k0
        · cases z
        · cases z
          refine ⟨_, Reads.dict (as := []) (bs := []) ho hx.1 hd ?_ ?_, fun _ z => ?_⟩
          · rw [hes, List.map_cons, List.map_nil, e3]
            exact ReadsAll.cons (Reads.str _ _) .nil
          · rw [hes, List.map_cons, List.map_nil, k2]
            exact ReadsAll.cons (Reads.int _ _) .nil
          · have z2 : sysModules = a := by simpa using z
            rw [z2] at hs
            simp at hs
theorem call_reprSh (hG : X.A.guards = some []) (hu : X.A.units + 64 < cLine) : CallR X (.builtin "repr")
    (fun xs H Q => ∃ x d, xs = [x] ∧ Sh X.K H x d ∧ d.showable = true ∧ d.depth ≤ 60 ∧ d.shown.length ≤ sizeLine ∧
      Q (.str d.shown) H) := by
  intro pins s σ H xs us Q I r h
  obtain ⟨x, d, rfl, hs, sh, dp, sz, q⟩ := h
  obtain ⟨u, rfl, ru⟩ := vals1 r
  obtain ⟨as, rd, hm⟩ := hs.reads I ru
  cases rd with
  | none => exact PySem.P.repr_of_none ⟨.str _, H, I.tok _, ⟨_, rfl⟩, q⟩
  | bool b => exact PySem.P.repr_of_bool ⟨.str _, H, I.tok _, ⟨_, rfl⟩, q⟩
  | int i t => exact PySem.P.repr_of_int (of_decide_eq_true sh) ⟨.str _, H, I.tok _, ⟨_, rfl⟩, q⟩
  | str y t => exact PySem.P.repr_of_str ⟨.str _, H, I.tok _, ⟨_, rfl⟩, q⟩ sz
  | list h1 h2 h3 h4 =>
    exact repr_of_reads' (.list h1 h2 h3 h4) sh hm hG (by omega) (fun _ _ e => e) (fun h' u tk hk => ⟨.str _, H, I.kept hk, ⟨_, rfl⟩, q⟩) sz
  | tuple h1 h2 h3 h4 =>
    exact repr_of_reads' (.tuple h1 h2 h3 h4) sh hm hG (by omega) (fun _ _ e => e) (fun h' u tk hk => ⟨.str _, H, I.kept hk, ⟨_, rfl⟩, q⟩) sz
  | dict h1 h2 h3 h4 h5 =>
    exact repr_of_reads' (.dict h1 h2 h3 h4 h5) sh hm hG (by omega) (fun _ _ e => e) (fun h' u tk hk => ⟨.str _, H, I.kept hk, ⟨_, rfl⟩, q⟩) sz
end

/-! ### text * number, list(text) -/
section
variable {X : Cx}
theorem rep_list (a : Array Nat) : ∀ (n : Nat) (acc : Array Nat),
    ((List.replicate n a).foldl (· ++ ·) acc).toList = acc.toList ++ (List.replicate n a.toList).flatten
  | 0, acc => by simp
  | n + 1, acc => by
    rw [List.replicate_succ, List.foldl_cons, rep_list a n, List.replicate_succ, List.flatten_cons, Array.toList_append, List.append_assoc]
theorem rep_len (a : Str) (n : Nat) : (Str.mk ((List.replicate n a.cps).foldl (· ++ ·) #[])).length = n * a.length := by
  show Array.size _ = n * a.cps.size
  rw [← Array.length_toList, rep_list]
  simp [List.sum_replicate_nat]
theorem op_mul_str : OpR X (binaryOp .Mult) (fun x y H Q => ∃ (a : Str) (n : Int), x = .str a ∧ y = .int n ∧ 2 ≤ n ∧ n ≤ 1000 ∧ 1 ≤ a.length ∧ a.length ≤ 1000 ∧
    Q (.str ⟨(List.replicate n.toNat a.cps).foldl (· ++ ·) #[]⟩) H) := by
  intro pins s σ H x y v u Q I rx ry h
  obtain ⟨a, n, rfl, rfl, h2, hn, h1, ha, q⟩ := h
  obtain ⟨t, rfl⟩ := rx
  obtain ⟨t', rfl⟩ := ry
  have hz : a.length * n.toNat ≤ 1000000 := Nat.le_trans (Nat.mul_le_mul ha (show n.toNat ≤ 1000 by omega)) (by decide)
  refine PySem.P.mul_str ?_ (fun _ _ => ?_) (fun _ _ => ?_) ?_
  · rw [decide_eq_false (by omega), decide_eq_false (by omega)]
    rfl
  · have h3 : (1000 : Int) ≤ (2 ^ 63 - 1) / n := by
      rw [Int.le_ediv_iff_mul_le (by omega)]
      omega
    omega
  · exact decide_eq_false (by rw [sizeLine_eq]; omega)
  · rw [if_neg (by omega), if_neg]
    · refine ⟨?_, .str _, H, I.tok _, ⟨_, rfl⟩, q⟩
      rw [rep_len, sizeLine_eq, Nat.mul_comm]
      omega
    · rw [Bool.or_eq_true, beq_iff_eq, beq_iff_eq]
      omega
theorem paired_of {α β : Type} {R : α → β → Prop} : ∀ {xs : List α} {ys : List β}, xs.length = ys.length →
    (∀ (j : Nat) x y, xs[j]? = some x → ys[j]? = some y → R x y) → Paired R xs ys
  | [], [], _, _ => .nil
  | [], _ :: _, h, _ => by cases h
  | _ :: _, [], h, _ => by cases h
  | x :: xs, y :: ys, h, f => .cons (f 0 x y rfl rfl) (paired_of (Nat.succ.inj h) fun j a b h1 h2 => f (j + 1) a b h1 h2)
theorem call_list_txt (hc : X.calm = true) : CallR X (.type "list") (fun xs H Q => ∃ (a : Str), xs = [.str a] ∧ a.length ≤ sizeLine ∧
    ∀ l, H l = none → Q (.ref l) (upd H l (.lst (a.cps.toList.map fun c => V.str ⟨#[c]⟩)))) := by
  intro pins s σ H xs us Q I r h
  obtain ⟨a, rfl, hl, q⟩ := h
  obtain ⟨u, rfl, t, rfl⟩ := vals1 r
  refine call_list_str (I.ok.hd hc) a t (hn := hl) fun h' tk acc c hk ho hit => ?_
  have hn : H s.heap.objs.size = none := I.hok.fresh (Nat.le_refl _)
  refine ⟨.ref s.heap.objs.size, _, I.laid (t' := tk) hk (Nat.le_refl _) ?_, rfl, q _ hn⟩
  refine ⟨?_, acc.toList, c, ?_, by simpa using ho⟩
  · rw [List.length_map, Array.length_toList]
    exact hl
  · refine paired_of (by rw [List.length_map, Array.length_toList, Array.length_toList, hit.1]) fun j v u h1 h2 => ?_
    rw [List.getElem?_map, Array.getElem?_toList] at h1
    obtain ⟨d, t', h3, rfl⟩ := hit.2 j u (by rw [← Array.getElem?_toList]; exact h2)
    rw [h3] at h1
    cases h1
    exact ⟨t', rfl⟩
end

/-! ### the end of a law whose def wants that no repr is under way -/
theorem end_call {P : Program} {w : World} {K : PySem.W.Frag} {mg mb : Str → Option Value} {CX : CXT} {k : Nat} {fa a : Addr}
    {fd : FuncData} {x : Str} {sp : Sp} {s₁ : Shared} {vs : List Value} {ns : List Int}
    (KX : K.In s₁.heap) (hns : s₁.heap.Ns mainGlobals mg) (hb : s₁.heap.Ns builtinsNs mb)
    (hbb : ∀ x : Str, x ≠ "__name__" → mb x = bootBuiltins x) (hlim : s₁.heap.NoLimit) (hg : s₁.gens = #[])
    (ha : s₁.heap.get? a = some { cls := .type "list", data := .seq vs.toArray }) (hi : IntsAre vs ns)
    (hl : ns.length ≤ sizeLine) (hr : Room k callerA)
    (F : ∀ base : Heap, K.In base → base.Ns mainGlobals mg → FnG P w K mg base CX k fa fd [x] sp)
    (hbind : ∀ (s : Shared) (u : Value), BindsTo s fd ⟨[u], []⟩ [(x, u)])
    (hsp : ∀ H : Hp, Only H → SqL K H a (ns.map V.int) → sp [.ref a] H (fun v _ => v = .bl true) fun _ _ _ => False)
    (hCX : ∀ H e s', CX [] H s₁ (fun _ _ _ => False) e s' → False) :
    codeAny (model P w) callerA (.call (.ref fa) ⟨[.ref a], []⟩)
      (fun r s' => r = .ok (.ret (.bool true)) ∧ OldK s₁.heap s'.heap ∧ s'.os = s₁.os ∧ AllBare s'.gens) s₁ := by
  have lenV := hi.length
  have start : ∀ H : Hp, Only H → SqL K H a (ns.map V.int) → HOk P w H s₁.heap → (∀ b, H b ≠ none → b = a) →
      (H a ≠ none → K.lookup a = none) → codeAny (model P w) callerA (.call (.ref fa) ⟨[.ref a], []⟩)
        (fun r s' => r = .ok (.ret (.bool true)) ∧ OldK s₁.heap s'.heap ∧ s'.os = s₁.os ∧ AllBare s'.gens) s₁ := by
    intro H hO hS hok hA hK
    have free : ∀ {b : Addr}, (b = a → False) → H b = none := fun {b} hne => by
      cases q : H b with
      | none => rfl
      | some u => exact (hne (hA b (by rw [q]; exact Option.some_ne_none u))).elim
    have nsK : ∀ {b : Addr} {m : Str → Option Value}, s₁.heap.Ns b m → (hidT s₁.heap H).Ns b m := by
      rintro b m ⟨o, es, ep, e, d, r⟩
      refine ⟨o, es, ep, hidT_get e (free fun z => ?_), d, r⟩
      subst z
      rw [ha] at e
      cases e
      cases d
    have inK : K.In (hidT s₁.heap H) := fun b o e => hidT_get (KX b o e) (by
      cases q : H b with
      | none => rfl
      | some u =>
        obtain rfl : b = a := hA b (by rw [q]; exact Option.some_ne_none u)
        have z := hK (by rw [q]; exact Option.some_ne_none u)
        rw [z] at e
        cases e)
    have hM : Mod K mg (hidT s₁.heap H) := ⟨inK, nsK hns, ⟨mb, nsK hb, hbb⟩, hlim.imp fun _ z => ⟨nsK z.1, z.2⟩⟩
    have e0 : Env0 P w K mg (hidT s₁.heap H) callerA [] s₁ H :=
      ⟨rfl, hM, fun b o e => of_hidT e, Nat.le_of_eq (hidT_size _ _), trivial,
        fun b z => absurd (show b ∈ ([] : List Addr) from z) List.not_mem_nil, hok, .of_eq hg⟩
    refine codeAny_mono ((F _ inK (nsK hns)).go (us := [.ref a]) (vs := [.ref a]) rfl hr e0 (hbind s₁ (.ref a)) (.cons rfl .nil) (hsp H hO hS)) fun r s' h => ?_
    match r, h with
    | .error e, h => exact (hCX H e s' h).elim
    | .ok .next, h => exact h.elim
    | .ok .brk, h => exact h.elim
    | .ok .cont, h => exact h.elim
    | .ok (.ret u), h =>
      obtain ⟨v, H', os, bare, un, hok', r', rfl⟩ := h
      obtain rfl : u = Value.bool true := r'
      refine ⟨rfl, OldK.of_keep fun b o e => ?_, os, bare⟩
      rcases hO b with z | ⟨ob, xs, z⟩
      · exact un.keep b o e z (fun y => absurd (show b ∈ ([] : List Addr) from y) List.not_mem_nil) List.not_mem_nil
      · have z1 := (hok b _ z).1
        rw [e] at z1
        cases z1
        exact (hok' b _ (un.frzs b _ _ z)).1
  cases hk : K.lookup a with
  | some o =>
    have e := KX a o hk
    rw [ha] at e
    cases e
    refine start (fun _ => none) (fun _ => .inl rfl) (.inr ⟨_, vs.toArray, _, hk, rfl, rfl, rfl, ?_, by simpa using vals_ints hi⟩)
      (fun b u z => nomatch z) (fun b z => absurd rfl z) fun z => absurd rfl z
    rw [List.size_toArray, lenV]
    exact hl
  | none =>
    refine start (upd (fun _ => none) a (.frz { cls := .type "list", data := .seq vs.toArray } (.lst (ns.map V.int))))
      (fun b => ?_) (.inl (.inr ⟨_, upd_same⟩)) (fun b u z => ?_) (fun b z => ?_) fun _ => hk
    · by_cases q : b = a
      · exact .inr ⟨_, _, by rw [q]; exact upd_same⟩
      · exact .inl (upd_ne q)
    · by_cases q : b = a
      · subst q
        rw [upd_same] at z
        cases z
        exact ⟨ha, by rw [List.length_map]; exact hl, vs, _, vals_ints hi, ha⟩
      · rw [upd_ne q] at z
        cases z
    · by_cases q : b = a
      · exact q
      · exact absurd (upd_ne q) z

theorem end_of {l : PySem.W.OpenLaw} {n k : Nat} {q : Program} {loose : List Str} {XP : (Str → Option Value) → Heap → Prop}
    {YP : World → Heap → Prop} {d : DefRec} {K : Params → PySem.W.Frag} {CX : World → CXT} {sp : World → Sp} {x : Str}
    (hn : l.most = some n) (hn2 : n ≤ sizeLine) (hdf : d.params.defaults = []) (hr : Room k callerA)
    (hY : ∀ (w : World) (h : Heap), YP w h → (K w.params).In h)
    (F : ∀ (w : World) (mg : Str → Option Value) (fa : Addr) (h : Heap), (K w.params).In h → h.Ns mainGlobals mg →
      mg d.name = some (.ref fa) → ∃ fd : FuncData, (∀ (s : Shared) (u : Value), BindsTo s fd ⟨[u], []⟩ [(x, u)]) ∧
        ∀ base : Heap, (K w.params).In base → base.Ns mainGlobals mg →
          FnG l.prog w (K w.params) mg base (CX w) k fa fd [x] (sp w))
    (hsp : ∀ (w : World) (H : Hp) (a : Addr) (ns : List Int), ns.length ≤ n →
      (∀ z ∈ ns, Builtin.Int.intBits z ≤ 1048576) → Only H → SqL (K w.params) H a (ns.map V.int) →
      sp w [.ref a] H (fun v _ => v = .bl true) fun _ _ _ => False)
    (hCX : ∀ (w : World) (H : Hp) (s : Shared) (e : Value) (s' : Shared), CX w [] H s (fun _ _ _ => False) e s' → False) :
    PySem.W.WalkO q loose XP YP l.row.toRowW d [] (fun f vs => PySem.call f vs) :=
  Att.attach_callB hn hdf fun w _ s₁ mg mb fa o pm cd doc a vs ns G Y ho hd hcd hmg hobj hints hlen hbits hg => by
    obtain ⟨fd, hb, hF⟩ := F w mg fa _ (hY w _ Y) G.T.g hmg
    exact end_call (hY w _ Y) G.T.g G.T.b G.T.builtins G.T.nolimit hg hobj hints (Nat.le_trans hlen hn2) hr hF hb
      (fun H hO hS => hsp w H a ns hlen hbits hO hS) fun H e s' => hCX w H s₁ e s'
end LT

set_option Elab.async false
set_option linter.all false
set_option maxRecDepth 100000
/-! Own layer: a def to which the caught error is handed; isinstance of it there. -/
namespace LT
open PySem PySem.Spec PyProof.Rows L2
/-- as FnOk, called within an except suite; p is the caught error, which the promise may name -/
structure FnE (P : Program) (w : World) (K : PySem.W.Frag) (mg : Str → Option Value) (base : Heap)
    (k : Nat) (f : Addr) (fd : FuncData) (ps : List Str) (sp : Addr × Obj → Sp) : Prop where
  argc : ∀ {p : Addr × Obj} {vs : List V} {H : Hp} {Q : VK} {E : XK}, sp p vs H Q E → vs.length = ps.length
  go : ∀ {A : Around} {outer : List Env} {s : Shared} {H : Hp} {args : Args} {us : List Value} {vs : List V}
    {Q : VK} {E : XK} {p : Addr × Obj}, L2H.RoomH k A → L2H.PinOk outer H s p → Env0 P w K mg base A outer s H →
    BindsTo s fd args (ps.zip us) → Vals vs us → sp p vs H Q E →
    codeAny (model P w) A (.call (.ref f) args) (CR CX0 outer P w H s Q E) s
section
variable {P : Program} {w : World} {K : PySem.W.Frag} {mg : Str → Option Value} {base : Heap}
theorem okE {x qual : Str} {st : Stmt} {f : Addr} {fd : FuncData} {N ps : List Str} {k : Nat} {sp : Addr × Obj → Sp}
    (F : Fun K x qual st f fd) (S : FnScope N ps (defScope st))
    (argc : ∀ {p : Addr × Obj} {vs : List V} {H : Hp} {Q : VK} {E : XK}, sp p vs H Q E → vs.length = ps.length)
    (body : ∀ (cdv : Value) (A : Around) (outer : List Env) (s : Shared) (H : Hp) (vs : List V) (Q : VK) (E : XK) (p : Addr × Obj),
      L2H.RoomH k (A.deeper (envOfC qual (defScope st) s.heap.objs.size f cdv)) → sp p vs H Q E →
      ∃ t, PSs (L2H.cxH CX0 P w K mg base N qual (defScope st) f cdv A outer s H E p).nox (defBody st) t ∧
        t { nx := fun _ H' => Q .non H', rt := Q } (start N vs) H) :
    FnE P w K mg base (k + 1) f fd ps sp := by
  obtain ⟨oc, od, kV, doc, pm, an, cdv, ct, osl, rfl, lk, hcd⟩ := F.ex
  refine ⟨argc, ?_⟩
  intro A outer s H args us vs Q E p hr hpin e0 hb r hsp
  have inS : ∀ b o, base.get? b = some o → s.heap.get? b = some o := fun b o e => (e0.bs b o e).1
  have KX : K.In s.heap := e0.mod.kin.keeps inS
  have hkind : ∀ y ∈ ps.zip us, (defScope st).names.lookup y.1 = some .local ∨
      ((defScope st).names.lookup y.1 = some .cell ∧
        ((cellsFrom (s.heap.objs.size + 1) (defScope st).names []).lookup y.1).isSome = true) := by
    rintro ⟨n, v⟩ hy
    rcases S.par n (List.of_mem_zip hy).1 with q | q
    · exact Or.inl q
    · exact Or.inr ⟨q, PySem.W.cellsFrom_some _ _ _ (Or.inl q)⟩
  refine codeAny_call_function hr.depth (KX _ _ lk) rfl S.co S.gen rfl (PySem.W.codeRec_of KX hcd)
    (hb _ _ _ _ (wpAny_newFunctionEnv_cells S.kind hkind fun env he s1 x => ?_))
  subst he
  refine ⟨(e0.mod.nolimit.keeps inS).keeps x.toInCall.keep, codeAny_func ?_⟩
  obtain ⟨t, ht, hq⟩ := body cdv A outer s H vs Q E p (hr.deeper _) hsp
  have I := L2H.inv_startH (CX := CX0) (N := N) (qual := qual) (f := f) (cd := cdv) (E := E) S hpin e0 (argc hsp) r x
  refine wpAny_mono (ht.nox.run [] s1 (start N vs) H _ I hq) (fun fl s' hs => ?_) (fun e s' hs => hs)
  cases fl with
  | brk => obtain ⟨_, _, _, q⟩ := hs; exact q.elim
  | cont => obtain ⟨_, _, _, q⟩ := hs; exact q.elim
  | next =>
    obtain ⟨σ', H', J, q⟩ := hs
    exact ⟨V.non, H', J.os, J.bare, J.base, J.hok, rfl, q⟩
  | ret u =>
    obtain ⟨v, σ', H', J, rv, q⟩ := hs
    exact ⟨v, H', J.os, J.bare, J.base, J.hok, rv, q⟩
end
section
variable {X : Cx} {k : Nat} {f : Addr} {fd : FuncData} {ps : List Str} {sp : Addr × Obj → Sp} {x : Str} {q pos : Pos} {e : Expr}
  {es : List Expr} {t : TA} {p : Addr × Obj}
/-- the call of such a def, where p is pinned -/
def tCallE (p : Addr × Obj) (sp : Addr × Obj → Sp) (t : TA) : TE := fun σ H Q => t σ H fun vs H1 => sp p vs H1 Q E0
theorem pe_callE (F : FnE X.prog X.w X.K X.mg X.base k f fd ps sp) (hr : L2H.RoomH k X.A) (hp : p ∈ X.pn) (hg : Gl X x)
    (hm : X.mg x = some (.ref f)) (hk : PySem.W.keepIn X.K (.ref f) = true) (hb : L2.Binds X.K fd ps []) (ha : PA X (e :: es) t)
    (hdb : (x == ("__debug__" : Str)) = false := by decide)
    (he : starEach (e :: es) X.env = (false, eval e X.env) :: starEach es X.env := by rfl)
    (hpl : (backTo pos (starEach es X.env)).any (·.1) = false := by rfl) :
    PE X (.Call (.Name x q) (e :: es) [] pos) (tCallE p sp t) := by
  refine ⟨fun pins s σ H Q I h => wpAny_Call_Name_kw (ld_glob I hg hm ?_ hdb)⟩
  refine PySem.W.callWith_K (h₀ := X.base) I.ok.mod.kin hk ?_ he hpl
  refine thn (ha.run pos pins s σ H _ I h) fun us s1 ⟨vs, H1, I1, r, h1⟩ => ⟨I1.kIn, ?_⟩
  have hl : (us ++ []).length = ps.length := by
    rw [List.append_nil, ← r.length]
    exact F.argc h1
  have b := hb s1 us I1.kIn hl
  rw [List.append_nil] at b
  obtain ⟨p1, p2, p3, p4, p5⟩ := I1.pin p (List.mem_append_left _ hp)
  have pin : L2H.PinOk X.stack H1 s1 p := ⟨p1, p2, fun z => (List.mem_cons.mp (I1.stkSub p.1 z)).elim p3 p4, p5⟩
  refine wpAny_call (codeAny_mono (F.go hr pin I1.env0 b r h1) fun r s' hq => ?_)
  match r, hq with
  | .error _, hq => exact hq.elim
  | .ok (.ret u), hq => exact I1.after hq
  | .ok .next, hq => exact hq.elim
  | .ok .brk, hq => exact hq.elim
  | .ok .cont, hq => exact hq.elim
end
section
variable {X : Cx} {k : Nat} {f a : Addr} {oe : Obj} {cls : Value} {d : Option Addr} {fd : FuncData} {ps : List Str} {sp : Addr × Obj → Sp} {x : Str} {q pos : Pos} {e : Expr}
  {es : List Expr} {t : TA} {pn : List (Addr × Obj)}
/-- .. in an except suite; its reading names the error by its class and dict alone -/
def tCallZ (a : Addr) (cls : Value) (d : Option Addr) (sp : Addr × Obj → Sp) (t : TA) : TE := fun σ H Q => t σ H fun vs H1 =>
  ∀ oe : Obj, Zc cls d oe → (∃ vs, oe.data = .fields vs) → sp (a, oe) vs H1 Q E0
theorem pe_callZ (F : FnE X.prog X.w X.K X.mg X.base k f fd ps sp) (hr : Room k X.A) (hz : Zc cls d oe) (hf : ∃ vs, oe.data = .fields vs) (hg : Gl X x)
    (hm : X.mg x = some (.ref f)) (hk : PySem.W.keepIn X.K (.ref f) = true) (hb : L2.Binds X.K fd ps []) (ha : PA (X.suite a ((a, oe) :: pn)) (e :: es) t)
    (hdb : (x == ("__debug__" : Str)) = false := by decide)
    (he : starEach (e :: es) X.env = (false, eval e X.env) :: starEach es X.env := by rfl)
    (hpl : (backTo pos (starEach es X.env)).any (·.1) = false := by rfl) :
    PE (X.suite a ((a, oe) :: pn)) (.Call (.Name x q) (e :: es) [] pos) (tCallZ a cls d sp t) := by
  refine ⟨fun pins s σ H Q I h => ?_⟩
  have h2 : t σ H fun vs H1 => (fun vs H1 => ∀ oe : Obj, Zc cls d oe → (∃ vs, oe.data = .fields vs) → sp (a, oe) vs H1 Q E0) vs H1 := h
  refine (wpAny_Call_Name_kw (ld_glob (X := X.suite a ((a, oe) :: pn)) I hg hm ?_ hdb))
  refine PySem.W.callWith_K (h₀ := X.base) I.ok.mod.kin hk ?_ he hpl
  refine thn (ha.run pos pins s σ H _ I h2) fun us s1 ⟨vs, H1, I1, r, h1⟩ => ⟨I1.kIn, ?_⟩
  have h1 := h1 oe hz hf
  have hl : (us ++ []).length = ps.length := by
    rw [List.append_nil, ← r.length]
    exact F.argc h1
  have b := hb s1 us I1.kIn hl
  rw [List.append_nil] at b
  obtain ⟨p1, p2, p3, p4, p5⟩ := I1.pin (a, oe) (List.mem_append_left _ List.mem_cons_self)
  have pin : L2H.PinOk X.stack H1 s1 (a, oe) := ⟨p1, p2, fun z => (List.mem_cons.mp (I1.stkSub a z)).elim p3 p4, p5⟩
  refine wpAny_call (codeAny_mono (F.go (A := X.A.mark (some (.ref a))) ⟨hr.dp, hr.un⟩ pin I1.env0 b r h1) fun r s' hq => ?_)
  match r, hq with
  | .error _, hq => exact hq.elim
  | .ok (.ret u), hq => exact I1.after hq
  | .ok .next, hq => exact hq.elim
  | .ok .brk, hq => exact hq.elim
  | .ok .cont, hq => exact hq.elim
end
/-! ### isinstance of the pinned error -/
section
variable {X : Cx} {a D : Addr} {oe : Obj}
theorem pinned_at {pins : List (Addr × Obj)} {σ : L2.St} {H : Hp} {s : Shared} (I : Inv X pins σ H s) (hp : (a, oe) ∈ X.pn) (hz : Zc (.ref D) none oe)
    (hf : ∃ vs, oe.data = .fields vs) : PySem.W.InstAt s.heap a oe D none := by
  obtain ⟨hget, _⟩ := I.pin (a, oe) (List.mem_append_left _ hp)
  obtain ⟨vs, hv⟩ := hf
  obtain ⟨oc, od, oda, osl⟩ := oe
  obtain ⟨h1, h2⟩ := hz
  dsimp only at h1 h2 hv
  subst h1 h2 hv
  exact ⟨hget, rfl, rfl, trivial⟩
theorem call_isP (hp : (a, oe) ∈ X.pn) (C : ExcC X.K D) (hz : Zc (.ref D) none oe) (hf : ∃ vs, oe.data = .fields vs) :
    CallR X (.builtin "isinstance") (fun xs H Q => ∃ (c : V) (cv : Value) (b : Bool), xs = [.ref a, c] ∧ ClsV c cv ∧ PySem.W.kitOne X.K (.ref D) cv = some b ∧ Q (.bl b) H) := by
  intro pins s σ H xs us Q I r h
  obtain ⟨c, cv, b, rfl, hc, e, q⟩ := h
  obtain ⟨u1, u2, rfl, r1, r2⟩ := vals2 r
  have e2 := hc.eq r2
  subst e2
  cases r1
  exact PySem.W.kia_one (PySem.W.handS_kitx_exc C.hg C.hk C.hs C.hd C.ha C.hn C.ht C.hm) I.kIn (pinned_at I hp hz hf) e (fun z => nomatch z)
    fun tk => ⟨.bl b, H, I.tok tk, rfl, q⟩
theorem call_isPT (hp : (a, oe) ∈ X.pn) (C : ExcC X.K D) (hz : Zc (.ref D) none oe) (hf : ∃ vs, oe.data = .fields vs) :
    CallR X (.builtin "isinstance") (fun xs H Q => ∃ (tp : Addr) (cs : List V) (us : List Value) (b : Bool), xs = [.ref a, .ref tp] ∧ H tp = some (.tup cs) ∧ Paired ClsV cs us ∧
      PySem.W.kitAny X.K (.ref D) us = some b ∧ Q (.bl b) H) := by
  intro pins s σ H xs us Q I r h
  obtain ⟨tp, cs, ws, b, rfl, hT, k, e, q⟩ := h
  obtain ⟨u1, u2, rfl, r1, r2⟩ := vals2 r
  cases r1
  cases (show u2 = Value.ref tp from r2)
  obtain ⟨_, its, rv, o, h1, h2, n, h3⟩ := (show ObjOk X.prog X.w H s.heap tp (.tup cs) from I.hok tp _ hT)
  have e3 := ClsV.all k rv
  subst e3
  obtain ⟨oc, od, dt, sl⟩ := o
  simp only at h2 h3
  subst h2 h3
  exact PySem.W.kia_tup (PySem.W.handS_kitx_exc C.hg C.hk C.hs C.hd C.ha C.hn C.ht C.hm) I.kIn (pinned_at I hp hz hf) h1 e (fun z => nomatch z)
    fun tk => ⟨.bl b, H, I.tok tk, rfl, q⟩
end
end LT

set_option Elab.async false
set_option linter.all false
set_option maxRecDepth 100000
/-! Own layer: ==, != of instances of a class with its own __eq__; repr, str of such; a method called by keywords. -/
namespace LT
open PySem PySem.Spec PyProof.Rows L2
section
variable {M : Model} {A : Around} {E : Value → Shared → Prop} {s : Shared} {Q : Value → Shared → Prop} {K : PySem.W.Frag} {y C dy : Addr}
open AutoSeq1 (wpAny_loadPart')
theorem int_dec (b : Int) (u : Tok) (y C dy : Addr) :
    Meets (Builtin.«int.__eq__» ⟨[.int b u, .ref y], []⟩) (fun _ R s => s.heap.get? y = some (PySem.W.instObj C dy) ∧ R (.ok (.ret .notImplemented)) s) :=
  .of_wp fun prog w A R s h => by
    obtain ⟨hp, g, d, tk, os⟩ := s
    obtain ⟨hl, h⟩ := h
    wp_walk using wpAny_loadPart' hl, wpAny_load hl
    exact ⟨_, rfl, h⟩
theorem bool_dec (b : Bool) (y C dy : Addr) :
    Meets (Builtin.«int.__eq__» ⟨[.bool b, .ref y], []⟩) (fun _ R s => s.heap.get? y = some (PySem.W.instObj C dy) ∧ R (.ok (.ret .notImplemented)) s) :=
  .of_wp fun prog w A R s h => by
    obtain ⟨hp, g, d, tk, os⟩ := s
    obtain ⟨hl, h⟩ := h
    wp_walk using wpAny_loadPart' hl, wpAny_load hl
    exact ⟨_, rfl, h⟩
theorem str_dec (b : Str) (u : Tok) (y C dy : Addr) :
    Meets (Builtin.«str.__eq__» ⟨[.str b u, .ref y], []⟩) (fun _ R s => s.heap.get? y = some (PySem.W.instObj C dy) ∧ R (.ok (.ret .notImplemented)) s) :=
  .of_wp fun prog w A R s h => by
    obtain ⟨hp, g, d, tk, os⟩ := s
    obtain ⟨hl, h⟩ := h
    wp_walk using wpAny_loadPart' hl, wpAny_load hl
    exact ⟨_, rfl, h⟩
theorem list_dec {K : PySem.W.Frag} (l y C dy : Addr) (hsub : PySem.W.subIn K (.ref C) (.type "list") = some false) :
    Meets (Builtin.«list.__eq__» ⟨[.ref l, .ref y], []⟩) (fun _ R s => K.In s.heap ∧ s.heap.get? y = some (PySem.W.instObj C dy) ∧ (∃ o, s.heap.get? l = some o ∧ o.cls = .type "list") ∧ R (.ok (.ret .notImplemented)) s) :=
  .of_wp fun prog w A R s h => by
    obtain ⟨hp, g, d, tk, os⟩ := s
    obtain ⟨X, hl, ⟨o, ho, hc⟩, h⟩ := h
    have f1 := PySem.W.looks_subIn (M := model prog w) X hsub
    have f2 : ∀ {A' : Around} {Q' : Bool → Shared → Prop} {E' : Value → Shared → Prop}, Q' false ⟨hp, g, d, tk, os⟩ →
        wpAny (model prog w) A' (isInstance (.ref y) (.type "list")) Q' E' ⟨hp, g, d, tk, os⟩ := fun {A' Q' E'} q =>
      wpAny_bind (wpAny_typeOf_ref hl (f1.here q))
    wp_walk using f2
    exact ⟨_, rfl, h⟩
theorem tuple_dec {K : PySem.W.Frag} (l y C dy : Addr) (hsub : PySem.W.subIn K (.ref C) (.type "tuple") = some false) :
    Meets (Builtin.«tuple.__eq__» ⟨[.ref l, .ref y], []⟩) (fun _ R s => K.In s.heap ∧ s.heap.get? y = some (PySem.W.instObj C dy) ∧ (∃ o, s.heap.get? l = some o ∧ o.cls = .type "tuple") ∧ R (.ok (.ret .notImplemented)) s) :=
  .of_wp fun prog w A R s h => by
    obtain ⟨hp, g, d, tk, os⟩ := s
    obtain ⟨X, hl, ⟨o, ho, hc⟩, h⟩ := h
    have f1 := PySem.W.looks_subIn (M := model prog w) X hsub
    have f2 : ∀ {A' : Around} {Q' : Bool → Shared → Prop} {E' : Value → Shared → Prop}, Q' false ⟨hp, g, d, tk, os⟩ →
        wpAny (model prog w) A' (isInstance (.ref y) (.type "tuple")) Q' E' ⟨hp, g, d, tk, os⟩ := fun {A' Q' E'} q =>
      wpAny_bind (wpAny_typeOf_ref hl (f1.here q))
    wp_walk using f2
    exact ⟨_, rfl, h⟩
end
section
variable {prog : Program} {w : World} {A : Around} {E : Value → Shared → Prop} {s : Shared} {Q : Value → Shared → Prop} {K : PySem.W.Frag}
  {y C f : Addr} {oy : Obj} {od : Option Obj} {a : Value} {T id : String}
/-- a thing of a built-in type on the left, which declines; the own __eq__ of the right one is asked -/
theorem rc_eq_refl (X : K.In s.heap) (I : PySem.W.InstAt s.heap y oy C od) (ha : s.TypeIs a T) (hsub : PySem.W.subIn K (.ref C) (.type T) = some false)
    (h1 : Slot T "__eq__" id) (hc1 : ∀ Q' : Value → Shared → Prop, Q' .notImplemented s → wpAny (model prog w) A (call (.builtin id) [a, .ref y]) Q' E s)
    (hs : PySem.W.findIn K (.ref C) "__eq__" = some (some (.ref f))) (hf : PySem.W.isFn K (.ref f) = true) (hu : A.units < cLine)
    (h : wpAny (model prog w) A (call (.ref f) [.ref y, a]) (PySem.W.CmpBack Q) E s) :
    wpAny (model prog w) A (richCompare .Eq a (.ref y)) Q E s := by
  have two : wpAny (model prog w) A (tryCompare (.ref y) "__eq__" a) (fun r s' => ∃ v, r = some v ∧ Q v s') E s := by
    unfold tryCompare
    refine wpAny_bind (PySem.W.ifBound_K X I hs hf (wpAny_mono h (fun v s' hv => ?_) fun _ _ e => e))
    cases v <;> first | exact hv.elim | exact wpAny_pure ⟨_, rfl, hv⟩
  simp only [richCompare, ha.oneThing_none, cmpInfo]
  refine wpAny_holding (wpAny_bind (wpAny_cRoomFor hu ?_))
  refine wpAny_bind (wpAny_typeOf ha (wpAny_bind (I.type.here ?_)))
  rw [if_pos (show (Value.type T != Value.ref C) = true by simp)]
  refine wpAny_bind ((PySem.W.looks_subIn X hsub).here ?_)
  simp only [Bool.false_eq_true, if_false, Bool.not_false, if_true]
  refine wpAny_bind (m := tryCompare a _ (.ref y)) (wpAny_tryCompare_declines ha h1 (hc1 _ ⟨rfl, ?_⟩))
  refine wpAny_bind (m := tryCompare (.ref y) _ a) (wpAny_mono two (fun r s' z => ?_) fun _ _ e => e)
  obtain ⟨v, rfl, hq⟩ := z
  exact wpAny_pure hq
end

/-! ### == by an own __eq__ -/
/-- what the class says of its __eq__ -/
structure EqC (K : PySem.W.Frag) (C f : Addr) : Prop where
  eq : PySem.W.findIn K (.ref C) "__eq__" = some (some (.ref f))
  fn : PySem.W.isFn K (.ref f) = true
  ne : PySem.W.findIn K (.ref C) "__ne__" = some (some (.builtin "object.__ne__"))
  ob : PySem.W.mroIn K C (.type "object") = some true
  sN : PySem.W.subIn K (.ref C) (.type "NoneType") = some false
  sB : PySem.W.subIn K (.ref C) (.type "bool") = some false
  sI : PySem.W.subIn K (.ref C) (.type "int") = some false
  sS : PySem.W.subIn K (.ref C) (.type "str") = some false
  sL : PySem.W.subIn K (.ref C) (.type "list") = some false
  sT : PySem.W.subIn K (.ref C) (.type "tuple") = some false
/-- a thing beside an instance of C -/
inductive Beside (K : PySem.W.Frag) (C : Addr) (H : Hp) : V → Prop
  | non : Beside K C H .non
  | bl (b : Bool) : Beside K C H (.bl b)
  | int (i : Int) : Beside K C H (.int i)
  | str (z : Str) : Beside K C H (.str z)
  | lst {a : Addr} {xs : List V} : H a = some (.lst xs) → Beside K C H (.ref a)
  | tup {a : Addr} {xs : List V} : H a = some (.tup xs) → Beside K C H (.ref a)
  | ins {a dx : Addr} {fs : List (Str × V)} : H a = some (.ins C dx fs) → Beside K C H (.ref a)
section
variable {X : Cx} {C f : Addr} {fd : FuncData} {ps : List Str} {sp : Sp} {n : Nat}
theorem run_eq {A : Around} {pins : List (Addr × Obj)} {σ : L2.St} {H : Hp} {s : Shared} {Q : VK} {v : V} {u : Value} {a : Addr}
    (F : FnOk X.prog X.w X.K X.mg X.base CX0 n f fd ps sp) (sb : L2.Sub X n A) (hb : L2.Binds X.K fd ps []) (I : Inv X pins σ H s) (r : RelV v u)
    (h : sp [.ref a, v] H (fun z H' => ∃ b, z = .bl b ∧ Q z H') E0) :
    wpAny (model X.prog X.w) A (call (.ref f) [.ref a, u]) (fun z s' => ∃ b H', z = .bool b ∧ Inv X pins σ H' s' ∧ Q (.bl b) H') X.xe s := by
  have e0 : Env0 X.prog X.w X.K X.mg X.base A X.stack s H := by
    have e := I.env0
    exact ⟨by rw [sb.fr]; exact e.frames, e.mod, e.bs, e.bsz, e.funs, e.frf, e.hok, e.bare⟩
  have r2 : Vals [V.ref a, v] [Value.ref a, u] := .cons rfl (.cons r .nil)
  have hl := F.len _ _ _ _ h
  have b := hb s [.ref a, u] I.kIn (by simpa using hl)
  rw [List.append_nil] at b
  refine wpAny_call (codeAny_mono (F.run A X.stack s H ⟨[.ref a, u], []⟩ [.ref a, u] [.ref a, v] _ E0 sb.room e0 b r2 h) fun r s' hq => ?_)
  match r, hq with
  | .error _, hq => exact hq.elim
  | .ok .next, hq => exact hq.elim
  | .ok .brk, hq => exact hq.elim
  | .ok .cont, hq => exact hq.elim
  | .ok (.ret z), hq =>
    obtain ⟨z', H', I', rz, b, rfl, q⟩ := I.after hq
    cases rz
    exact ⟨b, H', rfl, I', q⟩
theorem rc_own (EC : EqC X.K C f) {A : Around} {pins : List (Addr × Obj)} {σ : L2.St} {H : Hp} {s : Shared} {Q : VK} {v : V} {u : Value} {a dx : Addr} {fs : List (Str × V)}
    (F : FnOk X.prog X.w X.K X.mg X.base CX0 n f fd ps sp) (sb : L2.Sub X n A) (hb : L2.Binds X.K fd ps []) (I : Inv X pins σ H s) (r : RelV v u)
    (ha : H a = some (.ins C dx fs)) (hv : Beside X.K C H v) (h : sp [.ref a, v] H (fun z H' => ∃ b, z = .bl b ∧ Q z H') E0) :
    wpAny (model X.prog X.w) A (richCompare .Eq (.ref a) u) (fun z s' => ∃ b H', z = .bool b ∧ Inv X pins σ H' s' ∧ Q (.bl b) H') X.xe s := by
  obtain ⟨mA, J, _⟩ := ins_get I.hok ha
  obtain ⟨od, J, _⟩ := J.look
  obtain ⟨m, hF⟩ := I.fr
  have nt : ∀ T : String, (PySem.W.subIn X.K (.type T) (.ref C) == some false) = true → PySem.W.notFirst X.K C (.type T) = true := fun T e => by
    unfold PySem.W.notFirst
    rw [e, Bool.or_true]
  have tyv : ∃ t, PySem.W.Looks (model X.prog X.w) s.heap (typeOf u) t ∧ PySem.W.notFirst X.K C t = true := by
    cases hv with
    | non => obtain ⟨P, Z, p, _⟩ := kit_of I r (.base .non); exact ⟨_, Z.ty _ _ I.kIn p, nt _ (by rfl)⟩
    | bl b => obtain ⟨P, Z, p, _⟩ := kit_of I r (.base (.bl b)); exact ⟨_, Z.ty _ _ I.kIn p, nt _ (by rfl)⟩
    | int i => obtain ⟨P, Z, p, _⟩ := kit_of I r (.base (.int i)); exact ⟨_, Z.ty _ _ I.kIn p, nt _ (by rfl)⟩
    | str z => obtain ⟨P, Z, p, _⟩ := kit_of I r (.base (.str z)); exact ⟨_, Z.ty _ _ I.kIn p, nt _ (by rfl)⟩
    | lst e => obtain ⟨P, Z, p, _⟩ := kit_of I r (.base (.lst e)); exact ⟨_, Z.ty _ _ I.kIn p, nt _ (by rfl)⟩
    | tup e => obtain ⟨P, Z, p, _⟩ := kit_of I r (.base (.tup e)); exact ⟨_, Z.ty _ _ I.kIn p, nt _ (by rfl)⟩
    | ins e =>
      cases r
      obtain ⟨mB, J', _⟩ := ins_get I.hok e
      obtain ⟨od', J', _⟩ := J'.look
      exact ⟨_, J'.type, by simp [PySem.W.notFirst]⟩
  obtain ⟨t, ht, hn⟩ := tyv
  refine PySem.W.cmp_K (op := .Eq) sb.room.units0 hF I.ok.mod.kin J ht hn EC.eq EC.fn (wpAny_mono (run_eq F sb hb I r h) (fun z s' hz => ?_) fun _ _ x => x)
  obtain ⟨b, H', rfl, I', q⟩ := hz
  exact ⟨b, H', rfl, I', q⟩
/-- the other way about -/
theorem rc_own_refl (EC : EqC X.K C f) {A : Around} {pins : List (Addr × Obj)} {σ : L2.St} {H : Hp} {s : Shared} {Q : VK} {v : V} {u : Value} {a dx : Addr} {fs : List (Str × V)}
    (F : FnOk X.prog X.w X.K X.mg X.base CX0 n f fd ps sp) (sb : L2.Sub X n A) (hb : L2.Binds X.K fd ps []) (I : Inv X pins σ H s) (r : RelV v u)
    (ha : H a = some (.ins C dx fs)) (hv : Beside X.K C H v) (hni : ∀ b dy gs, v = .ref b → H b ≠ some (.ins C dy gs)) (h : sp [.ref a, v] H (fun z H' => ∃ b, z = .bl b ∧ Q z H') E0) :
    wpAny (model X.prog X.w) A (richCompare .Eq u (.ref a)) (fun z s' => ∃ b H', z = .bool b ∧ Inv X pins σ H' s' ∧ Q (.bl b) H') X.xe s := by
  obtain ⟨mA, J, _⟩ := ins_get I.hok ha
  have hob := J.obj
  obtain ⟨od, J, _⟩ := J.look
  have fin := wpAny_mono (run_eq (A := A) F sb hb I r h) (Q' := PySem.W.CmpBack fun z s' => ∃ b H', z = .bool b ∧ Inv X pins σ H' s' ∧ Q (.bl b) H') (fun z s' hz => by
    obtain ⟨b, H', rfl, I', q⟩ := hz
    exact ⟨b, H', rfl, I', q⟩) fun _ _ x => x
  cases hv with
  | non =>
    cases r
    exact rc_eq_refl I.kIn J rfl EC.sN PySem.F.slot_NoneType_eq (fun Q' q => call_gives PySem.F.slot_NoneType_eq rfl PySem.F.entry_NoneType_eq (PySem.F.args_NoneType_eq_2 _ _) (SeqAt.NoneType___eq___none_ref_0 _) q) EC.eq EC.fn sb.room.units0 fin
  | bl b =>
    cases r
    exact rc_eq_refl I.kIn J rfl EC.sB PySem.F.slot_bool_eq (fun Q' q => call_meets PySem.F.slot_bool_eq rfl PySem.F.entry_int_eq (PySem.F.args_int_eq_2 _ _) (bool_dec b a C dx) ⟨hob, q⟩) EC.eq EC.fn sb.room.units0 fin
  | int i =>
    obtain ⟨t, rfl⟩ := r
    exact rc_eq_refl I.kIn J (typeIs_int _ _ _) EC.sI PySem.F.slot_int_eq (fun Q' q => call_meets PySem.F.slot_int_eq (typeIs_int _ _ _) PySem.F.entry_int_eq (PySem.F.args_int_eq_2 _ _) (int_dec i t a C dx) ⟨hob, q⟩) EC.eq EC.fn sb.room.units0 fin
  | str z =>
    obtain ⟨t, rfl⟩ := r
    exact rc_eq_refl I.kIn J (typeIs_str _ _ _) EC.sS PySem.F.slot_str_eq (fun Q' q => call_meets PySem.F.slot_str_eq (typeIs_str _ _ _) PySem.F.entry_str_eq (PySem.F.args_str_eq_2 _ _) (str_dec z t a C dx) ⟨hob, q⟩) EC.eq EC.fn sb.room.units0 fin
  | @lst l xs e =>
    cases r
    obtain ⟨_, its, k, _, h1⟩ := (show ObjOk X.prog X.w H s.heap l (.lst xs) from I.hok l _ e)
    exact rc_eq_refl I.kIn J ⟨_, h1, rfl⟩ EC.sL PySem.F.slot_list_eq (fun Q' q => call_meets PySem.F.slot_list_eq ⟨_, h1, rfl⟩ PySem.F.entry_list_eq (PySem.F.args_list_eq_2 _ _) (list_dec l a C dx EC.sL) ⟨I.kIn, hob, ⟨_, h1, rfl⟩, q⟩) EC.eq EC.fn sb.room.units0 fin
  | @tup l xs e =>
    cases r
    obtain ⟨_, its, _, o, h1, h2, _⟩ := (show ObjOk X.prog X.w H s.heap l (.tup xs) from I.hok l _ e)
    exact rc_eq_refl I.kIn J ⟨_, h1, h2⟩ EC.sT PySem.F.slot_tuple_eq (fun Q' q => call_meets PySem.F.slot_tuple_eq ⟨_, h1, h2⟩ PySem.F.entry_tuple_eq (PySem.F.args_tuple_eq_2 _ _) (tuple_dec l a C dx EC.sT) ⟨I.kIn, hob, ⟨_, h1, h2⟩, q⟩) EC.eq EC.fn sb.room.units0 fin
  | ins e => exact absurd e (hni _ _ _ rfl)
/-- x == y, one of them an instance of C -/
def rOwn (K : PySem.W.Frag) (C : Addr) (sp : Sp) : R2 := fun x y H Q =>
  (∃ a dx fs, x = .ref a ∧ H a = some (.ins C dx fs) ∧ Beside K C H y ∧ sp [x, y] H (fun z H' => ∃ b, z = .bl b ∧ Q z H') E0) ∨
  (∃ a dx fs, y = .ref a ∧ H a = some (.ins C dx fs) ∧ Beside K C H x ∧ (∀ b dy gs, x = .ref b → H b ≠ some (.ins C dy gs)) ∧ sp [y, x] H (fun z H' => ∃ b, z = .bl b ∧ Q z H') E0)
theorem op_own (EC : EqC X.K C f) (F : FnOk X.prog X.w X.K X.mg X.base CX0 n f fd ps sp) (hr : Room n X.A) (hb : L2.Binds X.K fd ps []) :
    OpR X (compareOp .Eq) (rOwn X.K C sp) := by
  intro pins s σ H x y v u Q I rx ry h
  rcases h with ⟨a, dx, fs, rfl, ha, hv, h⟩ | ⟨a, dx, fs, rfl, ha, hv, hni, h⟩
  · cases rx
    refine wpAny_mono (rc_own EC F ⟨hr, rfl⟩ hb I ry ha hv h) (fun z s' hz => ?_) fun _ _ x => x
    obtain ⟨b, H', rfl, I', q⟩ := hz
    exact ⟨.bl b, H', I', rfl, q⟩
  · cases ry
    refine wpAny_mono (rc_own_refl EC F ⟨hr, rfl⟩ hb I rx ha hv hni h) (fun z s' hz => ?_) fun _ _ x => x
    obtain ⟨b, H', rfl, I', q⟩ := hz
    exact ⟨.bl b, H', I', rfl, q⟩
/-- == within a list: the same object is equal to itself -/
theorem eqb_own (EC : EqC X.K C f) {A : Around} {pins : List (Addr × Obj)} {σ : L2.St} {H : Hp} {s : Shared} {Q : VK} {a b dx dy : Addr} {fs gs : List (Str × V)}
    (F : FnOk X.prog X.w X.K X.mg X.base CX0 n f fd ps sp) (sb : L2.Sub X n A) (hb : L2.Binds X.K fd ps []) (I : Inv X pins σ H s)
    (ha : H a = some (.ins C dx fs)) (hb' : H b = some (.ins C dy gs)) (hs : a = b → Q (.bl true) H) (h : a ≠ b → sp [.ref a, .ref b] H (fun z H' => ∃ b, z = .bl b ∧ Q z H') E0) :
    wpAny (model X.prog X.w) A (eqBool (.ref a) (.ref b)) (fun r s' => ∃ H', Inv X pins σ H' s' ∧ Q (.bl r) H') X.xe s := by
  by_cases e : a = b
  · subst e
    exact SeqAt.EqAt.same (A := A) (s := s) (.ref a) X.prog X.w X.xe _ ⟨H, I, hs rfl⟩
  · refine GQ.eqBool_refG e (wpAny_mono (rc_own (v := .ref b) EC F sb hb I rfl ha (.ins hb') (h e)) (fun z s' hz => ?_) fun _ _ x => x)
    obtain ⟨r, H', rfl, I', q⟩ := hz
    exact ⟨r, rfl, H', I', q⟩
end
/-! ### x in [y], [y] == [x] -/
section
variable {prog : Program} {w : World} {A : Around} {E : Value → Shared → Prop} {s : Shared}
open AutoSeq1 (wpAny_loadPart')
open MeetsSeq MeetsSeq3
def OneAt (l : Addr) (y : Value) (s : Shared) : Prop := ∃ (items : Array Value) (n : Nat), s.heap.get? l = some { cls := .type "list", data := .seq items n } ∧ items.size = 1 ∧ items[0]? = some y
theorem loop_none {R : Result → Shared → Prop} {l : Addr} {x y : Value} (hl : OneAt l y s) (h : R (.ok (.ret (.bool false))) s) (i : Nat) (h1 : i = 1) :
    wpAny (model prog w) A.in1 (Builtin.«list.__contains__.loop» ⟨[.ref l, x, rawInt i], []⟩) (GQ.FinOf prog w A R) (fun e s' => R (.error e) s') s := by
  obtain ⟨items, n, hl, hz, _⟩ := hl
  obtain ⟨hp, g, d, tk, os⟩ := s
  wp_walk using wpAny_loadPart' hl
  have hi : items[((i : Nat) : Int).toNat]? = none := by simp; omega
  rw [hi]
  wp_walk
  exact h
theorem loop_one {R : Result → Shared → Prop} {l : Addr} {x y : Value} (hl : OneAt l y s)
    (h : wpAny (model prog w) A.in1 (eqBool y x) (fun r s' => OneAt l y s' ∧ R (.ok (.ret (.bool r))) s') (fun e s' => R (.error e) s') s) (i : Nat) (h0 : i = 0) :
    wpAny (model prog w) A.in1 (Builtin.«list.__contains__.loop» ⟨[.ref l, x, rawInt i], []⟩) (GQ.FinOf prog w A R) (fun e s' => R (.error e) s') s := by
  obtain ⟨items, n, hl, hz, hy⟩ := hl
  obtain ⟨hp, g, d, tk, os⟩ := s
  wp_walk using wpAny_loadPart' hl
  have hi : items[((i : Nat) : Int).toNat]? = some y := by
    rw [h0]
    exact hy
  rw [hi]
  refine wpAny_bind (wpAny_mono h (fun r s2 hr => ?_) fun _ _ x => x)
  obtain ⟨h1, h2⟩ := hr
  cases r with
  | true =>
    obtain ⟨hp2, g2, d2, tk2, os2⟩ := s2
    wp_walk
    exact h2
  | false =>
    have last := loop_none (prog := prog) (w := w) (A := A) (x := x) h1 h2 (i + 1) (by omega)
    have hc : ((i : Int) + 1) = ((i + 1 : Nat) : Int) := by omega
    obtain ⟨hp2, g2, d2, tk2, os2⟩ := s2
    wp_walk
    rw [hc]
    exact ⟨plainId_quiet plain_contains_loop _, codeAny_builtin entry_contains_loop (by
      rw [Around.under_plainId plain_contains_loop _]
      exact last)⟩
theorem in_one {Q : Value → Shared → Prop} {l : Addr} {x y : Value} (hl : OneAt l y s)
    (h : wpAny (model prog w) A.in1 (eqBool y x) (fun r s' => OneAt l y s' ∧ Q (.bool r) s') E s) : wpAny (model prog w) A (compareOp .In x (.ref l)) Q E s := by
  obtain ⟨items, n, ho, _, _⟩ := id hl
  show wpAny _ A (do return .bool (← contains (.ref l) x)) Q E s
  refine wpAny_bind (wpAny_contains_slot ⟨_, ho, rfl⟩ PySem.F.slot_list_contains (GQ.call_here PySem.F.slot_list_contains ⟨_, ho, rfl⟩ PySem.F.entry_list_contains (PySem.F.args_list_contains_2 _ _) ?_))
  have first := loop_one (prog := prog) (w := w) (A := A) (R := wants (fun r s' => wpAny (model prog w) A (truthy r) (fun a s' => wpAny (model prog w) A (pure (Value.bool a)) Q E s') E s') E) hl
    (wpAny_mono h (fun r s' hr => ⟨hr.1, wpAny_truthy_bool (wpAny_pure hr.2)⟩) fun _ _ x => x) 0 rfl
  obtain ⟨hp, g, d, tk, os⟩ := s
  wp_walk using wpAny_loadPart' ho
  exact ⟨plainId_quiet plain_contains_loop _, codeAny_builtin entry_contains_loop (by
    rw [Around.under_plainId plain_contains_loop _]
    exact first)⟩
theorem eqloop_end {R : Result → Shared → Prop} {l b : Addr} {x y : Value} (hl : OneAt l y s) (hb : OneAt b x s) (h : R (.ok (.ret (.bool true))) s) (i : Nat) (h1 : i = 1) :
    wpAny (model prog w) A.in1 (Builtin.«list.__eq__.loop» ⟨[.ref l, .ref b, rawInt i, rawInt 2], []⟩) (GQ.FinOf prog w A R) (fun e s' => R (.error e) s') s := by
  obtain ⟨items, n, hl, hz, _⟩ := hl
  obtain ⟨items2, n2, hb, hz2, _⟩ := hb
  obtain ⟨hp, g, d, tk, os⟩ := s
  wp_walk using wpAny_loadPart' hl, wpAny_loadPart' hb
  have hi1 : items[((i : Nat) : Int).toNat]? = none := by simp; omega
  have hi2 : items2[((i : Nat) : Int).toNat]? = none := by simp; omega
  rw [hi1, hi2]
  wp_walk using wpAny_loadPart' hl, wpAny_loadPart' hb
  show R (.ok (.ret (.bool (items.size == items2.size)))) _
  rw [hz, hz2]
  exact h
theorem eqloop_one {R : Result → Shared → Prop} {l b : Addr} {x y : Value} (hl : OneAt l y s) (hb : OneAt b x s)
    (h : wpAny (model prog w) A.in1 (eqBool y x) (fun r s' => OneAt l y s' ∧ OneAt b x s' ∧ R (.ok (.ret (.bool r))) s') (fun e s' => R (.error e) s') s) (i : Nat) (h0 : i = 0) :
    wpAny (model prog w) A.in1 (Builtin.«list.__eq__.loop» ⟨[.ref l, .ref b, rawInt i, rawInt 2], []⟩) (GQ.FinOf prog w A R) (fun e s' => R (.error e) s') s := by
  obtain ⟨items, n, hl, hz, hy⟩ := hl
  obtain ⟨items2, n2, hb, hz2, hy2⟩ := hb
  obtain ⟨hp, g, d, tk, os⟩ := s
  wp_walk using wpAny_loadPart' hl, wpAny_loadPart' hb
  have hi1 : items[((i : Nat) : Int).toNat]? = some y := by
    rw [h0]
    exact hy
  have hi2 : items2[((i : Nat) : Int).toNat]? = some x := by
    rw [h0]
    exact hy2
  rw [hi1, hi2]
  refine wpAny_bind (wpAny_mono h (fun r s2 hr => ?_) fun _ _ x => x)
  obtain ⟨h1, h2, h3⟩ := hr
  cases r with
  | true =>
    have last := eqloop_end (prog := prog) (w := w) (A := A) h1 h2 h3 (i + 1) (by omega)
    have hc : ((i : Int) + 1) = ((i + 1 : Nat) : Int) := by omega
    obtain ⟨hp2, g2, d2, tk2, os2⟩ := s2
    wp_walk
    rw [hc]
    exact ⟨plainId_quiet plain_eq_loop _, codeAny_builtin entry_eq_loop (by
      rw [Around.under_plainId plain_eq_loop _]
      exact last)⟩
  | false =>
    obtain ⟨items3, n3, hl3, hz3, hy3⟩ := h1
    obtain ⟨items4, n4, hb4, hz4, hy4⟩ := h2
    obtain ⟨hp2, g2, d2, tk2, os2⟩ := s2
    wp_walk using wpAny_loadPart' hl3, wpAny_loadPart' hb4
    have hi3 : items3[((i : Nat) : Int).toNat]? = some y := by
      rw [h0]
      exact hy3
    have hi4 : items4[((i : Nat) : Int).toNat]? = some x := by
      rw [h0]
      exact hy4
    rw [hi3, hi4]
    wp_walk
    exact h3
/-- two lists of one thing each -/
theorem eq_one {Q : Value → Shared → Prop} {l b : Addr} {x y : Value} (hu : A.units < cLine) (hl : OneAt l y s) (hb : OneAt b x s)
    (h : wpAny (model prog w) A.in1 (eqBool y x) (fun r s' => OneAt l y s' ∧ OneAt b x s' ∧ Q (.bool r) s') E s) : wpAny (model prog w) A (richCompare .Eq (.ref l) (.ref b)) Q E s := by
  obtain ⟨items, n, ho, hz, hy⟩ := id hl
  obtain ⟨items2, n2, ho2, hz2, hy2⟩ := id hb
  refine wpAny_richCompare_same_room (op := .Eq) ⟨_, ho, rfl⟩ ⟨_, ho2, rfl⟩ PySem.F.slot_list_eq (GQ.call_here PySem.F.slot_list_eq ⟨_, ho, rfl⟩ PySem.F.entry_list_eq (PySem.F.args_list_eq_2 _ _) ?_) hu
  have first := eqloop_one (prog := prog) (w := w) (A := A) (R := wants (fun v s' => v ≠ .notImplemented ∧ Q v s') E) hl hb
    (wpAny_mono h (fun r s' hr => ⟨hr.1, hr.2.1, (fun z => nomatch z), hr.2.2⟩) fun _ _ x => x) 0 rfl
  have f3 := AutoSeq1.sub_list_list
  have hne : ¬ (items.size != items2.size) = true := by simp [hz, hz2]
  obtain ⟨hp, g, d, tk, os⟩ := s
  wp_walk using wpAny_loadPart' ho, wpAny_loadPart' ho2
  exact ⟨plainId_quiet plain_eq_loop _, codeAny_builtin entry_eq_loop (by
    rw [Around.under_plainId plain_eq_loop _]
    exact first)⟩
end
/-! ### the same over the layer -/
section
variable {X : Cx} {C f : Addr} {fd : FuncData} {ps : List Str} {sp : Sp} {n : Nat}
theorem one_at {pins : List (Addr × Obj)} {σ : L2.St} {H : Hp} {s : Shared} {l a : Addr} (I : Inv X pins σ H s) (h : H l = some (.lst [.ref a])) : OneAt l (.ref a) s := by
  obtain ⟨_, its, k, rv, h1⟩ := (show ObjOk X.prog X.w H s.heap l (.lst [.ref a]) from I.hok l _ h)
  cases rv with
  | cons r1 r2 =>
    cases r2
    cases r1
    exact ⟨_, _, h1, rfl, rfl⟩
/-- x in [y] -/
theorem op_in_one (EC : EqC X.K C f) (F : FnOk X.prog X.w X.K X.mg X.base CX0 n f fd ps sp) (hr : Room (n + 1) X.A) (hb : L2.Binds X.K fd ps []) :
    OpR X (compareOp .In) (fun x y H Q => ∃ (l a b dx dy : Addr) (fs gs : List (Str × V)), x = .ref a ∧ y = .ref l ∧ H l = some (.lst [.ref b]) ∧ H a = some (.ins C dx fs) ∧ H b = some (.ins C dy gs) ∧
      (b = a → Q (.bl true) H) ∧ (b ≠ a → sp [.ref b, .ref a] H (fun z H' => ∃ r, z = .bl r ∧ H' l = some (.lst [.ref b]) ∧ Q z H') E0)) := by
  intro pins s σ H x y v u Q I rx ry h
  obtain ⟨l, a, b, dx, dy, fs, gs, rfl, rfl, hl, ha, hb', h1, h2⟩ := h
  cases rx
  cases ry
  refine in_one (one_at I hl) (wpAny_mono (eqb_own (Q := fun z H' => H' l = some (.lst [.ref b]) ∧ Q z H') EC F ⟨hr.in1, rfl⟩ hb I hb' ha (fun e => ⟨hl, h1 e⟩) h2) (fun r s' hz => ?_) fun _ _ x => x)
  obtain ⟨H', I', q1, q2⟩ := hz
  exact ⟨one_at I' q1, .bl r, H', I', rfl, q2⟩
/-- [x] == [y] -/
theorem op_eq_one (EC : EqC X.K C f) (F : FnOk X.prog X.w X.K X.mg X.base CX0 n f fd ps sp) (hr : Room (n + 1) X.A) (hb : L2.Binds X.K fd ps []) :
    OpR X (compareOp .Eq) (fun x y H Q => ∃ (l k a b dx dy : Addr) (fs gs : List (Str × V)), x = .ref l ∧ y = .ref k ∧ H l = some (.lst [.ref b]) ∧ H k = some (.lst [.ref a]) ∧ H a = some (.ins C dx fs) ∧ H b = some (.ins C dy gs) ∧
      (b = a → Q (.bl true) H) ∧ (b ≠ a → sp [.ref b, .ref a] H (fun z H' => ∃ r, z = .bl r ∧ H' l = some (.lst [.ref b]) ∧ H' k = some (.lst [.ref a]) ∧ Q z H') E0)) := by
  intro pins s σ H x y v u Q I rx ry h
  obtain ⟨l, k, a, b, dx, dy, fs, gs, rfl, rfl, hl, hk, ha, hb', h1, h2⟩ := h
  cases rx
  cases ry
  refine eq_one hr.units0 (one_at I hl) (one_at I hk) (wpAny_mono (eqb_own (Q := fun z H' => H' l = some (.lst [.ref b]) ∧ H' k = some (.lst [.ref a]) ∧ Q z H') EC F ⟨hr.in1, rfl⟩ hb I hb' ha (fun e => ⟨hl, hk, h1 e⟩) h2) (fun r s' hz => ?_) fun _ _ x => x)
  obtain ⟨H', I', q1, q2, q3⟩ := hz
  exact ⟨one_at I' q1, one_at I' q2, .bl r, H', I', rfl, q3⟩
end
/-! ### the same, the answer told ahead, the heap as it was -/
section
variable {X : Cx} {C f : Addr} {fd : FuncData} {ps : List Str} {sp : Sp} {n : Nat}
theorem op_in_r (EC : EqC X.K C f) (F : FnOk X.prog X.w X.K X.mg X.base CX0 n f fd ps sp) (hr : Room (n + 1) X.A) (hb : L2.Binds X.K fd ps []) :
    OpR X (compareOp .In) (fun x y H Q => ∃ (r : Bool) (l a b dx dy : Addr) (fs gs : List (Str × V)), x = .ref a ∧ y = .ref l ∧ H l = some (.lst [.ref b]) ∧ H a = some (.ins C dx fs) ∧ H b = some (.ins C dy gs) ∧
      (b = a → r = true) ∧ sp [.ref b, .ref a] H (fun z H' => ∃ k, z = .bl k ∧ z = .bl r ∧ H' = H) E0 ∧ Q (.bl r) H) := by
  intro pins s σ H x y v u Q I rx ry h
  obtain ⟨r, l, a, b, dx, dy, fs, gs, rfl, rfl, hl, ha, hb', h1, h2, q⟩ := h
  cases rx
  cases ry
  refine in_one (one_at I hl) (wpAny_mono (eqb_own (Q := fun z H' => z = .bl r ∧ H' = H) EC F ⟨hr.in1, rfl⟩ hb I hb' ha (fun e => ⟨by rw [h1 e], rfl⟩) fun _ => h2) (fun k s' hz => ?_) fun _ _ x => x)
  obtain ⟨H', I', e, rfl⟩ := hz
  cases e
  exact ⟨one_at I' hl, .bl _, _, I', rfl, q⟩
theorem op_eq_r (EC : EqC X.K C f) (F : FnOk X.prog X.w X.K X.mg X.base CX0 n f fd ps sp) (hr : Room (n + 1) X.A) (hb : L2.Binds X.K fd ps []) :
    OpR X (compareOp .Eq) (fun x y H Q => ∃ (r : Bool) (l k a b dx dy : Addr) (fs gs : List (Str × V)), x = .ref l ∧ y = .ref k ∧ H l = some (.lst [.ref b]) ∧ H k = some (.lst [.ref a]) ∧ H a = some (.ins C dx fs) ∧ H b = some (.ins C dy gs) ∧
      (b = a → r = true) ∧ sp [.ref b, .ref a] H (fun z H' => ∃ k, z = .bl k ∧ z = .bl r ∧ H' = H) E0 ∧ Q (.bl r) H) := by
  intro pins s σ H x y v u Q I rx ry h
  obtain ⟨r, l, k, a, b, dx, dy, fs, gs, rfl, rfl, hl, hk, ha, hb', h1, h2, q⟩ := h
  cases rx
  cases ry
  refine eq_one hr.units0 (one_at I hl) (one_at I hk) (wpAny_mono (eqb_own (Q := fun z H' => z = .bl r ∧ H' = H) EC F ⟨hr.in1, rfl⟩ hb I hb' ha (fun e => ⟨by rw [h1 e], rfl⟩) fun _ => h2) (fun c s' hz => ?_) fun _ _ x => x)
  obtain ⟨H', I', e, rfl⟩ := hz
  cases e
  exact ⟨one_at I' hl, one_at I' hk, .bl _, _, I', rfl, q⟩
end
/-! ### != by an own __eq__ -/
section
variable {prog : Program} {w : World} {A : Around} {E : Value → Shared → Prop} {s : Shared} {K : PySem.W.Frag} {x C f : Addr} {ox : Obj} {od : Option Obj}
theorem ifBound_B {M : Model} {name : Str} {id : String} {args : List Value} {Q : Option Value → Shared → Prop} (X : K.In s.heap) (I : PySem.W.InstAt s.heap x ox C od)
    (hs : PySem.W.findIn K (.ref C) name = some (some (.builtin id))) (hb : ∀ self, bindSpecial (.builtin id) self = pure (.builtin id, [self]))
    (h : wpAny M A (call (.builtin id) (.ref x :: args)) (fun v => Q (some v)) E s) : wpAny M A (callSpecialIfBound? (.ref x) name args) Q E s := by
  simp only [callSpecialIfBound?, bindSpecialIfBound?]
  refine wpAny_holding (wpAny_bind (wpAny_bind (wpAny_bind (I.type.here ((PySem.W.looks_findIn X hs).here ?_)))))
  refine wpAny_bind (wpAny_askSetting (wpAny_ite ?_))
  have fin : wpAny M A (call (.builtin id) ([.ref x] ++ args) >>= fun v => pure (some v)) Q E s := wpAny_bind (wpAny_mono h (fun v s' h' => wpAny_pure h') fun _ _ h' => h')
  have bd : PySem.W.Looks M s.heap (bindSpecial (.builtin id) (.ref x)) (.builtin id, [.ref x]) := PySem.W.Looks.of_pure (hb _)
  split
  · exact wpAny_bind (bd.here (wpAny_pure (by exact fin)))
  · exact wpAny_tryCatch (wpAny_bind (bd.here (wpAny_pure (by exact fin))))
theorem ne_own {Q : Value → Shared → Prop} {y : Addr} {oy : Obj} {oe : Option Obj} (hu : A.units + 1 < cLine) (EC : EqC K C f) (X : K.In s.heap) (I : PySem.W.InstAt s.heap x ox C od) (J : PySem.W.InstAt s.heap y oy C oe)
    (h : wpAny (model prog w) A.in1 (call (.ref f) [.ref x, .ref y]) (fun v s' => ∃ b, v = .bool b ∧ Q (.bool (!b)) s') E s) : wpAny (model prog w) A (richCompare .NotEq (.ref x) (.ref y)) Q E s := by
  have one : wpAny (model prog w) A (tryCompare (.ref x) "__ne__" (.ref y)) (fun r s' => ∃ v, r = some v ∧ Q v s') E s := by
    unfold tryCompare
    refine wpAny_bind (ifBound_B X I EC.ne PySem.F.slot_object_ne.bind ?_)
    refine wpAny_call (codeAny_call_builtin PySem.F.slot_object_ne.plain PySem.F.cmpEntry_ne (PySem.W.check_slot PySem.F.cmpKind_ne PySem.F.cmpSplit_ne (I.type.andThen (PySem.W.looks_mroIn X EC.ob)) (PySem.F.cmpArgs_ne _ _) ?_))
    unfold Builtin.«object.__ne__»
    refine wpAny_bind (m := slotArgs "__ne__" 1 _) (wpAny_pure ?_)
    refine wpAny_bind (m := cRoomFor _ _) (wpAny_cRoomFor (by show A.units + 1 < cLine; exact hu) ?_)
    refine wpAny_bind (m := callSpecialIfBound? (.ref x) (Str.ofString "__eq__") _) (PySem.W.ifBound_K X I EC.eq EC.fn (wpAny_mono h (fun v s' hv => ?_) fun _ _ e => e))
    obtain ⟨b, rfl, q⟩ := hv
    refine wpAny_bind (m := truthy (.bool b)) (wpAny_truthy_bool ?_)
    exact wpAny_pure (wpAny_pure ⟨_, rfl, q⟩)
  unfold richCompare
  simp only [oneThing_ref, cmpInfo]
  refine wpAny_holding (wpAny_bind (wpAny_cRoomFor (by omega) ?_))
  refine wpAny_bind (I.type.here (wpAny_bind (J.type.here ?_)))
  rw [if_neg (by simp)]
  refine wpAny_bind (wpAny_pure ?_)
  simp only [Bool.false_eq_true, if_false]
  refine wpAny_bind (m := tryCompare (.ref x) _ (.ref y)) (wpAny_mono one (fun r s' z => ?_) fun _ _ e => e)
  obtain ⟨v, rfl, hq⟩ := z
  exact wpAny_pure hq
end
section
variable {X : Cx} {C f : Addr} {fd : FuncData} {ps : List Str} {sp : Sp} {n : Nat}
theorem op_ne_own (EC : EqC X.K C f) (F : FnOk X.prog X.w X.K X.mg X.base CX0 n f fd ps sp) (hr : Room (n + 1) X.A) (hb : L2.Binds X.K fd ps []) :
    OpR X (compareOp .NotEq) (fun x y H Q => ∃ (a b dx dy : Addr) (fs gs : List (Str × V)), x = .ref a ∧ y = .ref b ∧ H a = some (.ins C dx fs) ∧ H b = some (.ins C dy gs) ∧
      sp [.ref a, .ref b] H (fun z H' => ∃ k, z = .bl k ∧ ∃ r, z = .bl r ∧ Q (.bl (!r)) H') E0) := by
  intro pins s σ H x y v u Q I rx ry h
  obtain ⟨a, b, dx, dy, fs, gs, rfl, rfl, ha, hb', h1⟩ := h
  cases rx
  cases ry
  obtain ⟨mA, J, _⟩ := ins_get I.hok ha
  obtain ⟨od, J, _⟩ := J.look
  obtain ⟨mB, J', _⟩ := ins_get I.hok hb'
  obtain ⟨od', J', _⟩ := J'.look
  refine ne_own (by have := hr.units; omega) EC I.kIn J J' (wpAny_mono (run_eq (v := .ref b) (Q := fun z H' => ∃ r, z = .bl r ∧ Q (.bl (!r)) H') F ⟨hr.in1, rfl⟩ hb I rfl h1) (fun z s' hz => ?_) fun _ _ x => x)
  · obtain ⟨r, H', rfl, I', r', e, q⟩ := hz
    cases e
    exact ⟨r, rfl, .bl (!r), H', I', rfl, q⟩
/-! ### repr, str of an instance -/
theorem run_str {A : Around} {pins : List (Addr × Obj)} {σ : L2.St} {H : Hp} {s : Shared} {Q : VK} {a : Addr}
    (F : FnOk X.prog X.w X.K X.mg X.base CX0 n f fd ps sp) (sb : L2.Sub X n A) (hb : L2.Binds X.K fd ps []) (I : Inv X pins σ H s)
    (h : sp [.ref a] H (fun z H' => ∃ t, z = .str t ∧ Q z H') E0) :
    wpAny (model X.prog X.w) A (call (.ref f) [.ref a]) (PySem.W.StrBack (EP X pins σ Q)) X.xe s := by
  have e0 : Env0 X.prog X.w X.K X.mg X.base A X.stack s H := by
    have e := I.env0
    exact ⟨by rw [sb.fr]; exact e.frames, e.mod, e.bs, e.bsz, e.funs, e.frf, e.hok, e.bare⟩
  have r2 : Vals [V.ref a] [Value.ref a] := .cons rfl .nil
  have hl := F.len _ _ _ _ h
  have b := hb s [.ref a] I.kIn (by simpa using hl)
  rw [List.append_nil] at b
  refine wpAny_call (codeAny_mono (F.run A X.stack s H ⟨[.ref a], []⟩ [.ref a] [.ref a] _ E0 sb.room e0 b r2 h) fun r s' hq => ?_)
  match r, hq with
  | .error _, hq => exact hq.elim
  | .ok .next, hq => exact hq.elim
  | .ok .brk, hq => exact hq.elim
  | .ok .cont, hq => exact hq.elim
  | .ok (.ret z), hq =>
    obtain ⟨z', H', I', rz, t, rfl, q⟩ := I.after hq
    obtain ⟨tk, rfl⟩ := rz
    exact ⟨.str t, H', I', ⟨tk, rfl⟩, q⟩
theorem call_repr_own (hs : PySem.W.findIn X.K (.ref C) "__repr__" = some (some (.ref f))) (hf : PySem.W.isFn X.K (.ref f) = true) (F : FnOk X.prog X.w X.K X.mg X.base CX0 n f fd ps sp) (hr : Room (n + 1) X.A) (hb : L2.Binds X.K fd ps []) :
    CallR X (.builtin "repr") (fun xs H Q => ∃ a dx fs, xs = [.ref a] ∧ H a = some (.ins C dx fs) ∧ sp [.ref a] H (fun z H' => ∃ t, z = .str t ∧ Q z H') E0) := by
  intro pins s σ H xs us Q I r h
  obtain ⟨a, dx, fs, rfl, ha, h⟩ := h
  rw [Vals.ref1 r]
  obtain ⟨mA, J, _⟩ := ins_get I.hok ha
  obtain ⟨od, J, _⟩ := J.look
  obtain ⟨m, hF⟩ := I.fr
  exact PySem.W.repr_K hr.in1.units0 hF I.ok.mod.kin J hs hf (run_str F ⟨hr.in1, rfl⟩ hb I h)
theorem call_str_own (hs : PySem.W.findIn X.K (.ref C) "__str__" = some (some (.ref f))) (hf : PySem.W.isFn X.K (.ref f) = true) (F : FnOk X.prog X.w X.K X.mg X.base CX0 n f fd ps sp) (hr : Room (n + 2) X.A) (hb : L2.Binds X.K fd ps []) :
    CallR X (.type "str") (fun xs H Q => ∃ a dx fs, xs = [.ref a] ∧ H a = some (.ins C dx fs) ∧ sp [.ref a] H (fun z H' => ∃ t, z = .str t ∧ Q z H') E0) := by
  intro pins s σ H xs us Q I r h
  obtain ⟨a, dx, fs, rfl, ha, h⟩ := h
  rw [Vals.ref1 r]
  obtain ⟨mA, J, _⟩ := ins_get I.hok ha
  obtain ⟨od, J, _⟩ := J.look
  exact PySem.W.kso_call hr.in1.in1.units0 I.kIn J hs hf (run_str F ⟨hr.in1.in1, rfl⟩ hb I h)
end
/-! ### o.m(k = v): a method by keywords alone, what is raised wished for at the slots -/
section
variable {X : Cx} {CX : CXT} {k : Nat} {f C : Addr} {fd : FuncData} {ps ks : List Str} {sp : Sp} {E : L2.St → XK} {m : Str} {apos pos : Pos} {o : Expr} {kws : List Keyword} {ta : TE} {tk : TA}
  {g : List Value → List Value → List Value} {gV : List V → List V → List V}
def tMethKw (C : Addr) (m : Str) (sp : Sp) (gV : List V → List V → List V) (E : L2.St → XK) (ta : TE) (tk : TA) : TE := fun σ H Q => ta σ H fun x H1 => ∃ a dx fs, x = .ref a ∧ H1 a = some (.ins C dx fs) ∧ fs.lookup m = none ∧
  tk σ H1 fun zs H2 => sp (gV [x] zs) H2 Q (E σ)
theorem pe_methKw {pl : Sem Bool} (he : PE X o ta) (c : Cls X.K C) (hm : Meth X.K C m f) (F : FnOk X.prog X.w X.K X.mg X.base CX k f fd ps sp) (hr : Room k X.A) (hb : KBinds X.K fd ps ks g gV) (hx : ∀ σ, PassesAt CX X σ (E σ)) (hkw : PK X kws tk)
    (hall : (backToKw pos (keywordEach kws X.env)).all (·.1.isSome) = true := by rfl)
    (hks : (backToKw pos (keywordEach kws X.env)).filterMap (·.1) = ks := by rfl)
    (hpl : ((backTo pos (starEach [] X.env)).any (·.1) || (backToKw pos (keywordEach kws X.env)).any (·.1.isNone)) = false := by rfl)
    (ht : eval (.Call (.Attribute o m apos) [] kws pos) X.env = (do
      let ov ← eval o X.env
      standAt apos.atName
      let (f, first) ← holding [ov] (getMethod ov m pl)
      callWith pos f first (backTo pos (starEach [] X.env)) (backToKw pos (keywordEach kws X.env))) := by rfl) :
    PE X (.Call (.Attribute o m apos) [] kws pos) (tMethKw C m sp gV E ta tk) := by
  refine ⟨fun pins s σ H Q I h => ?_⟩
  refine PySem.W.methodCall_KW (pl := pl) (thn (he.run pins s σ H _ I h) fun u s1 ⟨x, H1, I1, rx, a, dx, fs, ex, ea, l, q⟩ => ?_) ht
  subst ex
  obtain rfl : u = Value.ref a := rx
  refine getmeth_ok I1 ea c hm l ?_
  refine PySem.W.callWith_KW0 (first := [.ref a]) (h₀ := X.base) I.ok.mod.kin hm.kp hall ?_ hpl
  refine thn (hkw.run pos pins s1 σ H1 _ I1 q) fun ws s2 ⟨zs, H2, I2, rz, q2⟩ => ⟨I2.kIn, ?_⟩
  rw [hks]
  have r1 : Vals [V.ref a] [Value.ref a] := .cons rfl .nil
  have r2 := hb.rel r1 rz
  have hl : (g [Value.ref a] ws).length = ps.length := r2.length.symm.trans (F.len _ _ _ _ q2)
  refine wpAny_call (codeAny_mono (F.run X.A X.stack s2 H2 ⟨[.ref a], ks.zip ws⟩ (g [.ref a] ws) (gV [.ref a] zs) Q (E σ) hr I2.env0 (hb.to s2 [.ref a] ws I2.kIn hl) r2 q2) fun r s' hq => ?_)
  match r, hq with
  | .error e, hq => exact hx σ pins H2 s2 e s' I2 hq
  | .ok (.ret u), hq => exact I2.after hq
  | .ok .next, hq => exact hq.elim
  | .ok .brk, hq => exact hq.elim
  | .ok .cont, hq => exact hq.elim
end
end LT

set_option Elab.async false
set_option linter.all false
set_option maxRecDepth 100000
namespace K12
open PySem PySem.Spec PyProof.Rows L2 LT
def topS (i : Nat) : Stmt := PySem.Challenge.pw_lightturns_k12_stretches_made.main.body.getD i (.Pass ⟨0, 0, 0, 0⟩)
abbrev sWhole : Stmt := topS 14
abbrev sFrom : Stmt := topS 15
abbrev sDay : Stmt := topS 16
abbrev sCls : Stmt := topS 18
abbrev sInit : Stmt := inClass sCls 0
abbrev sFirst : Stmt := inClass sCls 1
abbrev sLast : Stmt := inClass sCls 2
abbrev sHas : Stmt := inClass sCls 3
abbrev sEq : Stmt := inClass sCls 4
abbrev sRepr : Stmt := inClass sCls 5
abbrev sStr : Stmt := inClass sCls 6
structure Tx (mg : Str → Option Value) : Prop where
  isi : mg "isinstance" = none
  int : mg "int" = none
  bool : mg "bool" = none
  len : mg "len" = none
  abs : mg "abs" = none
  max : mg "max" = none
  min : mg "min" = none
  divmod : mg "divmod" = none
  range : mg "range" = none
  repr : mg "repr" = none
  str : mg "str" = none
  tuple : mg "tuple" = none
  ve : mg "ValueError" = none
/-- a def that stands as a name of the module -/
structure Has (K : PySem.W.Frag) (mg : Str → Option Value) (x : Str) (ps : List Str) (st : Stmt) (f : Addr) (fd : FuncData) : Prop where
  fn : Fun K x x st f fd
  bd : L2.Binds K fd ps []
  gl : mg x = some (.ref f)
/-- a method of the class at C -/
structure Mth (K : PySem.W.Frag) (C : Addr) (m q : Str) (ps : List Str) (st : Stmt) (f : Addr) (fd : FuncData) : Prop where
  fn : Fun K m q st f fd
  bd : L2.Binds K fd ps []
  me : Meth K C m f
/-- what is handed in -/
inductive Odd (H : Hp) : V → Prop
  | non : Odd H .non
  | bl (b : Bool) : Odd H (.bl b)
  | int (i : Int) : Odd H (.int i)
  | str (z : Str) : Odd H (.str z)
  | lst {a : Addr} {xs : List V} : H a = some (.lst xs) → Odd H (.ref a)
  | tup {a : Addr} {xs : List V} : H a = some (.tup xs) → Odd H (.ref a)
  | dK {a : Addr} {kvs : List (Key × V)} : H a = some (.dK kvs) → Odd H (.ref a)
theorem Odd.mono {H H' : Hp} (s : Same H H') {v : V} (h : Odd H v) : Odd H' v := by
  cases h with
  | non => exact .non
  | bl b => exact .bl b
  | int i => exact .int i
  | str z => exact .str z
  | lst e => exact .lst (s _ _ e)
  | tup e => exact .tup (s _ _ e)
  | dK e => exact .dK (s _ _ e)
def isInt : V → Bool
  | .int _ => true
  | .bl _ => true
  | _ => false
def isBl : V → Bool
  | .bl _ => true
  | _ => false
theorem Odd.ty {K : PySem.W.Frag} {H : Hp} {v : V} (h : Odd H v) : ∃ t, TyX K H v t ∧ PySem.W.kitOne K t (.type "int") = some (isInt v) ∧ PySem.W.kitOne K t (.type "bool") = some (isBl v) := by
  cases h with
  | non => exact ⟨_, .base .non, kit_ty (show kitB "NoneType" "int" = some false by decide +kernel), kit_ty (show kitB "NoneType" "bool" = some false by decide +kernel)⟩
  | bl b => exact ⟨_, .base (.bl b), kit_ty (show kitB "bool" "int" = some true by decide +kernel), kit_ty (show kitB "bool" "bool" = some true by decide +kernel)⟩
  | int i => exact ⟨_, .base (.int i), kit_ty (show kitB "int" "int" = some true by decide +kernel), kit_ty (show kitB "int" "bool" = some false by decide +kernel)⟩
  | str z => exact ⟨_, .base (.str z), kit_ty (show kitB "str" "int" = some false by decide +kernel), kit_ty (show kitB "str" "bool" = some false by decide +kernel)⟩
  | lst e => exact ⟨_, .base (.lst e), kit_ty (show kitB "list" "int" = some false by decide +kernel), kit_ty (show kitB "list" "bool" = some false by decide +kernel)⟩
  | tup e => exact ⟨_, .base (.tup e), kit_ty (show kitB "tuple" "int" = some false by decide +kernel), kit_ty (show kitB "tuple" "bool" = some false by decide +kernel)⟩
  | dK e => exact ⟨_, .base (.dK e), kit_ty (show kitB "dict" "int" = some false by decide +kernel), kit_ty (show kitB "dict" "bool" = some false by decide +kernel)⟩
def wholeB : V → Bool
  | .int _ => true
  | _ => false
def dayB : V → Bool
  | .int i => decide (0 ≤ i)
  | _ => false
theorem whole_eq (v : V) : (isInt v && !isBl v) = wholeB v := by cases v <;> rfl
def rightB : V → V → Bool
  | .int i, .non => decide (0 ≤ i)
  | .int i, .int j => decide (0 ≤ i) && decide (0 ≤ j) && decide (i ≤ j)
  | _, _ => false
section
variable {P : Program} {w : World} {K : PySem.W.Frag} {mg : Str → Option Value} {base : Heap}
theorem scWhole : FnScope ["thing"] ["thing"] (defScope sWhole) := ⟨rfl, rfl, rfl, by decide +kernel, rfl, by decide +kernel, by decide +kernel⟩
theorem scDay : FnScope ["thing"] ["thing"] (defScope sDay) := ⟨rfl, rfl, rfl, by decide +kernel, rfl, by decide +kernel, by decide +kernel⟩
theorem scInit : FnScope ["self", "first", "last"] ["self", "first", "last"] (defScope sInit) := ⟨rfl, rfl, rfl, by decide +kernel, rfl, by decide +kernel, by decide +kernel⟩
def spWhole : Sp := fun vs H Q _ => ∃ v, vs = [v] ∧ Odd H v ∧ Q (.bl (wholeB v)) H
def spDay : Sp := fun vs H Q _ => ∃ v, vs = [v] ∧ Odd H v ∧ Q (.bl (dayB v)) H
theorem ok_whole {f : Addr} {fd : FuncData} {k : Nat} (F : Fun K "is_whole" "is_whole" sWhole f fd) (T : Tx mg) : FnOk P w K mg base CX0 (k + 1) f fd ["thing"] spWhole := by
  refine F.ok scWhole (fun vs H Q E h => ?_) (fun cdv A outer s H vs Q E hr h => ?_)
  · obtain ⟨v, rfl, _⟩ := h
    rfl
  · obtain ⟨v, rfl, hv, q⟩ := h
    refine ⟨_, pss_one (ps_ret (pe_and (pe_callB call_isi (by rfl) T.isi (by decide +kernel) (pa_cons (pv 0) (pa_cons (pe_bltn (v := .ty "int") (by rfl) T.int (by decide +kernel) rfl) pa_nil)))
      (pe_one (pe_not (pe_callB call_isi (by rfl) T.isi (by decide +kernel) (pa_cons (pv 0) (pa_cons (pe_bltn (v := .ty "bool") (by rfl) T.bool (by decide +kernel) rfl) pa_nil))))))), ?_⟩
    obtain ⟨t, ty, k1, k2⟩ := hv.ty (K := K)
    refine ⟨_, rfl, v, .ty "int", t, _, isInt v, rfl, .ty _, ty, k1, _, rfl, ?_⟩
    rw [← whole_eq v] at q
    cases hb : isInt v with
    | false =>
      rw [hb] at q
      exact q
    | true =>
      rw [hb] at q
      exact ⟨_, rfl, v, .ty "bool", t, _, isBl v, rfl, .ty _, ty, k2, _, rfl, q⟩
theorem scFrom : FnScope ["thing", "least"] ["thing", "least"] (defScope sFrom) := ⟨rfl, rfl, rfl, by decide +kernel, rfl, by decide +kernel, by decide +kernel⟩
def spFrom : Sp := fun vs H Q _ => ∃ v, vs = [v, .int 0] ∧ Odd H v ∧ Q (.bl (dayB v)) H
theorem ok_from {f fW : Addr} {fd fdW : FuncData} {k : Nat} (F : Fun K "is_from" "is_from" sFrom f fd) (T : Tx mg) (FW : Has K mg "is_whole" ["thing"] sWhole fW fdW) : FnOk P w K mg base CX0 (k + 2) f fd ["thing", "least"] spFrom := by
  have GW : FnOk P w K mg base CX0 (k + 1) fW fdW ["thing"] spWhole := ok_whole FW.fn T
  refine F.ok scFrom (fun vs H Q E h => ?_) (fun cdv A outer s H vs Q E hr h => ?_)
  · obtain ⟨v, rfl, _⟩ := h
    rfl
  · obtain ⟨v, rfl, hv, q⟩ := h
    refine ⟨_, pss_one (ps_ret (pe_and (pe_call GW hr (by rfl) FW.gl FW.fn.kp FW.bd .nil pass0 (pa_cons (pv 0) pa_nil)) (pe_one (pe_cmpR op_ge (pv 0) (pv 1) (nomark _))))), ?_⟩
    refine ⟨_, rfl, v, rfl, hv, _, rfl, ?_⟩
    cases hv with
    | int i => exact ⟨_, rfl, _, rfl, i, 0, rfl, rfl, q⟩
    | _ => exact q
/-- is_whole, and is_from that goes by it -/
structure HasW (K : PySem.W.Frag) (mg : Str → Option Value) (fW : Addr) (fdW : FuncData) : Prop where
  w : Has K mg "is_whole" ["thing"] sWhole fW fdW
  f : ∃ g gd, Has K mg "is_from" ["thing", "least"] sFrom g gd
theorem ok_day {f fW : Addr} {fd fdW : FuncData} {k : Nat} (F : Fun K "is_day" "is_day" sDay f fd) (T : Tx mg) (FW : HasW K mg fW fdW) : FnOk P w K mg base CX0 (k + 3) f fd ["thing"] spDay := by
  obtain ⟨FW, fF, fdF, FF⟩ := FW
  have GF : FnOk P w K mg base CX0 (k + 2) fF fdF ["thing", "least"] spFrom := ok_from FF.fn T FW
  refine F.ok scDay (fun vs H Q E h => ?_) (fun cdv A outer s H vs Q E hr h => ?_)
  · obtain ⟨v, rfl, _⟩ := h
    rfl
  · obtain ⟨v, rfl, hv, q⟩ := h
    refine ⟨_, pss_one (ps_ret (pe_call GF hr (by rfl) FF.gl FF.fn.kp FF.bd .nil pass0 (pa_cons (pv 0) (pa_cons pe_int pa_nil)))), ?_⟩
    exact ⟨_, rfl, v, rfl, hv, q⟩
/-! ### the class -/
structure Ct (K : PySem.W.Frag) (mg : Str → Option Value) (C CN : Addr) : Prop where
  cl : Cls K C
  nF : PySem.W.findIn K (.ref C) "first_day" = some none
  nL : PySem.W.findIn K (.ref C) "last_day" = some none
  mgC : mg "Stretch" = some (.ref C)
  kC : PySem.W.keepIn K (.ref C) = true
  ha : PySem.W.findIn K (.ref C) "__class__" = some (some (.builtin "object.__class__"))
  hn : PySem.W.specialIn K (.builtin "object.__class__") "__get__" = some (some (.builtin "getset_descriptor.__get__"))
  ht : PySem.W.takesIn K (.builtin "object.__class__") = some true
  hm : PySem.W.mroIn K C (.type "object") = some true
  gN : mg "NoDay" = some (.ref CN)
  xN : PySem.W.excIn K CN [.type "ValueError", .type "Exception", .type "BaseException", .type "object"] "ValueError.__new__" = true
  kN : PySem.W.keepIn K (.ref CN) = true
  bN : PySem.W.subIn K (.ref CN) (.type "BaseException") = some true
  tN : PySem.W.typeIn K (.ref CN) = some (.type "type")
def sf (fv lv : V) : List (Str × V) := [("first_day", fv), ("last_day", lv)]
def spInit (C CN : Addr) : Sp := fun vs H Q E => ∃ x dx fv lv, vs = [.ref x, fv, lv] ∧ H x = some (.ins C dx []) ∧ Odd H fv ∧ Odd H lv ∧
  (rightB fv lv = true → Q .non (upd H x (.ins C dx (sf fv lv)))) ∧ (rightB fv lv = false → E (.ref CN) none H)
theorem ok_init {f fD fW C CN : Addr} {fd fdD fdW : FuncData} {k : Nat} (F : FunD K "__init__" "Stretch.__init__" (defArgs sInit) (defBody sInit) (defScope sInit) [.non] [] f fd) (T : Tx mg) (Z : Ct K mg C CN)
    (FD : Has K mg "is_day" ["thing"] sDay fD fdD) (FW : HasW K mg fW fdW) : FnOk P w K mg base (L2.CX P w) (k + 4) f fd ["self", "first", "last"] (spInit C CN) := by
  have GD : FnOk P w K mg base CX0 (k + 3) fD fdD ["thing"] spDay := ok_day FD.fn T FW
  refine F.ok scInit (fun vs H Q E h => ?_) (fun cdv A outer s H vs Q E hr h => ?_)
  · obtain ⟨x, dx, fv, lv, rfl, _⟩ := h
    rfl
  · obtain ⟨x, dx, fv, lv, rfl, hx, of, ol, q1, q2⟩ := h
    refine ⟨_, pss_cons (ps_if (pt_not (pt_val (pe_call GD hr (by rfl) FD.gl FD.fn.kp FD.bd .nil pass0 (pa_cons (pv 1) pa_nil))))
        (pss_one (ps_raise rfl (takes_of rfl rfl rfl rfl) (pmk_own PySem.F.excBase_ValueError Z.xN Z.gN Z.kN (raises_own Z.bN Z.tN) (by rfl)))) pss_nil)
      (pss_cons (ps_if (PW.pt (pw_and (pt_cmpR op_notN (pv 2) pe_non (nomark _)) (pw_and1 (pt_not (pt_val (pe_call GD hr (by rfl) FD.gl FD.fn.kp FD.bd .nil pass0 (pa_cons (pv 2) pa_nil)))))))
        (pss_one (ps_raise rfl (takes_of rfl rfl rfl rfl) (pmk_own PySem.F.excBase_ValueError Z.xN Z.gN Z.kN (raises_own Z.bN Z.tN) (by rfl)))) pss_nil)
      (pss_cons (ps_if (PW.pt (pw_and (pt_cmpR op_notN (pv 2) pe_non (nomark _)) (pw_and1 (pt_cmpR op_lt (pv 2) (pv 1) (nomark _)))))
        (pss_one (ps_raise rfl (takes_of rfl rfl rfl rfl) (pmk_own PySem.F.excBase_ValueError Z.xN Z.gN Z.kN (raises_own Z.bN Z.tN) (by rfl)))) pss_nil)
      (pss_cons (ps_fld (pv 0) (pv 1) rfl) (pss_one (ps_fld (pv 0) (pv 2) rfl))))), ?_⟩
    refine ⟨_, rfl, fv, rfl, of, _, rfl, ?_⟩
    have key : ∀ i : Int, 0 ≤ i → dayB (.int i) = true := fun i h => decide_eq_true h
    by_cases hd : dayB fv = true
    · obtain ⟨i, rfl, hi⟩ : ∃ i, fv = .int i ∧ 0 ≤ i := by
        cases fv <;> first | exact ⟨_, rfl, of_decide_eq_true hd⟩ | cases hd
      rw [key i hi]
      have put : ∀ lv, putF ("last_day" : Str) lv (putF ("first_day" : Str) (.int i) []) = sf (.int i) lv := fun lv => rfl
      have stores : ∀ lv, (rightB (.int i) lv = true → Q .non (upd H x (.ins C dx (sf (.int i) lv)))) → rightB (.int i) lv = true →
          Q .non (upd (upd H x (.ins C dx (putF ("first_day" : Str) (.int i) []))) x (.ins C dx (putF ("last_day" : Str) lv (putF ("first_day" : Str) (.int i) [])))) := fun lv h r => by
        rw [upd_upd, put]
        exact h r
      by_cases hl : lv = .non
      · subst hl
        refine ⟨_, rfl, rfl, _, rfl, ?_⟩
        refine ⟨_, rfl, rfl, _, rfl, ?_⟩
        refine ⟨_, rfl, _, rfl, x, C, dx, _, rfl, hx, Z.cl, Z.nF, (by decide), ?_⟩
        refine ⟨_, rfl, _, rfl, x, C, dx, _, rfl, upd_same, Z.cl, Z.nL, (by show 1 < 1000; decide), ?_⟩
        exact stores _ q1 (decide_eq_true hi)
      · have e1 : (!decide (lv = .non)) = true := by rw [decide_eq_false hl]; rfl
        refine ⟨_, rfl, rfl, _, rfl, ?_⟩
        rw [e1]
        refine ⟨_, rfl, lv, rfl, ol, _, rfl, ?_⟩
        by_cases hd2 : dayB lv = true
        · obtain ⟨j, rfl, hj⟩ : ∃ j, lv = .int j ∧ 0 ≤ j := by
            cases lv <;> first | exact ⟨_, rfl, of_decide_eq_true hd2⟩ | cases hd2
          rw [key j hj]
          refine ⟨_, rfl, rfl, _, rfl, ?_⟩
          rw [e1]
          refine ⟨_, rfl, _, rfl, j, i, rfl, rfl, _, rfl, ?_⟩
          by_cases hlt : j < i
          · rw [decide_eq_true hlt]
            refine q2 ?_
            show (decide (0 ≤ i) && decide (0 ≤ j) && decide (i ≤ j)) = false
            rw [decide_eq_false (show ¬ i ≤ j by omega), Bool.and_false]
          · rw [decide_eq_false hlt]
            refine ⟨_, rfl, _, rfl, x, C, dx, _, rfl, hx, Z.cl, Z.nF, (by decide), ?_⟩
            refine ⟨_, rfl, _, rfl, x, C, dx, _, rfl, upd_same, Z.cl, Z.nL, (by show 1 < 1000; decide), ?_⟩
            refine stores _ q1 ?_
            show (decide (0 ≤ i) && decide (0 ≤ j) && decide (i ≤ j)) = true
            rw [decide_eq_true hi, decide_eq_true hj, decide_eq_true (show i ≤ j by omega)]
            rfl
        · have e2 : dayB lv = false := by cases h : dayB lv <;> first | rfl | exact absurd h hd2
          rw [e2]
          refine q2 ?_
          cases lv with
          | non => exact absurd rfl hl
          | int j =>
            show (decide (0 ≤ i) && decide (0 ≤ j) && decide (i ≤ j)) = false
            have e3 : decide (0 ≤ j) = false := e2
            rw [e3, Bool.and_false, Bool.false_and]
          | _ => rfl
    · have e2 : dayB fv = false := by cases h : dayB fv <;> first | rfl | exact absurd h hd
      rw [e2]
      refine q2 ?_
      cases fv with
      | int i =>
        have e3 : decide (0 ≤ i) = false := e2
        cases lv with
        | non => exact e3
        | int j =>
          show (decide (0 ≤ i) && decide (0 ≤ j) && decide (i ≤ j)) = false
          rw [e3, Bool.false_and, Bool.false_and]
        | _ => rfl
      | _ => cases lv <;> rfl
end
end K12

set_option Elab.async false
set_option linter.all false
set_option maxRecDepth 100000
namespace K12
open PySem PySem.Spec PyProof.Rows L2 LT
theorem scFirst : FnScope ["self"] ["self"] (defScope sFirst) := ⟨rfl, rfl, rfl, by decide +kernel, rfl, by decide +kernel, by decide +kernel⟩
theorem scLast : FnScope ["self"] ["self"] (defScope sLast) := ⟨rfl, rfl, rfl, by decide +kernel, rfl, by decide +kernel, by decide +kernel⟩
theorem scHas : FnScope ["self", "day"] ["self", "day"] (defScope sHas) := ⟨rfl, rfl, rfl, by decide +kernel, rfl, by decide +kernel, by decide +kernel⟩
theorem scEq : FnScope ["self", "other"] ["self", "other"] (defScope sEq) := ⟨rfl, rfl, rfl, by decide +kernel, rfl, by decide +kernel, by decide +kernel⟩
theorem scRepr : FnScope ["self"] ["self"] (defScope sRepr) := ⟨rfl, rfl, rfl, by decide +kernel, rfl, by decide +kernel, by decide +kernel⟩
theorem scStr : FnScope ["self"] ["self"] (defScope sStr) := ⟨rfl, rfl, rfl, by decide +kernel, rfl, by decide +kernel, by decide +kernel⟩
/-- an end of a stretch -/
def EndV (v : V) : Prop := v = .non ∨ ∃ j : Int, v = .int j ∧ j.natAbs.log2 < 1920
/-- a stretch stands at x -/
structure St (C : Addr) (H : Hp) (x : Addr) (i : Int) (lv : V) : Prop where
  at_ : ∃ dx, H x = some (.ins C dx (sf (.int i) lv))
  lg : i.natAbs.log2 < 1920
  en : EndV lv
theorem St.mono {C : Addr} {H H' : Hp} {x : Addr} {i : Int} {lv : V} (s : St C H x i lv) (e : Same H H') : St C H' x i lv := by
  obtain ⟨⟨dx, h⟩, l, n⟩ := s
  exact ⟨⟨dx, e _ _ h⟩, l, n⟩
theorem sf_first (a b : V) : (sf a b).lookup ("first_day" : Str) = some a := by
  unfold sf
  rfl
theorem sf_last (a b : V) : (sf a b).lookup ("last_day" : Str) = some b := by
  unfold sf
  rfl
/-- the other thing is no stretch -/
theorem Odd.noSt {H : Hp} {C : Addr} {v : V} (h : Odd H v) : ∀ b dy gs, v = .ref b → H b ≠ some (.ins C dy gs) := by
  intro b dy gs e z
  cases h with
  | lst q => cases e; rw [q] at z; cases z
  | tup q => cases e; rw [q] at z; cases z
  | dK q => cases e; rw [q] at z; cases z
  | _ => cases e
section
variable {P : Program} {w : World} {K : PySem.W.Frag} {mg : Str → Option Value} {base : Heap} {C CN : Addr}
def spGet (C : Addr) (g : V → V → V) : Sp := fun vs H Q _ => ∃ x i lv, vs = [.ref x] ∧ St C H x i lv ∧ Q (g (.int i) lv) H
theorem ok_first {f : Addr} {fd : FuncData} {k : Nat} (F : Fun K "first" "Stretch.first" sFirst f fd) (Z : Ct K mg C CN) : FnOk P w K mg base CX0 (k + 1) f fd ["self"] (spGet C fun a _ => a) := by
  refine F.ok scFirst (fun vs H Q E h => ?_) (fun cdv A outer s H vs Q E hr h => ?_)
  · obtain ⟨x, i, lv, rfl, _⟩ := h
    rfl
  · obtain ⟨x, i, lv, rfl, ⟨⟨dx, hx⟩, _, _⟩, q⟩ := h
    exact ⟨_, pss_one (ps_ret (pe_fld (pv 0) rfl)), _, rfl, x, C, dx, _, _, rfl, hx, Z.cl, Z.nF, sf_first _ _, q⟩
theorem ok_last {f : Addr} {fd : FuncData} {k : Nat} (F : Fun K "last" "Stretch.last" sLast f fd) (Z : Ct K mg C CN) : FnOk P w K mg base CX0 (k + 1) f fd ["self"] (spGet C fun _ b => b) := by
  refine F.ok scLast (fun vs H Q E h => ?_) (fun cdv A outer s H vs Q E hr h => ?_)
  · obtain ⟨x, i, lv, rfl, _⟩ := h
    rfl
  · obtain ⟨x, i, lv, rfl, ⟨⟨dx, hx⟩, _, _⟩, q⟩ := h
    exact ⟨_, pss_one (ps_ret (pe_fld (pv 0) rfl)), _, rfl, x, C, dx, _, _, rfl, hx, Z.cl, Z.nL, sf_last _ _, q⟩
/-! ### has -/
def upTo (d : Int) : V → Bool
  | .int j => decide (d ≤ j)
  | _ => true
def hasB (i : Int) (lv : V) : V → Bool
  | .int d => decide (i ≤ d) && upTo d lv
  | _ => false
def spHas (C CN : Addr) : Sp := fun vs H Q E => ∃ x i lv v, vs = [.ref x, v] ∧ St C H x i lv ∧ Odd H v ∧ (dayB v = true → Q (.bl (hasB i lv v)) H) ∧ (dayB v = false → E (.ref CN) none H)
theorem ok_has {f fD fW : Addr} {fd fdD fdW : FuncData} {k : Nat} (F : Fun K "has" "Stretch.has" sHas f fd) (T : Tx mg) (Z : Ct K mg C CN)
    (FD : Has K mg "is_day" ["thing"] sDay fD fdD) (FW : HasW K mg fW fdW) : FnOk P w K mg base (L2.CX P w) (k + 4) f fd ["self", "day"] (spHas C CN) := by
  have GD : FnOk P w K mg base CX0 (k + 3) fD fdD ["thing"] spDay := ok_day FD.fn T FW
  refine F.okX scHas (fun vs H Q E h => ?_) (fun cdv A outer s H vs Q E hr h => ?_)
  · obtain ⟨x, i, lv, v, rfl, _⟩ := h
    rfl
  · obtain ⟨x, i, lv, v, rfl, ⟨⟨dx, hx⟩, _, en⟩, ov, q1, q2⟩ := h
    refine ⟨_, pss_cons (ps_if (pt_not (pt_val (pe_call GD hr (by rfl) FD.gl FD.fn.kp FD.bd .nil pass0 (pa_cons (pv 1) pa_nil))))
        (pss_one (ps_raise rfl (takes_of rfl rfl rfl rfl) (pmk_own PySem.F.excBase_ValueError Z.xN Z.gN Z.kN (raises_own Z.bN Z.tN) (by rfl)))) pss_nil)
      (pss_one (ps_ret (pe_and (pe_cmpR op_le (pe_fld (pv 0) rfl) (pv 1) (nomark _)) (pe_one (pe_or (pe_cmpR op_isN (pe_fld (pv 0) rfl) pe_non (nomark _)) (pe_one (pe_cmpR op_le (pv 1) (pe_fld (pv 0) rfl) (nomark _)))))))), ?_⟩
    refine ⟨_, rfl, v, rfl, ov, _, rfl, ?_⟩
    by_cases hd : dayB v = true
    · obtain ⟨d, rfl, hd0⟩ : ∃ d, v = .int d ∧ 0 ≤ d := by
        cases v <;> first | exact ⟨_, rfl, of_decide_eq_true hd⟩ | cases hd
      have q := q1 hd
      rw [hd]
      refine ⟨_, rfl, x, C, dx, _, _, rfl, hx, Z.cl, Z.nF, sf_first _ _, _, rfl, i, d, rfl, rfl, _, rfl, ?_⟩
      have q' : Q (.bl (decide (i ≤ d) && upTo d lv)) H := q
      cases hid : decide (i ≤ d) with
      | false =>
        rw [hid] at q'
        exact q'
      | true =>
        rw [hid] at q'
        refine ⟨_, rfl, x, C, dx, _, _, rfl, hx, Z.cl, Z.nL, sf_last _ _, rfl, _, rfl, ?_⟩
        rcases en with rfl | ⟨j, rfl, _⟩
        · exact q'
        · exact ⟨_, rfl, _, rfl, x, C, dx, _, _, rfl, hx, Z.cl, Z.nL, sf_last _ _, d, j, rfl, rfl, q'⟩
    · have e2 : dayB v = false := by cases h : dayB v <;> first | rfl | exact absurd h hd
      rw [e2]
      exact q2 e2
/-! ### == -/
structure Ki (K : PySem.W.Frag) (C : Addr) : Prop where
  own : PySem.W.kitOne K (.ref C) (.ref C) = some true
  bt : ∀ T ∈ ["NoneType", "bool", "int", "str", "list", "tuple", "dict"], PySem.W.kitOne K (.type T) (.ref C) = some false
theorem Odd.kit {H : Hp} {v : V} (h : Odd H v) (Q : Ki K C) : ∃ t, TyX K H v t ∧ PySem.W.kitOne K t (.ref C) = some false := by
  cases h with
  | non => exact ⟨_, .base .non, Q.bt _ (by decide)⟩
  | bl b => exact ⟨_, .base (.bl b), Q.bt _ (by decide)⟩
  | int i => exact ⟨_, .base (.int i), Q.bt _ (by decide)⟩
  | str z => exact ⟨_, .base (.str z), Q.bt _ (by decide)⟩
  | lst e => exact ⟨_, .base (.lst e), Q.bt _ (by decide)⟩
  | tup e => exact ⟨_, .base (.tup e), Q.bt _ (by decide)⟩
  | dK e => exact ⟨_, .base (.dK e), Q.bt _ (by decide)⟩
def spEqS (C : Addr) : Sp := fun vs H Q _ => ∃ a i lv v, vs = [.ref a, v] ∧ St C H a i lv ∧
  ((∃ b j mv, v = .ref b ∧ St C H b j mv ∧ Q (.bl (decide (i = j) && decide (lv = mv))) H) ∨ (Odd H v ∧ Q (.bl false) H))
theorem dec_int' (i j : Int) : decide (V.int i = V.int j) = decide (i = j) := by
  by_cases h : i = j
  · rw [decide_eq_true h, decide_eq_true (by rw [h])]
  · rw [decide_eq_false h, decide_eq_false fun e => h (V.int.inj e)]
theorem ok_eq {f : Addr} {fd : FuncData} {k : Nat} (F : Fun K "__eq__" "Stretch.__eq__" sEq f fd) (T : Tx mg) (Z : Ct K mg C CN) (QQ : Ki K C) : FnOk P w K mg base CX0 (k + 1) f fd ["self", "other"] (spEqS C) := by
  refine F.ok scEq (fun vs H Q E h => ?_) (fun cdv A outer s H vs Q E hr h => ?_)
  · obtain ⟨a, i, lv, v, rfl, _⟩ := h
    rfl
  · obtain ⟨a, i, lv, v, rfl, ⟨⟨dx, hx⟩, _, en⟩, h⟩ := h
    refine ⟨_, pss_one (ps_ret (pe_and (pe_callB call_isi (by rfl) T.isi (by decide +kernel) (pa_cons (pv 1) (pa_cons (pe_glob (v := .ref C) (by rfl) Z.mgC rfl) pa_nil)))
      (pe_and (pe_cmpR op_eq (pe_fld (pv 0) rfl) (pe_fld (pv 1) rfl) (nomark _)) (pe_one (pe_cmpR op_eq (pe_fld (pv 0) rfl) (pe_fld (pv 1) rfl) (nomark _)))))), ?_⟩
    rcases h with ⟨b, j, mv, rfl, ⟨⟨dy, hy⟩, _, em⟩, q⟩ | ⟨ov, q⟩
    · refine ⟨_, rfl, .ref b, .ref C, _, _, true, rfl, .own C, .base (.ins hy Z.cl Z.ha Z.hn Z.ht Z.hm), QQ.own, _, rfl, ?_⟩
      refine ⟨_, rfl, a, C, dx, _, _, rfl, hx, Z.cl, Z.nF, sf_first _ _, _, rfl, b, C, dy, _, _, rfl, hy, Z.cl, Z.nF, sf_first _ _, rfl, _, rfl, ?_⟩
      rw [dec_int']
      cases hij : decide (i = j) with
      | false =>
        rw [hij] at q
        exact q
      | true =>
        rw [hij] at q
        refine ⟨_, rfl, a, C, dx, _, _, rfl, hx, Z.cl, Z.nL, sf_last _ _, _, rfl, b, C, dy, _, _, rfl, hy, Z.cl, Z.nL, sf_last _ _, ?_, q⟩
        rcases en with rfl | ⟨_, rfl, _⟩ <;> rcases em with rfl | ⟨_, rfl, _⟩ <;> rfl
    · obtain ⟨t, ty, kt⟩ := ov.kit QQ
      exact ⟨_, rfl, v, .ref C, t, _, false, rfl, .own C, ty, kt, _, rfl, q⟩
/-! ### repr, str -/
def shownR (i : Int) : V → Str
  | .int j => Str.ofString "Stretch(" ++ Str.ofString (toString i) ++ Str.ofString ", " ++ Str.ofString (toString j) ++ Str.ofString ")"
  | _ => Str.ofString "Stretch(" ++ Str.ofString (toString i) ++ Str.ofString ")"
def shownS (i : Int) : V → Str
  | .int j => Str.ofString (toString i) ++ Str.ofString "-" ++ Str.ofString (toString j)
  | _ => Str.ofString (toString i) ++ Str.ofString "-"
theorem tlen {i : Int} (h : i.natAbs.log2 < 1920) : (Str.ofString (toString i)).length ≤ 1921 := by
  rw [PySem.ofString_length]
  exact int_text_length_le (by decide) h
theorem nil_app (x : Str) : Str.empty ++ x = x := by
  cases x with
  | mk a =>
    show Str.mk (#[] ++ a) = Str.mk a
    rw [Array.empty_append]
def spShow (C : Addr) (g : Int → V → Str) : Sp := fun vs H Q _ => ∃ x i lv, vs = [.ref x] ∧ St C H x i lv ∧ Q (.str (g i lv)) H
theorem ok_repr {f : Addr} {fd : FuncData} {k : Nat} (F : Fun K "__repr__" "Stretch.__repr__" sRepr f fd) (Z : Ct K mg C CN) : FnOk P w K mg base CX0 (k + 1) f fd ["self"] (spShow C shownR) := by
  refine F.ok scRepr (fun vs H Q E h => ?_) (fun cdv A outer s H vs Q E hr h => ?_)
  · obtain ⟨x, i, lv, rfl, _⟩ := h
    rfl
  · obtain ⟨x, i, lv, rfl, ⟨⟨dx, hx⟩, hi, en⟩, q⟩ := h
    refine ⟨_, pss_cons (ps_if (pt_cmpR op_isN (pe_fld (pv 0) rfl) pe_non (nomark _)) (pss_one (ps_ret (pe_joined (.cons pe_str (.cons (pe_fmt (pe_fld (pv 0) rfl)) (.cons pe_str .nil)))))) pss_nil)
      (pss_one (ps_ret (pe_joined (.cons pe_str (.cons (pe_fmt (pe_fld (pv 0) rfl)) (.cons pe_str (.cons (pe_fmt (pe_fld (pv 0) rfl)) (.cons pe_str .nil)))))))), ?_⟩
    have li := tlen hi
    refine ⟨_, rfl, x, C, dx, _, _, rfl, hx, Z.cl, Z.nL, sf_last _ _, rfl, _, rfl, ?_⟩
    rcases en with rfl | ⟨j, rfl, hj⟩
    · refine ⟨_, rfl, by rw [nil_app]; decide +kernel, _, rfl, x, C, dx, _, _, rfl, hx, Z.cl, Z.nF, sf_first _ _, .inr ⟨i, rfl, hi, _, rfl, ?_, _, rfl, ?_, ?_⟩⟩
      · rw [nil_app, strLen_append, sizeLine_eq, show (Str.ofString "Stretch(").length = 8 by decide +kernel]
        omega
      · rw [nil_app, strLen_append, strLen_append, sizeLine_eq, show (Str.ofString "Stretch(").length = 8 by decide +kernel, show (Str.ofString ")").length = 1 by decide +kernel]
        omega
      · rw [nil_app]
        exact q
    · have lj := tlen hj
      refine ⟨_, rfl, by rw [nil_app]; decide +kernel, _, rfl, x, C, dx, _, _, rfl, hx, Z.cl, Z.nF, sf_first _ _, .inr ⟨i, rfl, hi, _, rfl, ?_, _, rfl, ?_, _, rfl, x, C, dx, _, _, rfl, hx, Z.cl, Z.nL, sf_last _ _, .inr ⟨j, rfl, hj, _, rfl, ?_, _, rfl, ?_, ?_⟩⟩⟩
      · rw [nil_app, strLen_append, sizeLine_eq, show (Str.ofString "Stretch(").length = 8 by decide +kernel]
        omega
      · rw [nil_app, strLen_append, strLen_append, sizeLine_eq, show (Str.ofString "Stretch(").length = 8 by decide +kernel, show (Str.ofString ", ").length = 2 by decide +kernel]
        omega
      · rw [nil_app, strLen_append, strLen_append, strLen_append, sizeLine_eq, show (Str.ofString "Stretch(").length = 8 by decide +kernel, show (Str.ofString ", ").length = 2 by decide +kernel]
        omega
      · rw [nil_app, strLen_append, strLen_append, strLen_append, strLen_append, sizeLine_eq, show (Str.ofString "Stretch(").length = 8 by decide +kernel, show (Str.ofString ", ").length = 2 by decide +kernel, show (Str.ofString ")").length = 1 by decide +kernel]
        omega
      · rw [nil_app]
        exact q
theorem ok_str {f : Addr} {fd : FuncData} {k : Nat} (F : Fun K "__str__" "Stretch.__str__" sStr f fd) (Z : Ct K mg C CN) : FnOk P w K mg base CX0 (k + 1) f fd ["self"] (spShow C shownS) := by
  refine F.ok scStr (fun vs H Q E h => ?_) (fun cdv A outer s H vs Q E hr h => ?_)
  · obtain ⟨x, i, lv, rfl, _⟩ := h
    rfl
  · obtain ⟨x, i, lv, rfl, ⟨⟨dx, hx⟩, hi, en⟩, q⟩ := h
    refine ⟨_, pss_cons (ps_if (pt_cmpR op_isN (pe_fld (pv 0) rfl) pe_non (nomark _)) (pss_one (ps_ret (pe_joined (.cons (pe_fmt (pe_fld (pv 0) rfl)) (.cons pe_str .nil))))) pss_nil)
      (pss_one (ps_ret (pe_joined (.cons (pe_fmt (pe_fld (pv 0) rfl)) (.cons pe_str (.cons (pe_fmt (pe_fld (pv 0) rfl)) .nil)))))), ?_⟩
    have li := tlen hi
    refine ⟨_, rfl, x, C, dx, _, _, rfl, hx, Z.cl, Z.nL, sf_last _ _, rfl, _, rfl, ?_⟩
    rcases en with rfl | ⟨j, rfl, hj⟩
    · refine ⟨_, rfl, x, C, dx, _, _, rfl, hx, Z.cl, Z.nF, sf_first _ _, .inr ⟨i, rfl, hi, _, rfl, ?_, _, rfl, ?_, ?_⟩⟩
      · rw [nil_app, sizeLine_eq]
        omega
      · rw [nil_app, strLen_append, sizeLine_eq, show (Str.ofString "-").length = 1 by decide +kernel]
        omega
      · rw [nil_app]
        exact q
    · have lj := tlen hj
      refine ⟨_, rfl, x, C, dx, _, _, rfl, hx, Z.cl, Z.nF, sf_first _ _, .inr ⟨i, rfl, hi, _, rfl, ?_, _, rfl, ?_, _, rfl, x, C, dx, _, _, rfl, hx, Z.cl, Z.nL, sf_last _ _, .inr ⟨j, rfl, hj, _, rfl, ?_, ?_⟩⟩⟩
      · rw [nil_app, sizeLine_eq]
        omega
      · rw [nil_app, strLen_append, sizeLine_eq, show (Str.ofString "-").length = 1 by decide +kernel]
        omega
      · rw [nil_app, strLen_append, strLen_append, sizeLine_eq, show (Str.ofString "-").length = 1 by decide +kernel]
        omega
      · rw [nil_app]
        exact q
end
end K12

set_option Elab.async false
set_option linter.all false
set_option maxRecDepth 100000
namespace K12
open PySem PySem.Spec PyProof.Rows L2 LT
abbrev sCell : Stmt := topS 20
abbrev sPot : Stmt := topS 21
abbrev sTake : Stmt := topS 22
abbrev sFar : Stmt := topS 23
abbrev sLday : Stmt := topS 24
abbrev sGood : Stmt := topS 25
abbrev sSpoilt : Stmt := topS 26
abbrev sLis : Stmt := topS 27
abbrev sRight : Stmt := topS 28
abbrev sWord : Stmt := topS 29
abbrev sMade : Stmt := topS 30
abbrev sMet : Stmt := topS 31
abbrev sLhas : Stmt := topS 32
abbrev sHasR : Stmt := topS 33
abbrev sShown : Stmt := topS 34
abbrev sTold : Stmt := topS 35
abbrev sAlike : Stmt := topS 36
abbrev sLaw : Stmt := topS 37
theorem same_upd {H : Hp} {p : Addr} {o : HO} (h : H p = none) : Same H (upd H p o) := fun b x e => by
  rw [upd_ne (ne_of_none e h)]
  exact e
theorem same_app {H H1 : Hp} {p : Addr} {o : HO} (h : H p = none) (s : Same H H1) : Same H (upd H1 p o) := fun b x e => by
  rw [upd_ne (ne_of_none e h)]
  exact s _ _ e
theorem scCell : FnScope ["_law_script", "_law_k"] ["_law_script", "_law_k"] (defScope sCell) := ⟨rfl, rfl, rfl, by decide +kernel, rfl, by decide +kernel, by decide +kernel⟩
theorem scPot : FnScope ["_law_script", "_law_k", "_law_cell_here"] ["_law_script", "_law_k"] (defScope sPot) := ⟨rfl, rfl, rfl, by decide +kernel, rfl, by decide +kernel, by decide +kernel⟩
theorem scTake : FnScope ["_law_pot_here", "_law_room", "_law_digit"] ["_law_pot_here", "_law_room"] (defScope sTake) := ⟨rfl, rfl, rfl, by decide +kernel, rfl, by decide +kernel, by decide +kernel⟩
section
variable {P : Program} {w : World} {K : PySem.W.Frag} {mg : Str → Option Value} {base : Heap}
/-- a cell of the script -/
def spCell (K : PySem.W.Frag) : Sp := fun vs H Q _ => ∃ (a : Addr) (ns : List Int) (k : Nat), vs = [.ref a, .int (k : Nat)] ∧ SqL K H a (ns.map V.int) ∧
  ∀ z : Int, (z = 0 ∨ z ∈ ns) → Q (.int z) H
theorem ok_cell {f : Addr} {fd : FuncData} {k : Nat} (F : Fun K "_law_cell" "_law_cell" sCell f fd) (T : Tx mg) : FnOk P w K mg base CX0 (k + 1) f fd ["_law_script", "_law_k"] (spCell K) := by
  refine F.ok scCell (fun vs H Q E h => ?_) (fun cdv A outer s H vs Q E hr h => ?_)
  · obtain ⟨a, ns, k, rfl, _⟩ := h
    rfl
  · obtain ⟨a, ns, k, rfl, hS, q⟩ := h
    refine ⟨_, pss_one (ps_ret (pe_ifExp (pt_cmpR op_lt (pv 1) (pe_callB call_len_seq (by rfl) T.len PySem.boot_len (pa_cons (pv 0) pa_nil)) (nomark _))
      (pe_ix ix_list (pv 0) (pv 1) (fun _ _ => rfl)) pe_int)), ?_⟩
    refine ⟨_, rfl, _, rfl, a, _, rfl, .inl hS, _, _, rfl, rfl, _, rfl, ?_⟩
    by_cases hk : k < ns.length
    · rw [decide_eq_true (show ((k : Nat) : Int) < ((ns.map V.int).length : Nat) by rw [List.length_map]; omega)]
      refine iteT ?_
      refine ⟨_, rfl, _, rfl, a, _, _, .int ns[k], rfl, rfl, hS, atI_nat (by rw [List.getElem?_map, List.getElem?_eq_getElem hk]; rfl), ?_⟩
      exact q _ (.inr (List.getElem_mem hk))
    · rw [decide_eq_false (show ¬ ((k : Nat) : Int) < ((ns.map V.int).length : Nat) by rw [List.length_map]; omega)]
      exact iteF (q 0 (.inl rfl))
/-- a pot: two numbers -/
def Pot (H : Hp) (p : Addr) : Prop := ∃ a b : Int, H p = some (.lst [.int a, .int b]) ∧ 0 ≤ a ∧ 0 ≤ b ∧ b < 2147483647
def spPot (K : PySem.W.Frag) : Sp := fun vs H Q _ => ∃ (a : Addr) (ns : List Int) (k : Nat), vs = [.ref a, .int (k : Nat)] ∧ SqL K H a (ns.map V.int) ∧ k ≤ 1000 ∧
  ∀ p H', H p = none → Same H H' → Pot H' p → Q (.ref p) H'
theorem ok_pot {f fC : Addr} {fd fdC : FuncData} {k : Nat} (F : Fun K "_law_pot" "_law_pot" sPot f fd) (T : Tx mg) (FC : Fun K "_law_cell" "_law_cell" sCell fC fdC) (bC : L2.Binds K fdC ["_law_script", "_law_k"] []) (gC : mg "_law_cell" = some (.ref fC)) :
    FnOk P w K mg base CX0 (k + 2) f fd ["_law_script", "_law_k"] (spPot K) := by
  have GC : FnOk P w K mg base CX0 (k + 1) fC fdC ["_law_script", "_law_k"] (spCell K) := ok_cell FC T
  refine F.ok scPot (fun vs H Q E h => ?_) (fun cdv A outer s H vs Q E hr h => ?_)
  · obtain ⟨a, ns, k, rfl, _⟩ := h
    rfl
  · obtain ⟨a, ns, k, rfl, hS, hk, q⟩ := h
    refine ⟨_, pss_cons (ps_set (i := 2) scPot.nd rfl (.inl rfl) (pe_callB call_abs (by rfl) T.abs (by decide +kernel) (pa_cons (pe_call GC hr (by rfl) gC FC.kp bC .nil pass0 (pa_cons (pv 0) (pa_cons (pv 1) pa_nil))) pa_nil)))
      (pss_one (ps_ret (pe_lst (pa_cons (pe_callB (call_max2 rfl) (by rfl) T.max (by decide +kernel) (pa_cons pe_int (pa_cons (pe_op op_sub (pv 2) (pe_op op_pow pe_int pe_int)) pa_nil)))
        (pa_cons (pe_op op_mod (pe_op op_add (pe_op op_add (pe_op op_add (pe_op op_mul (pe_op op_mod (pv 2) pe_int) pe_int) (pe_op op_mul (pe_op op_mul pe_int (pv 1)) (pv 1))) (pe_op op_mul pe_int (pv 1))) pe_int) pe_int) pa_nil))))), ?_⟩
    refine ⟨_, rfl, _, rfl, a, ns, k, rfl, hS, fun z hz => ?_⟩
    refine ⟨z, rfl, ?_⟩
    have hk0 : (0 : Int) ≤ (k : Nat) := Int.natCast_nonneg k
    have hk1 : ((k : Nat) : Int) ≤ 1000 := by omega
    have hm := Int.emod_nonneg (if z < 0 then -z else z) (show (2147483563 : Int) ≠ 0 by decide)
    have hm2 := Int.emod_lt_of_pos (if z < 0 then -z else z) (show (0 : Int) < 2147483563 by decide)
    refine ⟨_, rfl, _, _, rfl, rfl, ⟨by decide, by decide, by decide⟩, _, _, rfl, rfl, 0, _, rfl, ?_⟩
    refine ⟨_, rfl, _, _, rfl, rfl, by show (0 : Int) < 2147483563; decide, _, _, rfl, rfl, .inl ⟨by omega, by omega⟩, ?_⟩
    refine ⟨_, rfl, _, _, rfl, rfl, .inl ⟨by decide, by decide⟩, _, rfl, _, _, rfl, rfl, .inr ⟨by omega, by omega⟩, _, _, rfl, rfl, ?_⟩
    refine ⟨_, rfl, _, _, rfl, rfl, .inl ⟨by decide, by decide⟩, _, _, rfl, rfl, _, _, rfl, rfl, _, _, rfl, rfl, by show (0 : Int) < 2147483563; decide, ?_⟩
    refine ⟨by show 2 ≤ sizeLine; decide, fun l nl => q l _ nl (same_upd nl) ⟨_, _, upd_same, ?_, Int.emod_nonneg _ (by decide), Int.lt_trans (Int.emod_lt_of_pos _ (by decide)) (by decide)⟩⟩
    split <;> omega
/-- all but what stands at p is as it was -/
def SameB (p : Addr) (H H' : Hp) : Prop := ∀ b o, b ≠ p → H b = some o → H' b = some o
theorem SameB.trans {p : Addr} {H H1 H2 : Hp} (a : SameB p H H1) (b : SameB p H1 H2) : SameB p H H2 := fun c o n h => b c o n (a c o n h)
theorem SameB.of {p : Addr} {H H' : Hp} (s : Same H H') : SameB p H H' := fun b o _ e => s b o e
theorem SameB.upd {p : Addr} {H H' : Hp} {o : HO} (s : SameB p H H') : SameB p H (upd H' p o) := fun b x n e => by
  rw [upd_ne n]
  exact s b x n e
theorem SameB.new {p q : Addr} {H H' : Hp} {o : HO} (h : H q = none) (s : SameB p H H') : SameB p H (L2.upd H' q o) := fun b x n e => by
  rw [upd_ne (ne_of_none e h)]
  exact s b x n e
/-- a draw from a pot -/
def spTake : Sp := fun vs H Q _ => ∃ (p : Addr) (r : Int), vs = [.ref p, .int r] ∧ Pot H p ∧ 0 < r ∧ r ≤ 1000000000 ∧
  ∀ (d : Int) (H' : Hp), 0 ≤ d → d < r → Pot H' p → SameB p H H' → Q (.int d) H'
theorem ok_take {f : Addr} {fd : FuncData} {k : Nat} (F : Fun K "_law_take" "_law_take" sTake f fd) (T : Tx mg) : FnOk P w K mg base CX0 (k + 1) f fd ["_law_pot_here", "_law_room"] spTake := by
  refine F.ok scTake (fun vs H Q E h => ?_) (fun cdv A outer s H vs Q E hr h => ?_)
  · obtain ⟨p, r, rfl, _⟩ := h
    rfl
  · obtain ⟨p, r, rfl, ⟨a, b, hp, a0, b0, bB⟩, r0, r1, q⟩ := h
    refine ⟨_, pss_cons (ps_if (pt_cmpR op_gt (pe_ix ix_list (pv 0) pe_int (fun _ _ => rfl)) pe_int (nomark _))
        (pss_cons (ps_asg (pe_callB call_divmodW (by rfl) T.divmod (by decide +kernel) (pa_cons (pe_ix ix_list (pv 0) pe_int (fun _ _ => rfl)) (pa_cons (pv 1) pa_nil)))
            (pg_tup rfl (pgs_cons (pg_sub (pv 0) pe_int set_list) (pgs_cons (pg_name (i := 2) scTake.nd rfl (.inl rfl)) pgs_nil))))
          (pss_one (ps_ret (pv 2)))) pss_nil)
      (pss_cons (ps_asg (pe_op op_mod (pe_op op_add (pe_op op_mul (pe_ix ix_list (pv 0) pe_int (fun _ _ => rfl)) pe_int) pe_int) pe_int) (pg_sub (pv 0) pe_int set_list))
        (pss_one (ps_ret (pe_op op_mod (pe_op op_fdiv (pe_op op_mod (pe_op op_mul (pe_ix ix_list (pv 0) pe_int (fun _ _ => rfl)) (pe_ix ix_list (pv 0) pe_int (fun _ _ => rfl))) pe_int) pe_int) (pv 1))))), ?_⟩
    refine ⟨_, rfl, p, _, 0, _, rfl, rfl, SqL.of hp, atI_nat (j := 0) rfl, _, _, rfl, rfl, _, rfl, ite2 (fun h => ?_) (fun h => ?_)⟩
    · have ha : 0 < a := of_decide_eq_true h
      refine ⟨_, rfl, p, _, 0, _, rfl, rfl, SqL.of hp, atI_nat (j := 0) rfl, _, rfl, a, r, rfl, ⟨r0, PyProof.noPylong_small (by omega)⟩, fun t nt => ?_⟩
      have npt : p ≠ t := ne_of_none hp nt
      have hp2 : (upd H t (.tup [.int (a / r), .int (a % r)])) p = some (.lst [.int a, .int b]) := by
        rw [upd_ne npt]
        exact hp
      refine ⟨t, _, rfl, SqT.of upd_same, rfl, _, _, rfl, ?_⟩
      refine ⟨_, rfl, p, _, 0, 0, rfl, rfl, hp2, rfl, _, _, rfl, rfl, ?_⟩
      refine ⟨_, rfl, q _ _ (Int.emod_nonneg _ (by omega)) (Int.emod_lt_of_pos _ r0) ⟨_, _, upd_same, Int.ediv_nonneg a0 (by omega), b0, bB⟩ (SameB.upd (SameB.new nt (SameB.of (Same.refl H))))⟩
    · refine ⟨_, rfl, p, _, 1, _, rfl, rfl, SqL.of hp, atI_nat (j := 1) rfl, _, _, rfl, rfl, .inl ⟨by omega, by omega⟩, _, _, rfl, rfl, _, _, rfl, rfl, by show (0 : Int) < 2147483647; decide, ?_⟩
      refine ⟨_, rfl, p, _, 1, 1, rfl, rfl, hp, rfl, ?_⟩
      have n0 := Int.emod_nonneg (b * 48271 + 12347) (show (2147483647 : Int) ≠ 0 by decide)
      have n1 := Int.emod_lt_of_pos (b * 48271 + 12347) (show (0 : Int) < 2147483647 by decide)
      refine ⟨_, rfl, p, _, 1, _, rfl, rfl, SqL.of upd_same, atI_nat (j := 1) rfl, _, rfl, p, _, 1, _, rfl, rfl, SqL.of upd_same, atI_nat (j := 1) rfl, _, _, rfl, rfl, .inl ⟨by omega, by omega⟩, ?_⟩
      refine ⟨_, _, rfl, rfl, by show (0 : Int) < 2147483629; decide, _, _, rfl, rfl, ⟨by decide, by decide⟩, _, rfl, _, _, rfl, rfl, r0, ?_⟩
      exact q _ _ (Int.emod_nonneg _ (by omega)) (Int.emod_lt_of_pos _ r0) ⟨_, _, upd_same, a0, n0, n1⟩ (SameB.upd (SameB.of (Same.refl H)))
end
theorem Pot.ne {H : Hp} {p q : Addr} (h : Pot H p) (n : H q = none) : q ≠ p := fun e => by
  obtain ⟨a, b, e1, _⟩ := h
  rw [← e, n] at e1
  cases e1
theorem SameB.none {p q : Addr} {H H1 : Hp} (s : SameB p H H1) (h : Pot H1 p) (n : H1 q = none) : H q = none := by
  cases e : H q with
  | none => rfl
  | some o =>
    rw [s q o (h.ne n) e] at n
    cases n
theorem Pot.upd {H : Hp} {p q : Addr} {o : HO} (h : Pot H p) (n : q ≠ p) : Pot (L2.upd H q o) p := by
  obtain ⟨a, b, e, r⟩ := h
  exact ⟨a, b, by rw [upd_ne n.symm]; exact e, r⟩
theorem Pot.mono {H H' : Hp} {p : Addr} (h : Pot H p) (s : Same H H') : Pot H' p := by
  obtain ⟨a, b, e, r⟩ := h
  exact ⟨a, b, s _ _ e, r⟩
theorem ne_of_pot {H : Hp} {p q : Addr} {o : HO} (h : Pot H p) (e : H q = some o) (n : ∀ a b : Int, o ≠ .lst [.int a, .int b] := by intros; nofun) : q ≠ p := by
  obtain ⟨a, b, ep, _⟩ := h
  exact ne_of e ep (n a b)
theorem sameB_new {p : Addr} {H H1 H2 : Hp} (n : H p = none) (s : Same H H1) (b : SameB p H1 H2) : Same H H2 := fun c o e => b c o (ne_of_none e n) (s c o e)
end K12

set_option Elab.async false
set_option linter.all false
set_option maxRecDepth 100000
namespace K12
open PySem PySem.Spec PyProof.Rows L2 LT
theorem scFar : FnScope ["_law_pot_here", "_law_number", "_law_k"] ["_law_pot_here"] (defScope sFar) := ⟨rfl, rfl, rfl, by decide +kernel, rfl, by decide +kernel, by decide +kernel⟩
theorem scLday : FnScope ["_law_pot_here", "_law_way"] ["_law_pot_here"] (defScope sLday) := ⟨rfl, rfl, rfl, by decide +kernel, rfl, by decide +kernel, by decide +kernel⟩
theorem scGood : FnScope ["_law_pot_here", "_law_way", "_law_begin"] ["_law_pot_here"] (defScope sGood) := ⟨rfl, rfl, rfl, by decide +kernel, rfl, by decide +kernel, by decide +kernel⟩
theorem scSpoilt : FnScope ["_law_pot_here", "_law_days", "_law_way", "_law_begin", "_law_end", "_law_odd"] ["_law_pot_here", "_law_days"] (defScope sSpoilt) := ⟨rfl, rfl, rfl, by decide +kernel, rfl, by decide +kernel, by decide +kernel⟩
theorem scLis : FnScope ["_law_thing"] ["_law_thing"] (defScope sLis) := ⟨rfl, rfl, rfl, by decide +kernel, rfl, by decide +kernel, by decide +kernel⟩
theorem scRight : FnScope ["_law_begin", "_law_end"] ["_law_begin", "_law_end"] (defScope sRight) := ⟨rfl, rfl, rfl, by decide +kernel, rfl, by decide +kernel, by decide +kernel⟩
section
variable {P : Program} {w : World} {K : PySem.W.Frag} {mg : Str → Option Value} {base : Heap} {C CN : Addr}
abbrev PotFn (K : PySem.W.Frag) (mg : Str → Option Value) (x : Str) (st : Stmt) (f : Addr) (fd : FuncData) : Prop := Has K mg x ["_law_pot_here"] st f fd
abbrev TakeFn (K : PySem.W.Frag) (mg : Str → Option Value) (f : Addr) (fd : FuncData) : Prop := Has K mg "_law_take" ["_law_pot_here", "_law_room"] sTake f fd
def spFar (lo hi : Int) : Sp := fun vs H Q _ => ∃ p, vs = [.ref p] ∧ Pot H p ∧ ∀ (d : Int) (H' : Hp), lo ≤ d → d ≤ hi → Pot H' p → SameB p H H' → Q (.int d) H'
theorem e8 : (10 : Int) ^ Int.toNat 8 = 100000000 := by decide
theorem ok_far {f fT : Addr} {fd fdT : FuncData} {k : Nat} (F : Fun K "_law_far" "_law_far" sFar f fd) (T : Tx mg) (FT : TakeFn K mg fT fdT) : FnOk P w K mg base CX0 (k + 2) f fd ["_law_pot_here"] (spFar 0 (10 ^ 56)) := by
  have GT : FnOk P w K mg base CX0 (k + 1) fT fdT ["_law_pot_here", "_law_room"] spTake := ok_take FT.fn T
  refine F.ok scFar (fun vs H Q E h => ?_) (fun cdv A outer s H vs Q E hr h => ?_)
  · obtain ⟨p, rfl, _⟩ := h
    rfl
  · obtain ⟨p, rfl, hp, q⟩ := h
    have nd := scFar.nd
    refine ⟨_, pss_cons (ps_set (i := 1) nd rfl (.inl rfl) pe_int)
      (pss_cons (ps_for PassesOwn.never rfl (pi_range1 (by rfl) T.range (pa_cons (pe_op op_add pe_int (pe_call GT hr (by rfl) FT.gl FT.fn.kp FT.bd .nil pass0 (pa_cons (pv 0) (pa_cons pe_int pa_nil)))) pa_nil)) (pg_name (i := 2) nd rfl (.inl rfl))
        (pss_one (ps_set (i := 1) nd rfl (.inl rfl) (pe_op op_add (pe_op op_mul (pv 1) (pe_op op_pow pe_int pe_int)) (pe_call GT hr (by rfl) FT.gl FT.fn.kp FT.bd .nil pass0 (pa_cons (pv 0) (pa_cons (pe_op op_pow pe_int pe_int) pa_nil)))))))
      (pss_one (ps_ret (pv 1)))), ?_⟩
    refine ⟨_, rfl, p, 7, rfl, hp, by decide, by decide, fun d H1 d0 d1 hp1 sm1 => ?_⟩
    refine ⟨1, d, rfl, rfl, 1 + d, rfl, by omega, by omega, for_range (lo := 0) (n := (1 + d).toNat) (fun i σ H' => ∃ (n : Int) (y : Option V), σ = [some (.ref p), some (.int n), y] ∧ 0 ≤ n ∧ n < (100000000 : Int) ^ i ∧ Pot H' p ∧ SameB p H H') ⟨0, none, rfl, by decide, by decide, hp1, sm1⟩ ?_ ?_⟩
    · rintro i σ H2 hi ⟨n, y, rfl, n0, n1, hp2, sm2⟩
      refine ⟨_, rfl, _, _, rfl, rfl, ⟨by decide, by decide, by decide⟩, _, _, rfl, rfl, .inr ⟨by decide, by decide⟩, ?_⟩
      refine ⟨_, rfl, _, _, rfl, rfl, ⟨by decide, by decide, by decide⟩, p, _, rfl, hp2, by decide, by decide, fun e H3 e0 e1 hp3 sm3 => ?_⟩
      refine ⟨_, _, rfl, rfl, _, _, rfl, ?_, ?_, hp3, sm2.trans sm3⟩
      · rw [e8] at *
        omega
      · rw [e8] at *
        rw [Int.pow_succ]
        omega
    · rintro σ H2 ⟨n, y, rfl, n0, n1, hp2, sm2⟩
      refine ⟨_, rfl, q n H2 n0 ?_ hp2 sm2⟩
      have hn : (1 + d).toNat = 1 ∨ (1 + d).toNat = 2 ∨ (1 + d).toNat = 3 ∨ (1 + d).toNat = 4 ∨ (1 + d).toNat = 5 ∨ (1 + d).toNat = 6 ∨ (1 + d).toNat = 7 := by omega
      rcases hn with h | h | h | h | h | h | h <;> (rw [h] at n1; omega)
theorem ok_lday {f fT fF : Addr} {fd fdT fdF : FuncData} {k : Nat} (F : Fun K "_law_day" "_law_day" sLday f fd) (T : Tx mg) (FT : TakeFn K mg fT fdT) (FF : PotFn K mg "_law_far" sFar fF fdF) : FnOk P w K mg base CX0 (k + 3) f fd ["_law_pot_here"] (spFar 0 (10 ^ 60)) := by
  have GT : FnOk P w K mg base CX0 (k + 1) fT fdT ["_law_pot_here", "_law_room"] spTake := ok_take FT.fn T
  have GF : FnOk P w K mg base CX0 (k + 2) fF fdF ["_law_pot_here"] (spFar 0 (10 ^ 56)) := ok_far FF.fn T FT
  refine F.ok scLday (fun vs H Q E h => ?_) (fun cdv A outer s H vs Q E hr h => ?_)
  · obtain ⟨p, rfl, _⟩ := h
    rfl
  · obtain ⟨p, rfl, hp, q⟩ := h
    have nd := scLday.nd
    have hr1 : Room (k + 1) _ := hr.mono (by omega)
    refine ⟨_, pss_cons (ps_set (i := 1) nd rfl (.inl rfl) (pe_call GT hr1 (by rfl) FT.gl FT.fn.kp FT.bd .nil pass0 (pa_cons (pv 0) (pa_cons pe_int pa_nil))))
      (pss_cons (ps_if (pt_cmpR op_eq (pv 1) pe_int (nomark _)) (pss_one (ps_ret (pe_op op_add (pe_op op_sub (pe_op op_pow pe_int pe_int) pe_int) (pe_call GT hr1 (by rfl) FT.gl FT.fn.kp FT.bd .nil pass0 (pa_cons (pv 0) (pa_cons (pe_op op_pow pe_int pe_int) pa_nil)))))) pss_nil)
      (pss_cons (ps_if (pt_cmpR op_eq (pv 1) pe_int (nomark _)) (pss_one (ps_ret (pe_call GF hr (by rfl) FF.gl FF.fn.kp FF.bd .nil pass0 (pa_cons (pv 0) pa_nil)))) pss_nil)
      (pss_one (ps_ret (pe_call GT hr1 (by rfl) FT.gl FT.fn.kp FT.bd .nil pass0 (pa_cons (pv 0) (pa_cons pe_int pa_nil))))))), ?_⟩
    have e59 : (10 : Int) ^ Int.toNat 59 = 10 ^ 59 := rfl
    refine ⟨_, rfl, p, 8, rfl, hp, by decide, by decide, fun d H1 d0 d1 hp1 sm1 => ?_⟩
    refine ⟨_, rfl, rfl, _, rfl, ite2 (fun _ => ?_) (fun _ => ?_)⟩
    · refine ⟨_, _, rfl, rfl, ⟨by decide, by decide, by decide⟩, _, _, rfl, rfl, ?_⟩
      refine ⟨_, rfl, _, _, rfl, rfl, ⟨by decide, by decide, by decide⟩, p, _, rfl, hp1, by decide, by decide, fun e H3 e0 e1 hp3 sm3 => ?_⟩
      refine ⟨_, _, rfl, rfl, q _ _ ?_ ?_ hp3 (sm1.trans sm3)⟩
      · rw [e8] at *
        rw [e59]
        omega
      · rw [e8] at *
        rw [e59]
        omega
    refine ⟨_, rfl, rfl, _, rfl, ite2 (fun _ => ?_) (fun _ => ?_)⟩
    · exact ⟨_, rfl, p, rfl, hp1, fun e H3 e0 e1 hp3 sm3 => q _ _ e0 (by omega) hp3 (sm1.trans sm3)⟩
    · exact ⟨_, rfl, p, 41, rfl, hp1, by decide, by decide, fun e H3 e0 e1 hp3 sm3 => q _ _ e0 (by omega) hp3 (sm1.trans sm3)⟩
/-- a right pair of days -/
def EndOk (b : Int) (v : V) : Prop := v = .non ∨ ∃ j : Int, v = .int j ∧ b ≤ j ∧ j ≤ 10 ^ 61
def spGood : Sp := fun vs H Q _ => ∃ p, vs = [.ref p] ∧ Pot H p ∧ ∀ (g : Addr) (b : Int) (ev : V) (H' : Hp), 0 ≤ b → b ≤ 10 ^ 60 → EndOk b ev → H g = none → H' g = some (.lst [.int b, ev]) → g ≠ p → Pot H' p → SameB p H H' → Q (.ref g) H'
theorem ok_good {f fT fF fD : Addr} {fd fdT fdF fdD : FuncData} {k : Nat} (F : Fun K "_law_good" "_law_good" sGood f fd) (T : Tx mg) (FT : TakeFn K mg fT fdT) (FF : PotFn K mg "_law_far" sFar fF fdF) (FD : PotFn K mg "_law_day" sLday fD fdD) :
    FnOk P w K mg base CX0 (k + 4) f fd ["_law_pot_here"] spGood := by
  have GT : FnOk P w K mg base CX0 (k + 1) fT fdT ["_law_pot_here", "_law_room"] spTake := ok_take FT.fn T
  have GD : FnOk P w K mg base CX0 (k + 3) fD fdD ["_law_pot_here"] (spFar 0 (10 ^ 60)) := ok_lday FD.fn T FT FF
  refine F.ok scGood (fun vs H Q E h => ?_) (fun cdv A outer s H vs Q E hr h => ?_)
  · obtain ⟨p, rfl, _⟩ := h
    rfl
  · obtain ⟨p, rfl, hp, q⟩ := h
    have nd := scGood.nd
    have hr1 : Room (k + 1) _ := hr.mono (by omega)
    refine ⟨_, pss_cons (ps_set (i := 1) nd rfl (.inl rfl) (pe_call GT hr1 (by rfl) FT.gl FT.fn.kp FT.bd .nil pass0 (pa_cons (pv 0) (pa_cons pe_int pa_nil))))
      (pss_cons (ps_set (i := 2) nd rfl (.inl rfl) (pe_call GD hr (by rfl) FD.gl FD.fn.kp FD.bd .nil pass0 (pa_cons (pv 0) pa_nil)))
      (pss_one (ps_ret (pe_lst (pa_cons (pv 2) (pa_cons (pe_ix ix_list (pe_lst (pa_cons pe_non (pa_cons (pv 2) (pa_cons (pe_op op_add (pv 2) (pe_call GT hr1 (by rfl) FT.gl FT.fn.kp FT.bd .nil pass0 (pa_cons (pv 0) (pa_cons pe_int pa_nil))))
        (pa_cons (pe_op op_add (pv 2) (pe_call GD hr (by rfl) FD.gl FD.fn.kp FD.bd .nil pass0 (pa_cons (pv 0) pa_nil))) pa_nil))))) (pv 1) (fun _ _ => rfl)) pa_nil)))))), ?_⟩
    refine ⟨_, rfl, p, 4, rfl, hp, by decide, by decide, fun way H1 w0 w1 hp1 sm1 => ?_⟩
    refine ⟨_, rfl, p, rfl, hp1, fun b H2 b0 b1 hp2 sm2 => ?_⟩
    refine ⟨_, rfl, _, rfl, _, rfl, _, rfl, p, 9, rfl, hp2, by decide, by decide, fun e H3 e0 e1 hp3 sm3 => ?_⟩
    refine ⟨_, _, rfl, rfl, _, rfl, _, rfl, p, rfl, hp3, fun d H4 d0 d1 hp4 sm4 => ?_⟩
    refine ⟨_, _, rfl, rfl, by show 4 ≤ sizeLine; decide, fun m nm => ?_⟩
    obtain ⟨j, rfl⟩ := Int.eq_ofNat_of_zero_le w0
    have key : ∃ ev, [V.non, .int b, .int (b + e), .int (b + d)][j]? = some ev ∧ EndOk b ev := by
      have hj : j < 4 := by omega
      match j, hj with
      | 0, _ => exact ⟨_, rfl, .inl rfl⟩
      | 1, _ => exact ⟨_, rfl, .inr ⟨b, rfl, by omega, by omega⟩⟩
      | 2, _ => exact ⟨_, rfl, .inr ⟨b + e, rfl, by omega, by omega⟩⟩
      | 3, _ => exact ⟨_, rfl, .inr ⟨b + d, rfl, by omega, by omega⟩⟩
      | n + 4, h => omega
    obtain ⟨ev, he, ho⟩ := key
    refine ⟨_, rfl, m, _, _, ev, rfl, rfl, SqL.of upd_same, atI_nat he, by show 2 ≤ sizeLine; decide, fun g ng => ?_⟩
    have smA : SameB p H H4 := ((sm1.trans sm2).trans sm3).trans sm4
    have nmp := hp4.ne nm
    have hp5 := hp4.upd (o := .lst [V.non, .int b, .int (b + e), .int (b + d)]) nmp
    have smB : SameB p H (upd H4 m (.lst [V.non, .int b, .int (b + e), .int (b + d)])) := SameB.new (smA.none hp4 nm) smA
    have ngp := hp5.ne ng
    exact q g b ev _ b0 b1 ho (smB.none hp5 ng) upd_same ngp (hp5.upd ngp) (SameB.new (smB.none hp5 ng) smB)
/-! ### the law's own look at days -/
theorem ok_lis {f : Addr} {fd : FuncData} {k : Nat} (F : Fun K "_law_is_day" "_law_is_day" sLis f fd) (T : Tx mg) : FnOk P w K mg base CX0 (k + 1) f fd ["_law_thing"] spDay := by
  refine F.ok scLis (fun vs H Q E h => ?_) (fun cdv A outer s H vs Q E hr h => ?_)
  · obtain ⟨v, rfl, _⟩ := h
    rfl
  · obtain ⟨v, rfl, hv, q⟩ := h
    refine ⟨_, pss_one (ps_ret (pe_and (pe_callB call_isi (by rfl) T.isi (by decide +kernel) (pa_cons (pv 0) (pa_cons (pe_bltn (v := .ty "int") (by rfl) T.int (by decide +kernel) rfl) pa_nil)))
      (pe_and (pe_not (pe_callB call_isi (by rfl) T.isi (by decide +kernel) (pa_cons (pv 0) (pa_cons (pe_bltn (v := .ty "bool") (by rfl) T.bool (by decide +kernel) rfl) pa_nil))))
      (pe_one (pe_cmpR op_ge (pv 0) pe_int (nomark _)))))), ?_⟩
    obtain ⟨t, ty, k1, k2⟩ := hv.ty (K := K)
    refine ⟨_, rfl, v, .ty "int", t, _, isInt v, rfl, .ty _, ty, k1, _, rfl, ?_⟩
    cases hv with
    | int i => exact ⟨_, rfl, _, .ty "bool", t, _, _, rfl, .ty _, ty, k2, _, rfl, _, rfl, _, rfl, i, 0, rfl, rfl, q⟩
    | bl b => exact ⟨_, rfl, _, .ty "bool", t, _, _, rfl, .ty _, ty, k2, _, rfl, _, rfl, q⟩
    | _ => exact q
def spRight : Sp := fun vs H Q _ => ∃ fv lv, vs = [fv, lv] ∧ Odd H fv ∧ Odd H lv ∧ Q (.bl (rightB fv lv)) H
theorem ok_right {f fL : Addr} {fd fdL : FuncData} {k : Nat} (F : Fun K "_law_is_right" "_law_is_right" sRight f fd) (T : Tx mg) (FL : Has K mg "_law_is_day" ["_law_thing"] sLis fL fdL) : FnOk P w K mg base CX0 (k + 2) f fd ["_law_begin", "_law_end"] spRight := by
  have GL : FnOk P w K mg base CX0 (k + 1) fL fdL ["_law_thing"] spDay := ok_lis FL.fn T
  refine F.ok scRight (fun vs H Q E h => ?_) (fun cdv A outer s H vs Q E hr h => ?_)
  · obtain ⟨fv, lv, rfl, _⟩ := h
    rfl
  · obtain ⟨fv, lv, rfl, of, ol, q⟩ := h
    refine ⟨_, pss_cons (ps_if (pt_not (pt_val (pe_call GL hr (by rfl) FL.gl FL.fn.kp FL.bd .nil pass0 (pa_cons (pv 0) pa_nil)))) (pss_one (ps_ret pe_bl)) pss_nil)
      (pss_one (ps_ret (pe_or (pe_cmpR op_isN (pv 1) pe_non (nomark _)) (pe_one (pe_and (pe_call GL hr (by rfl) FL.gl FL.fn.kp FL.bd .nil pass0 (pa_cons (pv 1) pa_nil)) (pe_one (pe_cmpR op_ge (pv 1) (pv 0) (nomark _)))))))), ?_⟩
    refine ⟨_, rfl, fv, rfl, of, _, rfl, ?_⟩
    by_cases hd : dayB fv = true
    · obtain ⟨i, rfl, hi⟩ : ∃ i, fv = .int i ∧ 0 ≤ i := by
        cases fv <;> first | exact ⟨_, rfl, of_decide_eq_true hd⟩ | cases hd
      rw [hd]
      refine ⟨_, rfl, rfl, _, rfl, ?_⟩
      by_cases hl : lv = .non
      · subst hl
        have e : rightB (.int i) .non = true := decide_eq_true hi
        rw [e] at q
        exact q
      · rw [decide_eq_false hl]
        refine ⟨_, rfl, lv, rfl, ol, _, rfl, ?_⟩
        by_cases hd2 : dayB lv = true
        · obtain ⟨j, rfl, hj⟩ : ∃ j, lv = .int j ∧ 0 ≤ j := by
            cases lv <;> first | exact ⟨_, rfl, of_decide_eq_true hd2⟩ | cases hd2
          rw [hd2]
          refine ⟨_, rfl, _, rfl, j, i, rfl, rfl, ?_⟩
          have e : rightB (.int i) (.int j) = decide (i ≤ j) := by
            show (decide (0 ≤ i) && decide (0 ≤ j) && decide (i ≤ j)) = _
            rw [decide_eq_true hi, decide_eq_true hj]
            rfl
          rw [e] at q
          exact q
        · have e2 : dayB lv = false := by cases h : dayB lv <;> first | rfl | exact absurd h hd2
          rw [e2]
          have e : rightB (.int i) lv = false := by
            cases lv with
            | non => exact absurd rfl hl
            | int j =>
              show (decide (0 ≤ i) && decide (0 ≤ j) && decide (i ≤ j)) = false
              have e3 : decide (0 ≤ j) = false := e2
              rw [e3, Bool.and_false, Bool.false_and]
            | _ => rfl
          rw [e] at q
          exact q
    · have e2 : dayB fv = false := by cases h : dayB fv <;> first | rfl | exact absurd h hd
      rw [e2]
      have e : rightB fv lv = false := by
        cases fv with
        | int i =>
          have e3 : decide (0 ≤ i) = false := e2
          cases lv with
          | non => exact e3
          | int j =>
            show (decide (0 ≤ i) && decide (0 ≤ j) && decide (i ≤ j)) = false
            rw [e3, Bool.false_and, Bool.false_and]
          | _ => rfl
        | _ => cases lv <;> rfl
      rw [e] at q
      exact q
end
end K12

set_option Elab.async false
set_option linter.all false
set_option maxRecDepth 100000
set_option maxHeartbeats 800000
namespace K12
open PySem PySem.Spec PyProof.Rows L2 LT
/-- a thing that is not the pot, its numbers not too far -/
structure Ov (p : Addr) (H : Hp) (v : V) : Prop where
  odd : Odd H v
  ne : v ≠ .ref p
  bd : ∀ i : Int, v = .int i → i.natAbs ≤ 10 ^ 62
theorem Odd.monoB {p : Addr} {H H' : Hp} (s : SameB p H H') {v : V} (h : Odd H v) (n : v ≠ .ref p) : Odd H' v := by
  cases h with
  | non => exact .non
  | bl b => exact .bl b
  | int i => exact .int i
  | str z => exact .str z
  | lst e => exact .lst (s _ _ (fun z => n (by rw [z])) e)
  | tup e => exact .tup (s _ _ (fun z => n (by rw [z])) e)
  | dK e => exact .dK (s _ _ (fun z => n (by rw [z])) e)
theorem Ov.monoB {p : Addr} {H H' : Hp} (s : SameB p H H') {v : V} (h : Ov p H v) : Ov p H' v := ⟨h.odd.monoB s h.ne, h.ne, h.bd⟩
theorem Ov.int {p : Addr} {H : Hp} {i : Int} (h : i.natAbs ≤ 10 ^ 62) : Ov p H (.int i) := ⟨.int i, nofun, fun j e => by cases e; exact h⟩
theorem Ov.non {p : Addr} {H : Hp} : Ov p H .non := ⟨.non, nofun, nofun⟩
theorem Ov.bl {p : Addr} {H : Hp} (b : Bool) : Ov p H (.bl b) := ⟨.bl b, nofun, nofun⟩
theorem Ov.str {p : Addr} {H : Hp} (z : Str) : Ov p H (.str z) := ⟨.str z, nofun, nofun⟩
theorem Ov.ref {p a : Addr} {H : Hp} (h : Odd H (.ref a)) (n : a ≠ p) : Ov p H (.ref a) := ⟨h, fun e => n (V.ref.inj e), nofun⟩
theorem Ov.ofEnd {p : Addr} {H : Hp} {b : Int} {ev : V} (h : EndOk b ev) (b0 : 0 ≤ b) : Ov p H ev := by
  rcases h with rfl | ⟨j, rfl, h1, h2⟩
  · exact .non
  · exact .int (by omega)
/-- the ways behind an if are joined: what follows is shown once -/
theorem join {α : Type} {J : α → Hp → Prop} {sl : α → L2.St} {rest : L2.St → Hp → Prop} {goal : Prop} (k : (∀ a Hx, J a Hx → rest (sl a) Hx) → goal) (h : ∀ a Hx, J a Hx → rest (sl a) Hx) : goal := k h
section
variable {P : Program} {w : World} {K : PySem.W.Frag} {mg : Str → Option Value} {base : Heap} {C CN : Addr}
def odds (d : Int) (t l dd : Addr) : List V := [.int (-1), .int (-1 - d), .non, .bl true, .bl false, .str (Str.ofString "3"), .str (Str.ofString ""), .ref t, .ref l, .ref dd]
structure Jn (p g o : Addr) (b : Int) (ev : V) (os : List V) (H : Hp) (x : V × V) (Hx : Hp) : Prop where
  fv : Ov p Hx x.1
  lv : Ov p Hx x.2
  hp : Pot Hx p
  sm : SameB p H Hx
  ho : Hx o = some (.lst os)
  all : ∀ v ∈ os, Ov p Hx v
  hg : Hx g = some (.lst [.int b, ev])
theorem Jn.step {p g o : Addr} {b : Int} {ev : V} {os : List V} {H Hx Hy : Hp} {x : V × V} (j : Jn p g o b ev os H x Hx) (s : SameB p Hx Hy) (hp : Pot Hy p) (nop : o ≠ p) (ngp : g ≠ p) : Jn p g o b ev os H x Hy :=
  ⟨j.fv.monoB s, j.lv.monoB s, hp, j.sm.trans s, s _ _ nop j.ho, fun v hv => (j.all v hv).monoB s, s _ _ ngp j.hg⟩
theorem pick {os : List V} {e : Int} (e0 : 0 ≤ e) (e1 : e < (os.length : Nat)) : ∃ (j : Nat) (v : V), e = (j : Nat) ∧ os[j]? = some v ∧ v ∈ os := by
  obtain ⟨j, rfl⟩ := Int.eq_ofNat_of_zero_le e0
  have hj : j < os.length := by omega
  exact ⟨j, os[j], rfl, List.getElem?_eq_getElem hj, List.getElem_mem hj⟩
def spSpoilt : Sp := fun vs H Q _ => ∃ p g b ev, vs = [.ref p, .ref g] ∧ Pot H p ∧ H g = some (.lst [.int b, ev]) ∧ g ≠ p ∧ 0 ≤ b ∧ b ≤ 10 ^ 60 ∧ EndOk b ev ∧
  ∀ (r : Addr) (fv lv : V) (H' : Hp), H r = none → H' r = some (.lst [fv, lv]) → r ≠ p → Ov p H' fv → Ov p H' lv → Pot H' p → SameB p H H' → Q (.ref r) H'
theorem ok_spoilt {f fT fF : Addr} {fd fdT fdF : FuncData} {k : Nat} (F : Fun K "_law_spoilt" "_law_spoilt" sSpoilt f fd) (T : Tx mg) (FT : TakeFn K mg fT fdT) (FF : PotFn K mg "_law_far" sFar fF fdF) :
    FnOk P w K mg base CX0 (k + 3) f fd ["_law_pot_here", "_law_days"] spSpoilt := by
  have GT : FnOk P w K mg base CX0 (k + 1) fT fdT ["_law_pot_here", "_law_room"] spTake := ok_take FT.fn T
  have GF : FnOk P w K mg base CX0 (k + 2) fF fdF ["_law_pot_here"] (spFar 0 (10 ^ 56)) := ok_far FF.fn T FT
  refine F.ok scSpoilt (fun vs H Q E h => ?_) (fun cdv A outer s H vs Q E hr h => ?_)
  · obtain ⟨p, g, b, ev, rfl, _⟩ := h
    rfl
  · obtain ⟨p, g, b, ev, rfl, hp, hg, ngp, b0, b1, he, q⟩ := h
    have nd := scSpoilt.nd
    have hr1 : Room (k + 1) _ := hr.mono (by omega)
    refine ⟨_, pss_cons (ps_set (i := 2) nd rfl (.inl rfl) (pe_call GT hr1 (by rfl) FT.gl FT.fn.kp FT.bd .nil pass0 (pa_cons (pv 0) (pa_cons pe_int pa_nil))))
      (pss_cons (ps_asg (pv 1) (pg_lst rfl (pgs_cons (pg_name (i := 3) nd rfl (.inl rfl)) (pgs_cons (pg_name (i := 4) nd rfl (.inl rfl)) pgs_nil))))
      (pss_cons (ps_set (i := 5) nd rfl (.inl rfl) (pe_lst (pa_cons (pe_un un_neg pe_int) (pa_cons (pe_op op_sub (pe_un un_neg pe_int) (pe_call GF hr (by rfl) FF.gl FF.fn.kp FF.bd .nil pass0 (pa_cons (pv 0) pa_nil)))
          (pa_cons pe_non (pa_cons pe_bl (pa_cons pe_bl (pa_cons pe_str (pa_cons pe_str (pa_cons (pe_tup (pa_cons pe_int pa_nil)) (pa_cons (pe_lst (pa_cons pe_int pa_nil)) (pa_cons pe_dnewK pa_nil))))))))))))
      (pss_cons (ps_if (pt_cmpR op_in_seq (pv 2) (pe_tup (pa_cons pe_int (pa_cons pe_int pa_nil))) (by rfl))
        (pss_one (ps_set (i := 3) nd rfl (.inl rfl) (pe_ix ix_list (pv 5) (pe_call GT hr1 (by rfl) FT.gl FT.fn.kp FT.bd .nil pass0 (pa_cons (pv 0) (pa_cons pe_int pa_nil))) (fun _ _ => rfl)))) pss_nil)
      (pss_cons (ps_if (pt_cmpR op_in_seq (pv 2) (pe_tup (pa_cons pe_int (pa_cons pe_int pa_nil))) (by rfl))
        (pss_one (ps_set (i := 4) nd rfl (.inl rfl) (pe_ix ix_list (pe_op op_cat (pe_slice sl_list (pv 5) po_none (po_some pe_int)) (pe_slice sl_list (pv 5) (po_some pe_int) po_none))
          (pe_call GT hr1 (by rfl) FT.gl FT.fn.kp FT.bd .nil pass0 (pa_cons (pv 0) (pa_cons pe_int pa_nil))) (fun _ _ => rfl)))) pss_nil)
      (pss_cons (ps_if (pt_cmpR op_eq (pv 2) pe_int (nomark _))
        (pss_one (ps_set (i := 4) nd rfl (.inl rfl) (pe_op op_sub (pe_op op_sub (pe_ix ix_list (pv 1) pe_int (fun _ _ => rfl)) pe_int) (pe_call GT hr1 (by rfl) FT.gl FT.fn.kp FT.bd .nil pass0 (pa_cons (pv 0) (pa_cons pe_int pa_nil)))))) pss_nil)
      (pss_one (ps_ret (pe_lst (pa_cons (pv 3) (pa_cons (pv 4) pa_nil)))))))))), ?_⟩
    refine ⟨_, rfl, p, 5, rfl, hp, by decide, by decide, fun way H1 w0 w1 hp1 sm1 => ?_⟩
    have hg1 := sm1 g _ ngp hg
    refine ⟨_, rfl, g, _, rfl, SqL.of hg1, rfl, _, _, rfl, _, _, rfl, rfl, ?_⟩
    refine ⟨1, rfl, _, rfl, _, rfl, p, rfl, hp1, fun d H2 d0 d1 hp2 sm2 => ?_⟩
    refine ⟨_, _, rfl, rfl, by show 1 ≤ sizeLine; decide, fun t nt => ?_⟩
    refine ⟨by show 1 ≤ sizeLine; decide, fun l nl => fun dd ndd => ?_⟩
    refine ⟨by show 10 ≤ sizeLine; decide, fun o no => ?_⟩
    have s1 := same_upd (o := .tup [V.int 3]) nt
    have s2 := same_upd (o := .lst [V.int 3]) nl
    have s3 := same_upd (o := .dK []) ndd
    have s4 := same_upd (o := .lst (odds d t l dd)) no
    have e1 := (s2.trans (s3.trans s4)) _ _ (upd_same (H := H2) (a := t) (o := .tup [V.int 3]))
    have e2 := (s3.trans s4) _ _ (upd_same (a := l) (o := .lst [V.int 3]))
    have e3 := s4 _ _ (upd_same (a := dd) (o := .dK []))
    have sA := s1.trans (s2.trans (s3.trans s4))
    have eo := upd_same (a := o) (o := .lst (odds d t l dd)) (H := upd (upd (upd H2 t (.tup [V.int 3])) l (.lst [V.int 3])) dd (.dK []))
    have hpS := hp2.mono sA
    have nop := ne_of_pot hpS eo
    have ntp := ne_of_pot hpS e1
    have nlp := ne_of_pot hpS e2
    have ndp := ne_of_pot hpS e3
    have hgS := sA _ _ (sm2 g _ ngp hg1)
    have smS : SameB p H _ := (sm1.trans sm2).trans (SameB.of sA)
    have key : ∀ v ∈ odds d t l dd, Ov p (upd (upd (upd (upd H2 t (.tup [V.int 3])) l (.lst [V.int 3])) dd (.dK [])) o (.lst (odds d t l dd))) v := by
      intro v hv
      simp only [odds, List.mem_cons, List.not_mem_nil, or_false] at hv
      rcases hv with rfl | rfl | rfl | rfl | rfl | rfl | rfl | rfl | rfl | rfl
      · exact .int (by decide)
      · exact .int (by omega)
      · exact .non
      · exact .bl _
      · exact .bl _
      · exact .str _
      · exact .str _
      · exact .ref (.tup e1) ntp
      · exact .ref (.lst e2) nlp
      · exact .ref (.dK e3) ndp
    generalize hHs : upd _ o _ = Hs at e1 e2 e3 sA eo hpS nop ntp nlp ndp hgS smS key
    show tSeq _ _ _ _ (upd (upd (upd (upd H2 t (.tup [V.int 3])) l (.lst [V.int 3])) dd (.dK [])) o (.lst (odds d t l dd)))
    rw [hHs]
    have J0 : Jn p g o b ev (odds d t l dd) H (.int b, ev) Hs := ⟨.int (by omega), .ofEnd he b0, hpS, smS, eo, key, hgS⟩
    have stepS : ∀ {Hx : Hp} {x : V × V} {q : Addr} {u : HO}, Jn p g o b ev (odds d t l dd) H x Hx → Hx q = none → Jn p g o b ev (odds d t l dd) H x (upd Hx q u) := fun {Hx x q u} j n =>
      j.step (SameB.of (same_upd n)) (j.hp.mono (same_upd n)) nop ngp
    apply join (α := V × V) (J := Jn p g o b ev (odds d t l dd) H) (sl := fun x => [some (.ref p), some (.ref g), some (.int way), some x.1, some x.2, some (.ref o)])
    · intro h
      refine ⟨_, rfl, by show 2 ≤ sizeLine; decide, fun tt ntt => ?_⟩
      have J1 := stepS (u := .tup [V.int 0, V.int 2]) J0 ntt
      refine ⟨tt, _, rfl, .inr (SqT.of upd_same), rfl, rfl, _, rfl, ite2 ?y ?n⟩
      case n =>
        intro _
        exact h (.int b, ev) _ J1
      case y =>
        intro _
        refine ⟨_, rfl, _, rfl, p, 10, rfl, J1.hp, by decide, by decide, fun e H3 e0 e1 hp3 sm3 => ?_⟩
        have J2 := J1.step sm3 hp3 nop ngp
        obtain ⟨j, v, rfl, hv, hm⟩ := pick (os := odds d t l dd) e0 e1
        exact ⟨o, _, _, v, rfl, rfl, SqL.of J2.ho, atI_nat hv, h (v, ev) H3 ⟨J2.all v hm, J2.lv, J2.hp, J2.sm, J2.ho, J2.all, J2.hg⟩⟩
    rintro ⟨fv, lv⟩ Hx J
    apply join (α := V × V) (J := Jn p g o b ev (odds d t l dd) H) (sl := fun x => [some (.ref p), some (.ref g), some (.int way), some x.1, some x.2, some (.ref o)])
    · intro h
      refine ⟨_, rfl, by show 2 ≤ sizeLine; decide, fun tt ntt => ?_⟩
      have J1 := stepS (u := .tup [V.int 1, V.int 2]) J ntt
      refine ⟨tt, _, rfl, .inr (SqT.of upd_same), rfl, rfl, _, rfl, ite2 ?y ?n⟩
      case n =>
        intro _
        exact h (fv, lv) _ J1
      case y =>
        intro _
        refine ⟨_, rfl, _, rfl, o, _, rfl, SqL.of J1.ho, fun c1 nc1 => ?_⟩
        have J2 := stepS (u := .lst (cutV (odds d t l dd) none (some 2))) J1 nc1
        have k1 := upd_same (H := upd Hx tt (.tup [V.int 1, V.int 2])) (a := c1) (o := .lst (cutV (odds d t l dd) none (some 2)))
        refine ⟨_, rfl, _, rfl, o, _, rfl, SqL.of J2.ho, fun c2 nc2 => ?_⟩
        have J3 := stepS (u := .lst (cutV (odds d t l dd) (some 3) none)) J2 nc2
        have k2 := same_upd (o := .lst (cutV (odds d t l dd) (some 3) none)) nc2 _ _ k1
        refine ⟨c1, c2, _, _, rfl, rfl, k2, upd_same, by show 2 + 7 ≤ sizeLine; decide, fun c3 nc3 => ?_⟩
        have J4 := stepS (u := .lst (cutV (odds d t l dd) none (some 2) ++ cutV (odds d t l dd) (some 3) none)) J3 nc3
        have n3p := J3.hp.ne nc3
        refine ⟨_, rfl, p, 9, rfl, J4.hp, by decide, by decide, fun e H3 e0 e1 hp3 sm3 => ?_⟩
        have J5 := J4.step sm3 hp3 nop ngp
        obtain ⟨j, v, rfl, hv, hm⟩ := pick (os := cutV (odds d t l dd) none (some 2) ++ cutV (odds d t l dd) (some 3) none) e0 e1
        have hm2 : v ∈ odds d t l dd := by
          rcases List.mem_append.mp hm with z | z <;> exact List.mem_of_mem_drop (List.mem_of_mem_take z)
        exact ⟨c3, _, _, v, rfl, rfl, SqL.of (sm3 _ _ n3p upd_same), atI_nat hv, h (fv, v) H3 ⟨J5.fv, J5.all v hm2, J5.hp, J5.sm, J5.ho, J5.all, J5.hg⟩⟩
    rintro ⟨fv, lv⟩ Hx J
    apply join (α := V × V) (J := Jn p g o b ev (odds d t l dd) H) (sl := fun x => [some (.ref p), some (.ref g), some (.int way), some x.1, some x.2, some (.ref o)])
    · intro h
      refine ⟨_, rfl, rfl, _, rfl, ite2 ?y ?n⟩
      case n =>
        intro _
        exact h (fv, lv) _ J
      case y =>
        intro _
        refine ⟨_, rfl, g, _, 0, _, rfl, rfl, SqL.of J.hg, atI_nat (j := 0) rfl, _, _, rfl, rfl, _, rfl, p, 3, rfl, J.hp, by decide, by decide, fun e H3 e0 e1 hp3 sm3 => ?_⟩
        have J2 := J.step sm3 hp3 nop ngp
        exact ⟨_, _, rfl, rfl, h (fv, .int (b - 1 - e)) H3 ⟨J2.fv, .int (by omega), J2.hp, J2.sm, J2.ho, J2.all, J2.hg⟩⟩
    rintro ⟨fv, lv⟩ Hx J
    refine ⟨_, rfl, _, rfl, by show 2 ≤ sizeLine; decide, fun r nr => ?_⟩
    have J1 := stepS (u := .lst [fv, lv]) J nr
    exact q r fv lv _ (J.sm.none J.hp nr) upd_same (J.hp.ne nr) J1.fv J1.lv J1.hp J1.sm
end
end K12

set_option Elab.async false
set_option linter.all false
set_option maxRecDepth 100000
set_option maxHeartbeats 800000
namespace K12
open PySem PySem.Spec PyProof.Rows L2 LT
theorem scWord : FnScope ["_law_e", "_law_other", "_law_good_here"] ["_law_e"] (defScope sWord) := ⟨rfl, rfl, rfl, by decide +kernel, rfl, by decide +kernel, by decide +kernel⟩
theorem scMade : FnScope ["_law_begin", "_law_end", "_law_way"] ["_law_begin", "_law_end", "_law_way"] (defScope sMade) := ⟨rfl, rfl, rfl, by decide +kernel, rfl, by decide +kernel, by decide +kernel⟩
theorem scMet : FnScope ["_law_begin", "_law_end", "_law_way", "_law_found", "_law_word_here", "_law_e"] ["_law_begin", "_law_end", "_law_way"] (defScope sMet) := ⟨rfl, rfl, rfl, by decide +kernel, rfl, by decide +kernel, by decide +kernel⟩
theorem scLhas : FnScope ["_law_stretch", "_law_when", "_law_told", "_law_e"] ["_law_stretch", "_law_when"] (defScope sLhas) := ⟨rfl, rfl, rfl, by decide +kernel, rfl, by decide +kernel, by decide +kernel⟩
/-- the classes that the law asks for -/
structure Er (K : PySem.W.Frag) (mg : Str → Option Value) (CN CW CL CB c1 c2 c3 c4 c5 c6 c7 c8 : Addr) : Prop where
  gW : mg "Wrong" = some (.ref CW)
  gL : mg "LightsError" = some (.ref CL)
  gB : mg "Barred" = some (.ref CB)
  g1 : mg "NoKind" = some (.ref c1)
  g2 : mg "NoLetter" = some (.ref c2)
  g3 : mg "NoName" = some (.ref c3)
  g4 : mg "NoNumber" = some (.ref c4)
  g5 : mg "NoPlace" = some (.ref c5)
  g6 : mg "NoSlot" = some (.ref c6)
  g7 : mg "NoStretches" = some (.ref c7)
  g8 : mg "NoText" = some (.ref c8)
  ex : ExcC K CN
  no : PySem.W.kitAny K (.ref CN) [.ref CB, .ref c1, .ref c2, .ref c3, .ref c4, .ref c5, .ref c6, .ref c7, .ref c8] = some false
  kN : PySem.W.kitOne K (.ref CN) (.ref CN) = some true
  kW : PySem.W.kitOne K (.ref CN) (.ref CW) = some true
  kL : PySem.W.kitOne K (.ref CN) (.ref CL) = some true
  kV : PySem.W.kitOne K (.ref CN) (.type "ValueError") = some true
  ca : PySem.W.exmOne K (.ref CN) (.ref CL) = some true
section
variable {P : Program} {w : World} {K : PySem.W.Frag} {mg : Str → Option Value} {base : Heap} {C CN CW CL CB c1 c2 c3 c4 c5 c6 c7 c8 : Addr}
abbrev dayT : HO := .tup [.str (Str.ofString "day")]
def spWord (CN : Addr) : Addr × Obj → Sp := fun p vs H Q _ => vs = [.ref p.1] ∧ Zc (.ref CN) none p.2 ∧ (∃ us, p.2.data = .fields us) ∧ ∀ (t : Addr) (H' : Hp), H t = none → Same H H' → H' t = some dayT → Q (.ref t) H'
theorem ok_word {f : Addr} {fd : FuncData} {k : Nat} (F : Fun K "_law_word" "_law_word" sWord f fd) (T : Tx mg) (Z : Ct K mg C CN) (R : Er K mg CN CW CL CB c1 c2 c3 c4 c5 c6 c7 c8) : FnE P w K mg base (k + 1) f fd ["_law_e"] (spWord CN) := by
  refine okE F scWord (fun h => ?_) (fun cdv A outer s H vs Q E p hr h => ?_)
  · obtain ⟨rfl, _⟩ := h
    rfl
  · obtain ⟨a, oe⟩ := p
    obtain ⟨rfl, hz, hf, q⟩ := h
    have nd := scWord.nd
    refine ⟨_, pss_cons (ps_set (i := 1) nd rfl (.inl rfl) (pe_callB (call_isPT (a := a) (oe := oe) List.mem_cons_self R.ex hz hf) (by rfl) T.isi (by decide +kernel) (pa_cons (pv 0) (pa_cons
        (pe_tup (pa_cons (pe_glob (v := .ref CB) (by rfl) R.gB rfl) (pa_cons (pe_glob (v := .ref c1) (by rfl) R.g1 rfl) (pa_cons (pe_glob (v := .ref c2) (by rfl) R.g2 rfl) (pa_cons (pe_glob (v := .ref c3) (by rfl) R.g3 rfl)
          (pa_cons (pe_glob (v := .ref c4) (by rfl) R.g4 rfl) (pa_cons (pe_glob (v := .ref c5) (by rfl) R.g5 rfl) (pa_cons (pe_glob (v := .ref c6) (by rfl) R.g6 rfl) (pa_cons (pe_glob (v := .ref c7) (by rfl) R.g7 rfl)
          (pa_cons (pe_glob (v := .ref c8) (by rfl) R.g8 rfl) pa_nil)))))))))) pa_nil))))
      (pss_cons (ps_set (i := 2) nd rfl (.inl rfl) (pe_and (pe_callB (call_isP (a := a) (oe := oe) List.mem_cons_self R.ex hz hf) (by rfl) T.isi (by decide +kernel) (pa_cons (pv 0) (pa_cons (pe_glob (v := .ref CN) (by rfl) Z.gN rfl) pa_nil)))
        (pe_and (pe_callB (call_isP (a := a) (oe := oe) List.mem_cons_self R.ex hz hf) (by rfl) T.isi (by decide +kernel) (pa_cons (pv 0) (pa_cons (pe_glob (v := .ref CW) (by rfl) R.gW rfl) pa_nil)))
        (pe_and (pe_callB (call_isP (a := a) (oe := oe) List.mem_cons_self R.ex hz hf) (by rfl) T.isi (by decide +kernel) (pa_cons (pv 0) (pa_cons (pe_glob (v := .ref CL) (by rfl) R.gL rfl) pa_nil)))
        (pe_one (pe_callB (call_isP (a := a) (oe := oe) List.mem_cons_self R.ex hz hf) (by rfl) T.isi (by decide +kernel) (pa_cons (pv 0) (pa_cons (pe_bltn (v := .ty "ValueError") (by rfl) T.ve (by decide +kernel) rfl) pa_nil))))))))
      (pss_one (ps_ret (pe_ifExp (PW.pt (pw_and (pt_val (pv 2)) (pw_and1 (pt_not (pt_val (pv 1)))))) (pe_tup (pa_cons pe_str pa_nil)) (pe_tup (pa_cons pe_str pa_nil)))))), ?_⟩
    refine ⟨_, rfl, by show 9 ≤ sizeLine; decide, fun tp ntp => ?_⟩
    refine ⟨tp, _, [.ref CB, .ref c1, .ref c2, .ref c3, .ref c4, .ref c5, .ref c6, .ref c7, .ref c8], false, rfl, upd_same,
      .cons (.own _) (.cons (.own _) (.cons (.own _) (.cons (.own _) (.cons (.own _) (.cons (.own _) (.cons (.own _) (.cons (.own _) (.cons (.own _) .nil)))))))), R.no, ?_⟩
    refine ⟨_, rfl, _, _, true, rfl, .own _, R.kN, _, rfl, ?_⟩
    refine ⟨_, rfl, _, _, true, rfl, .own _, R.kW, _, rfl, ?_⟩
    refine ⟨_, rfl, _, _, true, rfl, .own _, R.kL, _, rfl, ?_⟩
    refine ⟨_, rfl, _, _, true, rfl, .ty _, R.kV, ?_⟩
    refine ⟨_, rfl, _, rfl, _, rfl, _, rfl, by show 1 ≤ sizeLine; decide, fun t nt => ?_⟩
    have s1 := same_upd (o := .tup [V.ref CB, V.ref c1, V.ref c2, V.ref c3, V.ref c4, V.ref c5, V.ref c6, V.ref c7, V.ref c8]) ntp
    exact q t _ (s1.free nt) (s1.trans (same_upd nt)) upd_same
/-! ### a stretch made, by any of the four ways -/
def dueOf (way : Int) (lv : V) : V := if way = 2 then .non else lv
def spMade (C CN : Addr) : Sp := fun vs H Q E => ∃ fv lv way, vs = [fv, lv, .int way] ∧ 0 ≤ way ∧ way < 4 ∧ Odd H fv ∧ Odd H lv ∧
  (rightB fv (dueOf way lv) = true → ∀ x dx H', H x = none → Same H H' → H' x = some (.ins C dx (sf fv (dueOf way lv))) → Q (.ref x) H') ∧
  (rightB fv (dueOf way lv) = false → ∀ H', Same H H' → E (.ref CN) none H')
abbrev InitFn (K : PySem.W.Frag) (f : Addr) (fd : FuncData) : Prop := FunD K "__init__" "Stretch.__init__" (defArgs sInit) (defBody sInit) (defScope sInit) [.non] [] f fd
theorem same_made {H : Hp} {x dx C : Addr} {o : HO} (nx : H x = none) (nd : H dx = none) : Same H (upd (upd H dx (.own x)) x o) := fun b z e => by
  rw [upd_ne (ne_of_none e nx), upd_ne (ne_of_none e nd)]
  exact e
/-- what __init__ asks of the new instance, from what the law asks of the made one -/
theorem made_init {H : Hp} {x dx : Addr} {fv lv : V} {Q : VK} {E : XK} (nx : H x = none) (ndx : H dx = none) (nex : dx ≠ x) (of : Odd H fv) (ol : Odd H lv)
    (h1 : rightB fv lv = true → ∀ x dx H', H x = none → Same H H' → H' x = some (.ins C dx (sf fv lv)) → Q (.ref x) H') (h2 : rightB fv lv = false → ∀ H', Same H H' → E (.ref CN) none H') :
    spInit C CN [.ref x, fv, lv] (upd (upd H dx (.own x)) x (.ins C dx [])) (fun v H2 => v = .non ∧ Q (.ref x) H2) E := by
  have s1 : Same H (upd (upd H dx (.own x)) x (.ins C dx [])) := same_made (C := C) nx ndx
  refine ⟨x, dx, fv, lv, rfl, upd_same, of.mono s1, ol.mono s1, fun r => ⟨rfl, ?_⟩, fun r => h2 r _ s1⟩
  refine h1 r x dx _ nx ?_ upd_same
  rw [upd_upd]
  exact same_made (C := C) nx ndx
theorem ok_made {f fI fD fW : Addr} {fd fdI fdD fdW : FuncData} {k : Nat} (F : Fun K "_law_made" "_law_made" sMade f fd) (T : Tx mg) (Z : Ct K mg C CN) (M : Mk K C fI) (FI : InitFn K fI fdI)
    (FD : Has K mg "is_day" ["thing"] sDay fD fdD) (FW : HasW K mg fW fdW) (bI : L2.Binds K fdI ["self", "first", "last"] []) :
    FnOk P w K mg base (L2.CX P w) (k + 6) f fd ["_law_begin", "_law_end", "_law_way"] (spMade C CN) := by
  have GI : FnOk P w K mg base (L2.CX P w) (k + 4) fI fdI ["self", "first", "last"] (spInit C CN) := ok_init FI T Z FD FW
  obtain ⟨i1, k1⟩ := FI.kbindsD (ps := ["self", "first", "last"]) 1 ["last", "first"] (fun us _ ws => us ++ (ws.drop 1 ++ ws.take 1)) (by simp) (fun r1 _ r3 => r1.append ((r3.drop 1).append (r3.take 1)))
    (fun _ _ _ _ _ _ _ us its ws h1 h2 h3 => match us, its, ws, h1, h2, h3 with | [_], [_], [_, _], _, _, _ => ⟨_, rfl, rfl⟩)
  obtain ⟨i2, k2⟩ := FI.kbindsD (ps := ["self", "first", "last"]) 1 ["first"] (fun us ds ws => us ++ (ws ++ ds)) (by simp) (fun r1 r2 r3 => r1.append (r3.append r2))
    (fun _ _ _ _ _ _ _ us its ws h1 h2 h3 => match us, its, ws, h1, h2, h3 with | [_], [_], [_], _, _, _ => ⟨_, rfl, rfl⟩)
  obtain ⟨i3, k3⟩ := FI.kbindsD (ps := ["self", "first", "last"]) 2 ["last"] (fun us _ ws => us ++ ws) (by simp) (fun r1 _ r3 => r1.append r3)
    (fun _ _ _ _ _ _ _ us its ws h1 h2 h3 => match us, its, ws, h1, h2, h3 with | [_, _], [_], [_], _, _, _ => ⟨_, rfl, rfl⟩)
  refine F.okX scMade (fun vs H Q E h => ?_) (fun cdv A outer s H vs Q E hr h => ?_)
  · obtain ⟨fv, lv, way, rfl, _⟩ := h
    rfl
  · obtain ⟨fv, lv, way, rfl, w0, w1, of, ol, q1, q2⟩ := h
    have nd := scMade.nd
    have ps : Passes (L2.CX P w) (cxOf (L2.CX P w) P w K mg base ["_law_begin", "_law_end", "_law_way"] "_law_made" (defScope sMade) f cdv A outer s H E) E := passes_call (takes_of rfl rfl rfl rfl) (fun _ _ _ _ h => h)
    refine ⟨_, pss_cons (ps_if (pt_cmpR op_eq (pv 2) pe_int (nomark _)) (pss_one (ps_ret (pe_make M GI hr (by rfl) Z.mgC bI .nil ps (pa_cons (pv 0) (pa_cons (pv 1) pa_nil))))) pss_nil)
      (pss_cons (ps_if (pt_cmpR op_eq (pv 2) pe_int (nomark _)) (pss_one (ps_ret (pe_makeK0 M GI hr (by rfl) Z.mgC k1 ps (pk_cons (pv 1) (pk_cons (pv 0) pk_nil))))) pss_nil)
      (pss_cons (ps_if (pt_cmpR op_eq (pv 2) pe_int (nomark _)) (pss_one (ps_ret (pe_makeK0 M GI hr (by rfl) Z.mgC k2 ps (pk_cons (pv 0) pk_nil)))) pss_nil)
      (pss_one (ps_ret (pe_makeK M GI hr (by rfl) Z.mgC k3 ps (pa_cons (pv 0) pa_nil) (pk_cons (pv 1) pk_nil)))))), ?_⟩
    refine ⟨_, rfl, rfl, _, rfl, ite2 (fun h => ?_) (fun n0 => ?_)⟩
    · have e : way = 0 := V.int.inj (of_decide_eq_true h)
      subst e
      exact ⟨_, rfl, _, rfl, fun x dx nx ndx nex => made_init nx ndx nex of ol q1 q2⟩
    refine ⟨_, rfl, rfl, _, rfl, ite2 (fun h => ?_) (fun n1 => ?_)⟩
    · have e : way = 1 := V.int.inj (of_decide_eq_true h)
      subst e
      exact ⟨_, rfl, _, rfl, rfl, rfl, fun x dx nx ndx nex => made_init nx ndx nex of ol q1 q2⟩
    refine ⟨_, rfl, rfl, _, rfl, ite2 (fun h => ?_) (fun n2 => ?_)⟩
    · have e : way = 2 := V.int.inj (of_decide_eq_true h)
      subst e
      exact ⟨_, rfl, rfl, rfl, fun x dx nx ndx nex => made_init nx ndx nex of .non q1 q2⟩
    · have e : dueOf way lv = lv := if_neg fun z => n2 (decide_eq_true (by rw [z]))
      rw [e] at q1 q2
      exact ⟨_, rfl, _, rfl, rfl, rfl, fun x dx nx ndx nex => made_init nx ndx nex of ol q1 q2⟩
end
end K12

set_option Elab.async false
set_option linter.all false
set_option maxRecDepth 100000
set_option maxHeartbeats 800000
namespace K12
open PySem PySem.Spec PyProof.Rows L2 LT
/-- one by place, one by its name -/
def gK {α : Type} : List α → List α → List α
  | [a], [b] => [a, b]
  | _, _ => []
theorem gK_vals {vs zs : List V} {us ws : List Value} (r : Vals vs us) (z : Vals zs ws) : Vals (gK vs zs) (gK us ws) := by
  cases r with
  | nil => exact .nil
  | cons h r =>
    cases r with
    | cons h2 r => exact .nil
    | nil =>
      cases z with
      | nil => exact .nil
      | cons k z =>
        cases z with
        | cons k2 z => exact .nil
        | nil => exact .cons h (.cons k .nil)
theorem kb_gK {K : PySem.W.Frag} {y qual : Str} {st : Stmt} {f : Addr} {fd : FuncData} {ps ks : List Str} (F : Fun K y qual st f fd) (hp : ps.length = 2)
    (h : ∀ (kV doc pm : Value) (an : Option Addr) (cdv ct : Value) (u w : Value),
      bindArgs (PySem.W.fnOf y qual (defArgs st) (defBody st) (defScope st) .none kV doc pm an cdv ct) ⟨[u], ks.zip [w]⟩ = pure (ps.zip [u, w])) :
    KBinds K fd ps ks gK gK := by
  obtain ⟨oc, od, kV, doc, pm, an, cdv, ct, osl, rfl, lk, hcd⟩ := F.ex
  refine ⟨fun s us ws _ hl => ?_, gK_vals⟩
  match us, ws, hl with
  | [u], [w], _ => exact .of_eq (h kV doc pm an cdv ct u w)
  | [], _, h => rw [hp] at h; cases h
  | [_], [], h => rw [hp] at h; cases h
  | [_], _ :: _ :: _, h => rw [hp] at h; cases h
  | _ :: _ :: _, _, h => rw [hp] at h; cases h
section
variable {P : Program} {w : World} {K : PySem.W.Frag} {mg : Str → Option Value} {base : Heap} {C CN CW CL CB c1 c2 c3 c4 c5 c6 c7 c8 : Addr}
def spMet (C : Addr) : Sp := fun vs H Q _ => ∃ fv lv way, vs = [fv, lv, .int way] ∧ 0 ≤ way ∧ way < 4 ∧ Odd H fv ∧ Odd H lv ∧
  (rightB fv (dueOf way lv) = true → ∀ x dx u t H', H x = none → H t = none → Same H H' → H' x = some (.ins C dx (sf fv (dueOf way lv))) → H' u = some (.tup []) → H' t = some (.tup [.ref x, .ref u]) → Q (.ref t) H') ∧
  (rightB fv (dueOf way lv) = false → ∀ u t H', H t = none → Same H H' → H' u = some dayT → H' t = some (.tup [.non, .ref u]) → Q (.ref t) H')
theorem ok_met {f fM fI fD fW fX : Addr} {fd fdM fdI fdD fdW fdX : FuncData} {k : Nat} (F : Fun K "_law_met" "_law_met" sMet f fd) (T : Tx mg) (Z : Ct K mg C CN) (R : Er K mg CN CW CL CB c1 c2 c3 c4 c5 c6 c7 c8) (M : Mk K C fI) (FI : InitFn K fI fdI)
    (FD : Has K mg "is_day" ["thing"] sDay fD fdD) (FW : HasW K mg fW fdW) (bI : L2.Binds K fdI ["self", "first", "last"] [])
    (FM : Has K mg "_law_made" ["_law_begin", "_law_end", "_law_way"] sMade fM fdM) (FX : Has K mg "_law_word" ["_law_e"] sWord fX fdX) :
    FnOk P w K mg base CX0 (k + 7) f fd ["_law_begin", "_law_end", "_law_way"] (spMet C) := by
  have GM : FnOk P w K mg base (L2.CX P w) (k + 6) fM fdM ["_law_begin", "_law_end", "_law_way"] (spMade C CN) := ok_made FM.fn T Z M FI FD FW bI
  have GX : FnE P w K mg base (k + 1) fX fdX ["_law_e"] (spWord CN) := ok_word FX.fn T Z R
  refine F.ok scMet (fun vs H Q E h => ?_) (fun cdv A outer s H vs Q E hr h => ?_)
  · obtain ⟨fv, lv, way, rfl, _⟩ := h
    rfl
  · obtain ⟨fv, lv, way, rfl, w0, w1, of, ol, q1, q2⟩ := h
    have nd := scMet.nd
    have hr1 : Room (k + 1) _ := hr.mono (by omega)
    refine ⟨_, pss_cons (ps_set (i := 3) nd rfl (.inl rfl) pe_non)
      (pss_cons (ps_set (i := 4) nd rfl (.inl rfl) (pe_tup pa_nil))
      (pss_cons (ps_try_as (i := 5) rfl rfl nd rfl rfl ⟨rfl, by decide, .inl R.gL⟩ takes0
        (fun W pn xe tk _ => pss_one (ps_set (i := 3) nd rfl (.inl rfl) (pe_callS GM hr (by rfl) FM.gl FM.fn.kp FM.bd (fun σ => passAt tk σ) (pa_cons (pv 0) (pa_cons (pv 1) (pa_cons (pv 2) pa_nil))))))
        (fun a oe cls d pn hz hf => pss_one (ps_set (i := 4) nd rfl (.inl rfl) (pe_callZ GX hr1 hz hf (by rfl) FX.gl FX.fn.kp FX.bd (pa_cons (pv 5) pa_nil)))))
      (pss_one (ps_ret (pe_tup (pa_cons (pv 3) (pa_cons (pv 4) pa_nil))))))), ?_⟩
    refine ⟨by show 0 ≤ sizeLine; decide, fun u nu => ?_⟩
    have s1 := same_upd (o := .tup []) nu
    refine ⟨_, rfl, _, rfl, _, rfl, fv, lv, way, rfl, w0, w1, of.mono s1, ol.mono s1, fun r x dx H1 nx sm hx => ?_, fun r H1 sm => ?_⟩
    · refine ⟨_, rfl, _, rfl, by show 2 ≤ sizeLine; decide, fun t nt => ?_⟩
      have s2 := same_upd (o := .tup [.ref x, .ref u]) nt
      exact q1 r x dx u t _ (s1.free nx) ((s1.trans sm).free nt) ((s1.trans sm).trans s2) (s2 _ _ hx) ((sm.trans s2) _ _ upd_same) upd_same
    · refine ⟨true, R.ca, fun _ a na => ?_, fun z => nomatch z⟩
      refine ⟨_, rfl, fun oe hz hf => ⟨rfl, hz, hf, fun t H2 nt sm2 ht => ?_⟩⟩
      refine ⟨_, rfl, _, rfl, by show 2 ≤ sizeLine; decide, fun t2 nt2 => ?_⟩
      have s2 := same_upd (o := .tup [.non, .ref t]) nt2
      exact q2 r t t2 _ (((s1.trans sm).trans sm2).free nt2) (((s1.trans sm).trans sm2).trans s2) (s2 _ _ ht) upd_same
def spLhas (C : Addr) : Sp := fun vs H Q _ => ∃ x i lv v, vs = [.ref x, v] ∧ St C H x i lv ∧ Odd H v ∧ (dayB v = true → ∀ H', Same H H' → Q (.bl (hasB i lv v)) H') ∧
  (dayB v = false → ∀ t H', H t = none → Same H H' → H' t = some dayT → Q (.ref t) H')
theorem sf_no {a b : V} {m : Str} (h1 : m ≠ "first_day") (h2 : m ≠ "last_day") : (sf a b).lookup m = none := by
  unfold sf
  rw [List.lookup_cons, show (m == ("first_day" : Str)) = false from beq_eq_false_iff_ne.mpr h1, List.lookup_cons, show (m == ("last_day" : Str)) = false from beq_eq_false_iff_ne.mpr h2]
  rfl
theorem ok_lhas {f fH fD fW fX : Addr} {fd fdH fdD fdW fdX : FuncData} {k : Nat} (F : Fun K "_law_has" "_law_has" sLhas f fd) (T : Tx mg) (Z : Ct K mg C CN) (R : Er K mg CN CW CL CB c1 c2 c3 c4 c5 c6 c7 c8)
    (FD : Has K mg "is_day" ["thing"] sDay fD fdD) (FW : HasW K mg fW fdW) (FH : Mth K C "has" "Stretch.has" ["self", "day"] sHas fH fdH) (kb : KBinds K fdH ["self", "day"] ["day"] gK gK)
    (FX : Has K mg "_law_word" ["_law_e"] sWord fX fdX) :
    FnOk P w K mg base CX0 (k + 5) f fd ["_law_stretch", "_law_when"] (spLhas C) := by
  have GH : FnOk P w K mg base (L2.CX P w) (k + 4) fH fdH ["self", "day"] (spHas C CN) := ok_has FH.fn T Z FD FW
  have GX : FnE P w K mg base (k + 1) fX fdX ["_law_e"] (spWord CN) := ok_word FX.fn T Z R
  refine F.ok scLhas (fun vs H Q E h => ?_) (fun cdv A outer s H vs Q E hr h => ?_)
  · obtain ⟨x, i, lv, v, rfl, _⟩ := h
    rfl
  · obtain ⟨x, i, lv, v, rfl, st, ov, q1, q2⟩ := h
    have nd := scLhas.nd
    have hr1 : Room (k + 1) _ := hr.mono (by omega)
    refine ⟨_, pss_cons (ps_set (i := 2) nd rfl (.inl rfl) (pe_tup pa_nil))
      (pss_cons (ps_try_as (i := 3) rfl rfl nd rfl rfl ⟨rfl, by decide, .inl R.gL⟩ takes0
        (fun W pn xe tk _ => pss_one (ps_set (i := 2) nd rfl (.inl rfl) (pe_methKw (pv 0) Z.cl FH.me GH hr kb (fun σ => passAt tk σ) (pk_cons (pv 1) pk_nil))))
        (fun a oe cls d pn hz hf => pss_one (ps_set (i := 2) nd rfl (.inl rfl) (pe_callZ GX hr1 hz hf (by rfl) FX.gl FX.fn.kp FX.bd (pa_cons (pv 3) pa_nil)))))
      (pss_one (ps_ret (pv 2)))), ?_⟩
    refine ⟨by show 0 ≤ sizeLine; decide, fun u nu => ?_⟩
    have s1 := same_upd (o := .tup []) nu
    obtain ⟨dx, hx⟩ := (st.mono s1).at_
    refine ⟨_, rfl, x, dx, _, rfl, hx, sf_no (by decide +kernel) (by decide +kernel), _, rfl, x, i, lv, v, rfl, st.mono s1, ov.mono s1, fun r => ?_, fun r => ?_⟩
    · exact ⟨_, rfl, q1 r _ s1⟩
    · refine ⟨true, R.ca, fun _ a na => ?_, fun z => nomatch z⟩
      refine ⟨_, rfl, fun oe hz hf => ⟨rfl, hz, hf, fun t H2 nt sm2 ht => ?_⟩⟩
      exact ⟨_, rfl, q2 r t _ (s1.free nt) (s1.trans sm2) ht⟩
end
end K12

set_option Elab.async false
set_option linter.all false
set_option maxRecDepth 100000
set_option maxHeartbeats 800000
namespace K12
open PySem PySem.Spec PyProof.Rows L2 LT
abbrev nHasR : List Str := ["_law_stretch", "_law_begin", "_law_end", "_law_near", "_law_when", "_law_told", "_law_odd", "_law_one", "_law_thing"]
theorem scHasR : FnScope nHasR ["_law_stretch", "_law_begin", "_law_end"] (defScope sHasR) := ⟨rfl, rfl, rfl, by decide +kernel, rfl, by decide +kernel, by decide +kernel⟩
theorem day_ne : PyData.eqv (.tuple [.str (Str.ofString "day")]) (.tuple [.str (Str.ofString "day")]) = true := by decide +kernel
theorem day_sh : SeqAt.shaped (.tuple [.str (Str.ofString "day")]) = true := by decide +kernel
section
variable {P : Program} {w : World} {K : PySem.W.Frag} {mg : Str → Option Value} {base : Heap} {C CN CW CL CB c1 c2 c3 c4 c5 c6 c7 c8 : Addr}
def spHasR (C : Addr) : Sp := fun vs H Q _ => ∃ x b ev, vs = [.ref x, .int b, ev] ∧ St C H x b ev ∧ 0 ≤ b ∧ ∀ H', Same H H' → Q (.bl true) H'
theorem ok_hasr {f fL fH fD fW fX : Addr} {fd fdL fdH fdD fdW fdX : FuncData} {k : Nat} (F : Fun K "_law_has_right" "_law_has_right" sHasR f fd) (T : Tx mg) (Z : Ct K mg C CN) (R : Er K mg CN CW CL CB c1 c2 c3 c4 c5 c6 c7 c8)
    (FD : Has K mg "is_day" ["thing"] sDay fD fdD) (FW : HasW K mg fW fdW) (FH : Mth K C "has" "Stretch.has" ["self", "day"] sHas fH fdH) (kb : KBinds K fdH ["self", "day"] ["day"] gK gK)
    (FX : Has K mg "_law_word" ["_law_e"] sWord fX fdX) (FL : Has K mg "_law_has" ["_law_stretch", "_law_when"] sLhas fL fdL) :
    FnOk P w K mg base CX0 (k + 6) f fd ["_law_stretch", "_law_begin", "_law_end"] (spHasR C) := by
  have GL : FnOk P w K mg base CX0 (k + 5) fL fdL ["_law_stretch", "_law_when"] (spLhas C) := ok_lhas FL.fn T Z R FD FW FH kb FX
  refine F.ok scHasR (fun vs H Q E h => ?_) (fun cdv A outer s H vs Q E hr h => ?_)
  · obtain ⟨x, b, ev, rfl, _⟩ := h
    rfl
  · obtain ⟨x, b, ev, rfl, st, b0, q⟩ := h
    have nd := scHasR.nd
    have hu := hr.units
    refine ⟨_, pss_cons (ps_set (i := 3) nd rfl (.inl rfl) (pe_lst (pa_cons (pv 1) (pa_cons (pe_op op_add (pv 1) pe_int) (pa_cons (pe_op op_sub (pv 1) pe_int) (pa_cons pe_int (pa_cons pe_int (pa_cons (pe_op op_pow pe_int pe_int)
        (pa_cons (pe_op op_sub (pe_op op_pow pe_int pe_int) pe_int) pa_nil)))))))))
      (pss_cons (ps_if (pt_cmpR op_notN (pv 2) pe_non (nomark _)) (pss_one (ps_set (i := 3) nd rfl (.inl rfl) (pe_op op_cat (pv 3) (pe_lst (pa_cons (pv 2) (pa_cons (pe_op op_add (pv 2) pe_int) (pa_cons (pe_op op_sub (pv 2) pe_int)
          (pa_cons (pe_op op_add (pv 1) (pe_op op_fdiv (pe_op op_sub (pv 2) (pv 1)) pe_int)) pa_nil)))))))) pss_nil)
      (pss_cons (ps_for PassesOwn.never rfl (pi_list (pe_lc (own := [("_law_one", 7)]) (g := gName 7) rfl nd (pi_list (pv 3)) (blkOk_by (N := nHasR) (sc := defScope sHasR) (by decide +kernel))
            (fun _ _ _ _ _ => pg_name (i := 7) nd rfl (Or.inl rfl)) (fun _ _ _ _ _ => pts_one (pt_cmpR op_ge (pv 7) pe_int (nomark _))) (fun _ _ _ _ _ => pv 7))) (pg_name (i := 4) nd rfl (.inl rfl))
          (pss_cons (ps_set (i := 5) nd rfl (.inl rfl) (pe_call GL hr (by rfl) FL.gl FL.fn.kp FL.bd .nil pass0 (pa_cons (pv 0) (pa_cons (pv 4) pa_nil))))
          (pss_one (ps_if (PW.pt (pw_or (pt_not (pt_val (pe_callB call_isi (by rfl) T.isi (by decide +kernel) (pa_cons (pv 5) (pa_cons (pe_bltn (v := .ty "bool") (by rfl) T.bool (by decide +kernel) rfl) pa_nil)))))
              (pw_or1 (pt_cmpR op_ne (pv 5) (pe_and (pe_cmpR op_ge (pv 4) (pv 1) (nomark _)) (pe_one (pe_or (pe_cmpR op_isN (pv 2) pe_non (nomark _)) (pe_one (pe_cmpR op_le (pv 4) (pv 2) (nomark _)))))) (nomark _))))) (pss_one (ps_ret pe_bl)) pss_nil))))
      (pss_cons (ps_for PassesOwn.never rfl (pi_list (pe_lst (pa_cons pe_int (pa_cons pe_int pa_nil)))) (pg_name (i := 4) nd rfl (.inl rfl))
          (pss_cons (ps_set (i := 5) nd rfl (.inl rfl) (pe_lst (pa_cons (pe_call GL hr (by rfl) FL.gl FL.fn.kp FL.bd .nil pass0 (pa_cons (pv 0) (pa_cons (pv 4) pa_nil)))
              (pa_cons (pe_call GL hr (by rfl) FL.gl FL.fn.kp FL.bd .nil pass0 (pa_cons (pv 0) (pa_cons (pe_cmpR op_eq (pv 4) pe_int (nomark _)) pa_nil))) pa_nil))))
          (pss_one (ps_if (PW.pt (pw_or (pt_not (pt_val (pe_callB call_isi (by rfl) T.isi (by decide +kernel) (pa_cons (pe_ix ix_list (pv 5) pe_int (fun _ _ => rfl)) (pa_cons (pe_bltn (v := .ty "bool") (by rfl) T.bool (by decide +kernel) rfl) pa_nil)))))
              (pw_or1 (pt_cmpR (op_neD hu) (pe_ix ix_list (pv 5) pe_int (fun _ _ => rfl)) (pe_tup (pa_cons pe_str pa_nil)) (nomark _))))) (pss_one (ps_ret pe_bl)) pss_nil))))
      (pss_cons (ps_set (i := 6) nd rfl (.inl rfl) (pe_lst (pa_cons pe_non (pa_cons (pe_un un_neg pe_int) (pa_cons pe_str (pa_cons (pe_tup (pa_cons pe_int pa_nil)) (pa_cons (pe_lst (pa_cons (pv 1) pa_nil)) (pa_cons pe_dnewK (pa_cons pe_bl pa_nil)))))))))
      (pss_one (ps_ret (pe_cmpR (op_eqD hu) (pe_lc (own := [("_law_thing", 8)]) (g := gName 8) rfl nd (pi_list (pv 6)) (blkOk_by (N := nHasR) (sc := defScope sHasR) (by decide +kernel))
          (fun _ _ _ _ _ => pg_name (i := 8) nd rfl (Or.inl rfl))
          (fun _ _ _ _ _ => pts_one (pt_cmpR (r := rNeD K) (op_neD hu) (pe_call GL hr (by rfl) FL.gl FL.fn.kp FL.bd .nil pass0 (pa_cons (pv 0) (pa_cons (pv 8) pa_nil))) (pe_tup (pa_cons pe_str pa_nil)) (nomark _)))
          (fun _ _ _ _ _ => pv 8)) (pe_lst pa_nil) (nomark _)))))))), ?_⟩
    refine ⟨_, rfl, _, rfl, _, _, rfl, rfl, _, rfl, _, _, rfl, rfl, _, _, rfl, rfl, ⟨by decide, by decide, by decide⟩, _, _, rfl, rfl, ⟨by decide, by decide, by decide⟩, _, _, rfl, rfl, by show 7 ≤ sizeLine; decide, fun n nn => ?_⟩
    apply join (α := Addr × List Int) (J := fun y Hx => Same H Hx ∧ Hx y.1 = some (.lst (y.2.map V.int)) ∧ y.2.length ≤ 20) (sl := fun y => [some (.ref x), some (.int b), some ev, some (.ref y.1), none, none, none, none, none])
    · intro h
      refine ⟨_, rfl, rfl, _, rfl, ite2 ?y ?n⟩
      case n =>
        intro _
        exact h (n, [b, b + 1, b - 1, 0, 1, 10 ^ Int.toNat 59, 10 ^ Int.toNat 60 - 1]) _ ⟨same_upd nn, upd_same, by show 7 ≤ 20; decide⟩
      case y =>
        intro hy
        obtain ⟨j, rfl⟩ : ∃ j, ev = .int j := by
          rcases st.en with rfl | ⟨j, rfl, _⟩
          · cases hy
          · exact ⟨j, rfl⟩
        refine ⟨_, rfl, _, rfl, _, rfl, _, _, rfl, rfl, _, rfl, _, _, rfl, rfl, _, rfl, _, rfl, _, rfl, _, _, rfl, rfl, _, _, rfl, rfl, ⟨by decide, by decide⟩, _, _, rfl, rfl, by show 4 ≤ sizeLine; decide, fun n2 nn2 => ?_⟩
        have s1 := same_upd (o := .lst ([b, b + 1, b - 1, 0, 1, 10 ^ Int.toNat 59, 10 ^ Int.toNat 60 - 1].map V.int)) nn
        have s2 := same_upd (o := .lst ([j, j + 1, j - 1, b + (j - b) / 2].map V.int)) nn2
        refine ⟨n, n2, _, _, rfl, rfl, s2 _ _ upd_same, upd_same, by show 7 + 4 ≤ sizeLine; decide, fun n3 nn3 => ?_⟩
        exact h (n3, [b, b + 1, b - 1, 0, 1, 10 ^ Int.toNat 59, 10 ^ Int.toNat 60 - 1] ++ [j, j + 1, j - 1, b + (j - b) / 2]) _ ⟨(s1.trans s2).trans (same_upd nn3), upd_same, by show 11 ≤ 20; decide⟩
    rintro ⟨m, ns⟩ H1 ⟨sm, hm, hl⟩
    dsimp only at hm hl
    refine ⟨_, rfl, m, rfl, ⟨_, SqL.of hm⟩, fun D nD => ?_⟩
    refine lc_list (K := K) (a := m) (xs := ns.map V.int) (fun i H' => Same H1 H' ∧ H' D = some (.lst (((ns.take i).filter fun d => decide (0 ≤ d)).map V.int))) ⟨same_upd nD, upd_same⟩ (fun i H' _ h => h.1.seq (SqL.of hm)) ?_ ?_
    · rintro i y H2 hy ⟨sm2, eD⟩
      obtain ⟨d, hd, rfl⟩ : ∃ d, ns[i]? = some d ∧ y = .int d := by
        rw [List.getElem?_map] at hy
        cases e : ns[i]? with
        | none => rw [e] at hy; cases hy
        | some d => rw [e] at hy; cases hy; exact ⟨d, rfl, rfl⟩
      have ht : ns.take (i + 1) = ns.take i ++ [d] := by
        rw [List.take_add_one, hd]
        rfl
      have len : (((ns.take i).filter fun d => decide (0 ≤ d)).map V.int).length < sizeLine := by
        rw [List.length_map]
        refine Nat.lt_of_le_of_lt (List.length_filter_le _ _) ?_
        rw [List.length_take]
        exact Nat.lt_of_le_of_lt (Nat.min_le_right _ _) (small1000 (by omega))
      refine ⟨rfl, _, rfl, d, 0, rfl, rfl, _, rfl, ?_⟩
      by_cases h0 : (0 : Int) ≤ d
      · rw [decide_eq_true h0]
        refine ⟨_, rfl, _, eD, len, same_app nD sm2, ?_⟩
        rw [upd_same, ht, List.filter_append, List.map_append, List.filter_cons, if_pos (decide_eq_true h0)]
        rfl
      · rw [decide_eq_false h0]
        refine ⟨sm2, ?_⟩
        rw [eD, ht, List.filter_append, List.filter_cons, if_neg (by rw [decide_eq_false h0]; exact Bool.false_ne_true), List.filter_nil, List.append_nil]
    rintro H2 ⟨sm2, eD⟩
    rw [List.length_map, List.take_length] at eD
    refine ⟨D, rfl, ⟨_, SqL.of eD⟩, for_list (K := K) (a := D) (xs := (ns.filter fun d => decide (0 ≤ d)).map V.int) (fun i σ H' => ∃ y4 y5, σ = [some (.ref x), some (.int b), some ev, some (.ref m), y4, y5, none, none, none] ∧ Same H2 H') ⟨none, none, rfl, Same.refl _⟩
      (fun i σ H' _ ⟨_, _, _, sm'⟩ => sm'.seq (SqL.of eD)) ?_ ?_⟩
    · rintro i y σ H3 hy ⟨y4, y5, rfl, sm3⟩
      obtain ⟨d, rfl, hd⟩ : ∃ d, y = .int d ∧ 0 ≤ d := by
        rw [List.getElem?_map] at hy
        cases e : (ns.filter fun d => decide (0 ≤ d))[i]? with
        | none => rw [e] at hy; cases hy
        | some d =>
          rw [e] at hy
          cases hy
          exact ⟨d, rfl, of_decide_eq_true (List.mem_filter.mp (List.mem_of_getElem? e)).2⟩
      have st3 := st.mono ((sm.trans sm2).trans sm3)
      refine ⟨_, rfl, _, rfl, x, b, ev, .int d, rfl, st3, .int d, fun _ H4 s4 => ?_, fun r => absurd (show decide (0 ≤ d) = false from r) (by rw [decide_eq_true hd]; exact Bool.noConfusion)⟩
      refine ⟨_, rfl, .bl _, .ty "bool", _, _, true, rfl, .ty _, .base (.bl _), kit_ty (show kitB "bool" "bool" = some true by decide +kernel), _, rfl, ?_⟩
      have go : ∀ c : Bool, c = (decide (b ≤ d) && upTo d ev) → (!decide (V.bl (hasB b ev (.int d)) = V.bl c)) = false := fun c hc => by
        rw [hc]
        exact congrArg (!·) (decide_eq_true rfl)
      refine ⟨_, rfl, _, rfl, _, rfl, d, b, rfl, rfl, _, rfl, ?_⟩
      cases hbd : decide (b ≤ d) with
      | false =>
        refine ⟨rfl, _, rfl, ?_⟩
        rw [go false (by rw [hbd]; rfl)]
        exact ⟨_, _, rfl, sm3.trans s4⟩
      | true =>
        refine ⟨_, rfl, rfl, _, rfl, ?_⟩
        rcases st.en with rfl | ⟨j, rfl, _⟩
        · refine ⟨rfl, _, rfl, ?_⟩
          rw [go true (by rw [hbd]; rfl)]
          exact ⟨_, _, rfl, sm3.trans s4⟩
        · refine ⟨_, rfl, _, rfl, d, j, rfl, rfl, rfl, _, rfl, ?_⟩
          rw [go (decide (d ≤ j)) (by rw [hbd]; rfl)]
          exact ⟨_, _, rfl, sm3.trans s4⟩
    rintro σ H3 ⟨y4, y5, rfl, sm3⟩
    have st3 := st.mono ((sm.trans sm2).trans sm3)
    refine ⟨by show 2 ≤ sizeLine; decide, fun B nB => ?_⟩
    have sB := same_upd (o := .lst [V.int 0, V.int 1]) nB
    refine ⟨B, rfl, ⟨_, SqL.of upd_same⟩, for_list (K := K) (a := B) (xs := [V.int 0, V.int 1]) (fun i σ H' => ∃ y4 y5, σ = [some (.ref x), some (.int b), some ev, some (.ref m), y4, y5, none, none, none] ∧ Same (upd H3 B (.lst [V.int 0, V.int 1])) H') ⟨_, _, rfl, Same.refl _⟩
      (fun i σ H' _ ⟨_, _, _, sm'⟩ => sm'.seq (SqL.of upd_same)) ?_ ?_⟩
    · rintro i y σ H4 hy ⟨z4, z5, rfl, sm4⟩
      obtain ⟨d, rfl, hd⟩ : ∃ d, y = .int d ∧ 0 ≤ d := by
        match i, hy with
        | 0, hy => cases hy; exact ⟨0, rfl, by decide⟩
        | 1, hy => cases hy; exact ⟨1, rfl, by decide⟩
      have st4 := st3.mono (sB.trans sm4)
      refine ⟨_, rfl, _, rfl, x, b, ev, .int d, rfl, st4, .int d, fun _ H5 s5 => ?_, fun r => absurd (show decide (0 ≤ d) = false from r) (by rw [decide_eq_true hd]; exact Bool.noConfusion)⟩
      refine ⟨_, rfl, _, rfl, rfl, x, b, ev, .bl _, rfl, st4.mono s5, .bl _, fun r => (nomatch (show false = true from r)), fun _ t H6 nt s6 ht => ?_⟩
      refine ⟨by show 2 ≤ sizeLine; decide, fun l nl => ?_⟩
      have s7 := same_upd (o := .lst [V.bl (hasB b ev (.int d)), .ref t]) nl
      refine ⟨_, rfl, l, _, 0, _, rfl, rfl, SqL.of upd_same, atI_nat (j := 0) rfl, .bl _, .ty "bool", _, _, true, rfl, .ty _, .base (.bl _), kit_ty (show kitB "bool" "bool" = some true by decide +kernel), _, rfl, ?_⟩
      refine ⟨_, rfl, l, _, 1, _, rfl, rfl, SqL.of upd_same, atI_nat (j := 1) rfl, by show 1 ≤ sizeLine; decide, fun t2 nt2 => ?_⟩
      have s8 := same_upd (o := dayT) nt2
      refine ⟨.tuple [.str (Str.ofString "day")], .tuple [.str (Str.ofString "day")], .tup (SqT.of ((s7.trans s8) _ _ ht)) (.cons (.str _) .nil), .tup (SqT.of upd_same) (.cons (.str _) .nil), day_sh, day_sh, _, rfl, ?_⟩
      rw [day_ne]
      exact ⟨_, _, rfl, ((((sm4.trans s5).trans s6).trans s7).trans s8)⟩
    rintro σ H4 ⟨z4, z5, rfl, sm4⟩
    have st4 := st3.mono (sB.trans sm4)
    refine ⟨1, rfl, by show 1 ≤ sizeLine; decide, fun t nt => ?_⟩
    refine ⟨_, rfl, by show 1 ≤ sizeLine; decide, fun l nl => fun dd ndd => ?_⟩
    refine ⟨by show 7 ≤ sizeLine; decide, fun o no => ?_⟩
    have s1 := same_upd (o := .tup [V.int 0]) nt
    have s2 := same_upd (o := .lst [V.int b]) nl
    have s3 := same_upd (o := .dK []) ndd
    have s4 := same_upd (o := .lst [V.non, .int (-1), .str (Str.ofString "0"), .ref t, .ref l, .ref dd, .bl true]) no
    have e1 := (s2.trans (s3.trans s4)) _ _ (upd_same (H := H4) (a := t) (o := .tup [V.int 0]))
    have e2 := (s3.trans s4) _ _ (upd_same (a := l) (o := .lst [V.int b]))
    have e3 := s4 _ _ (upd_same (a := dd) (o := .dK []))
    have sA := s1.trans (s2.trans (s3.trans s4))
    have eo := upd_same (a := o) (o := .lst [V.non, .int (-1), .str (Str.ofString "0"), .ref t, .ref l, .ref dd, .bl true]) (H := upd (upd (upd H4 t (.tup [V.int 0])) l (.lst [V.int b])) dd (.dK []))
    generalize hHs : upd _ o _ = Hs at e1 e2 e3 sA eo
    have key : ∀ v ∈ [V.non, .int (-1), .str (Str.ofString "0"), .ref t, .ref l, .ref dd, .bl true], Odd Hs v ∧ dayB v = false := by
      intro v hv
      simp only [List.mem_cons, List.not_mem_nil, or_false] at hv
      rcases hv with rfl | rfl | rfl | rfl | rfl | rfl | rfl
      · exact ⟨.non, rfl⟩
      · exact ⟨.int _, by decide⟩
      · exact ⟨.str _, rfl⟩
      · exact ⟨.tup e1, rfl⟩
      · exact ⟨.lst e2, rfl⟩
      · exact ⟨.dK e3, rfl⟩
      · exact ⟨.bl _, rfl⟩
    refine ⟨_, rfl, o, rfl, ⟨_, SqL.of eo⟩, fun D2 nD2 => ?_⟩
    refine lc_list (K := K) (a := o) (xs := [V.non, .int (-1), .str (Str.ofString "0"), .ref t, .ref l, .ref dd, .bl true]) (fun i H' => Same Hs H' ∧ H' D2 = some (.lst [])) ⟨same_upd nD2, upd_same⟩ (fun i H' _ h => h.1.seq (SqL.of eo)) ?_ ?_
    · rintro i v H5 hv ⟨sm5, eD2⟩
      obtain ⟨ov, dv⟩ := key v (List.mem_of_getElem? hv)
      refine ⟨rfl, _, rfl, _, rfl, x, b, ev, v, rfl, (st4.mono sA).mono sm5, ov.mono sm5, fun r => absurd r (by rw [dv]; exact Bool.false_ne_true), fun _ t5 H6 nt5 s6 ht5 => ?_⟩
      refine ⟨by show 1 ≤ sizeLine; decide, fun t6 nt6 => ?_⟩
      have s7 := same_upd (o := dayT) nt6
      refine ⟨.tuple [.str (Str.ofString "day")], .tuple [.str (Str.ofString "day")], .tup (SqT.of (s7 _ _ ht5)) (.cons (.str _) .nil), .tup (SqT.of upd_same) (.cons (.str _) .nil), day_sh, day_sh, _, rfl, ?_⟩
      rw [day_ne]
      exact ⟨(sm5.trans s6).trans s7, (s6.trans s7) _ _ eD2⟩
    · rintro H5 ⟨sm5, eD2⟩
      refine ⟨by show 0 ≤ sizeLine; decide, fun l2 nl2 => ?_⟩
      have s8 := same_upd (o := .lst []) nl2
      refine ⟨.list [], .list [], .lst (SqL.of (s8 _ _ eD2)) .nil, .lst (SqL.of upd_same) .nil, by decide +kernel, by decide +kernel, ?_⟩
      exact q _ (((((((sm.trans sm2).trans sm3).trans sB).trans sm4).trans sA).trans sm5).trans s8)
end
end K12

set_option Elab.async false
set_option linter.all false
set_option maxRecDepth 100000
set_option maxHeartbeats 800000
namespace K12
open PySem PySem.Spec PyProof.Rows L2 LT
theorem scShown : FnScope ["_law_begin", "_law_end"] ["_law_begin", "_law_end"] (defScope sShown) := ⟨rfl, rfl, rfl, by decide +kernel, rfl, by decide +kernel, by decide +kernel⟩
theorem scTold : FnScope ["_law_stretch", "_law_begin", "_law_end", "_law_turn"] ["_law_stretch", "_law_begin", "_law_end"] (defScope sTold) := ⟨rfl, rfl, rfl, by decide +kernel, rfl, by decide +kernel, by decide +kernel⟩
abbrev nAlike : List Str := ["_law_stretch", "_law_other", "_law_due", "_law_told", "_law_one"]
theorem scAlike : FnScope nAlike ["_law_stretch", "_law_other", "_law_due"] (defScope sAlike) := ⟨rfl, rfl, rfl, by decide +kernel, rfl, by decide +kernel, by decide +kernel⟩
def endD : V → PyData
  | .int j => .int j
  | _ => .none
theorem EndV.dp {K : PySem.W.Frag} {H : Hp} {v : V} (h : EndV v) : Dp K H v (endD v) := by
  rcases h with rfl | ⟨j, rfl, _⟩
  · exact .non
  · exact .int j
theorem EndV.fit {v : V} (h : EndV v) : (endD v).hasDict = false ∧ (endD v).showable = true ∧ (endD v).depth = 0 ∧ (endD v).shown.length ≤ 1921 := by
  rcases h with rfl | ⟨j, rfl, hj⟩
  · exact ⟨by simp [endD, PyData.hasDict], by simp [endD, PyData.showable], by simp [endD, PyData.depth], by decide +kernel⟩
  · refine ⟨by simp [endD, PyData.hasDict], by simpa [endD, PyData.showable] using hj, by simp [endD, PyData.depth], ?_⟩
    simp only [endD, PyData.shown]
    exact tlen hj
theorem pair_fit {b : Int} {ev : V} (hb : b.natAbs.log2 < 1920) (h : EndV ev) : (PyData.list [.int b, endD ev]).hasDict = false ∧ (PyData.list [.int b, endD ev]).showable = true ∧ (PyData.list [.int b, endD ev]).depth ≤ 60 ∧ (PyData.list [.int b, endD ev]).shown.length ≤ sizeLine := by
  obtain ⟨h1, h2, h3, h4⟩ := h.fit
  refine ⟨by simp [PyData.hasDict, PyData.hasDictAll, h1], by simpa [PyData.showable, PyData.showableAll, h2] using hb, by simp [PyData.depth, PyData.depthAll, h3], ?_⟩
  have e := listText_len_le [PyData.shown (.int b), PyData.shown (endD ev)]
  have e1 : (PyData.shown (.int b)).length ≤ 1921 := by
    simp only [PyData.shown]
    exact tlen hb
  simp only [List.map_cons, List.map_nil, List.sum_cons, List.sum_nil, List.length_cons, List.length_nil] at e
  have e2 : PyData.shown (.list [.int b, endD ev]) = listText [PyData.shown (.int b), PyData.shown (endD ev)] := by simp only [PyData.shown, PyData.shownAll]
  rw [e2, sizeLine_eq]
  omega
section
variable {P : Program} {w : World} {K : PySem.W.Frag} {mg : Str → Option Value} {base : Heap} {C CN CW CL CB c1 c2 c3 c4 c5 c6 c7 c8 : Addr}
def spShown : Sp := fun vs H Q _ => ∃ b ev, vs = [.int b, ev] ∧ b.natAbs.log2 < 1920 ∧ EndV ev ∧ ∀ t, H t = none → Q (.ref t) (upd H t (.tup [.str (shownR b ev), .str (shownS b ev)]))
theorem l8 : (Str.ofString "Stretch(").length = 8 := by decide +kernel
theorem l2 : (Str.ofString ", ").length = 2 := by decide +kernel
theorem l1 : (Str.ofString ")").length = 1 := by decide +kernel
theorem l0 : (Str.ofString "-").length = 1 := by decide +kernel
theorem ok_shown {f : Addr} {fd : FuncData} {k : Nat} (F : Fun K "_law_shown" "_law_shown" sShown f fd) (T : Tx mg) : FnOk P w K mg base CX0 (k + 1) f fd ["_law_begin", "_law_end"] spShown := by
  refine F.ok scShown (fun vs H Q E h => ?_) (fun cdv A outer s H vs Q E hr h => ?_)
  · obtain ⟨b, ev, rfl, _⟩ := h
    rfl
  · obtain ⟨b, ev, rfl, hb, en, q⟩ := h
    have lb := tlen hb
    refine ⟨_, pss_cons (ps_if (pt_cmpR op_isN (pv 1) pe_non (nomark _)) (pss_one (ps_ret (pe_tup (pa_cons (pe_op op_add_str (pe_op op_add_str pe_str (pe_callTy call_str_int (by rfl) T.str (by decide +kernel) (pa_cons (pv 0) pa_nil))) pe_str)
        (pa_cons (pe_op op_add_str (pe_callTy call_str_int (by rfl) T.str (by decide +kernel) (pa_cons (pv 0) pa_nil)) pe_str) pa_nil))))) pss_nil)
      (pss_one (ps_ret (pe_tup (pa_cons (pe_op op_add_str (pe_op op_add_str (pe_op op_add_str (pe_op op_add_str pe_str (pe_callTy call_str_int (by rfl) T.str (by decide +kernel) (pa_cons (pv 0) pa_nil))) pe_str)
          (pe_callTy call_str_int (by rfl) T.str (by decide +kernel) (pa_cons (pv 1) pa_nil))) pe_str)
        (pa_cons (pe_op op_add_str (pe_op op_add_str (pe_callTy call_str_int (by rfl) T.str (by decide +kernel) (pa_cons (pv 0) pa_nil)) pe_str) (pe_callTy call_str_int (by rfl) T.str (by decide +kernel) (pa_cons (pv 1) pa_nil))) pa_nil))))), ?_⟩
    refine ⟨_, rfl, rfl, _, rfl, ?_⟩
    rcases en with rfl | ⟨j, rfl, hj⟩
    · refine ⟨_, rfl, b, rfl, hb, _, _, rfl, rfl, ?_, _, _, rfl, rfl, ?_, _, rfl, b, rfl, hb, _, _, rfl, rfl, ?_, by show 2 ≤ sizeLine; decide, q⟩
      · rw [sizeLine_eq, l8]; omega
      · rw [sizeLine_eq, strLen_append, l8, l1]; omega
      · rw [sizeLine_eq, l0]; omega
    · have lj := tlen hj
      refine ⟨_, rfl, b, rfl, hb, _, _, rfl, rfl, ?_, _, _, rfl, rfl, ?_, _, rfl, j, rfl, hj, _, _, rfl, rfl, ?_, _, _, rfl, rfl, ?_, _, rfl, b, rfl, hb, _, _, rfl, rfl, ?_, _, rfl, j, rfl, hj, _, _, rfl, rfl, ?_, by show 2 ≤ sizeLine; decide, q⟩
      · rw [sizeLine_eq, l8]; omega
      · rw [sizeLine_eq, strLen_append, l8, l2]; omega
      · rw [sizeLine_eq, strLen_append, strLen_append, l8, l2]; omega
      · rw [sizeLine_eq, strLen_append, strLen_append, strLen_append, l8, l2, l1]; omega
      · rw [sizeLine_eq, l0]; omega
      · rw [sizeLine_eq, strLen_append, l0]; omega
end
end K12

set_option Elab.async false
set_option linter.all false
set_option maxRecDepth 100000
set_option maxHeartbeats 800000
namespace K12
open PySem PySem.Spec PyProof.Rows L2 LT
theorem ok_of (s : String) : PyData.strOk (Str.ofString s) = true := by
  rw [Str.ofString_eq_toList]
  show (((s.toList.map Char.toNat).toArray).all fun c => decide (c < 0x110000)) = true
  rw [List.all_toArray, List.all_eq_true]
  intro c hc
  obtain ⟨d, _, rfl⟩ := List.mem_map.mp hc
  have h : d.val.toNat.isValidChar := d.valid
  rcases h with h | h <;> (refine decide_eq_true ?_; show d.val.toNat < _; omega)
theorem ok_app {x y : Str} (hx : PyData.strOk x = true) (hy : PyData.strOk y = true) : PyData.strOk (x ++ y) = true := by
  show ((x.cps ++ y.cps).all fun c => decide (c < 0x110000)) = true
  rw [Array.all_append]
  rw [show (x.cps.all fun c => decide (c < 0x110000)) = true from hx, show (y.cps.all fun c => decide (c < 0x110000)) = true from hy]
  rfl
theorem ok_shownR (b : Int) (ev : V) : PyData.strOk (shownR b ev) = true := by
  unfold shownR
  cases ev <;> first | exact ok_app (ok_app (ok_of _) (ok_of _)) (ok_of _) | exact ok_app (ok_app (ok_app (ok_app (ok_of _) (ok_of _)) (ok_of _)) (ok_of _)) (ok_of _)
theorem ok_shownS (b : Int) (ev : V) : PyData.strOk (shownS b ev) = true := by
  unfold shownS
  cases ev <;> first | exact ok_app (ok_of _) (ok_of _) | exact ok_app (ok_app (ok_of _) (ok_of _)) (ok_of _)
theorem two_lay {x y : Str} (hx : PyData.strOk x = true) (hy : PyData.strOk y = true) : PyData.canLay0 (.tuple [.str x, .str y]) = true ∧ SeqAt.shaped (.tuple [.str x, .str y]) = true := by
  have h : PyData.canLay0 (.tuple [.str x, .str y]) = true := by simp [PyData.canLay0, PyData.canLayAll0, hx, hy]
  refine ⟨h, ?_⟩
  unfold SeqAt.shaped
  rw [h]
  simp [PyData.depth, PyData.depthAll]
section
variable {P : Program} {w : World} {K : PySem.W.Frag} {mg : Str → Option Value} {base : Heap} {C CN CW CL CB c1 c2 c3 c4 c5 c6 c7 c8 : Addr}
structure Sw (K : PySem.W.Frag) (C fR fS : Addr) : Prop where
  rp : PySem.W.findIn K (.ref C) "__repr__" = some (some (.ref fR))
  rf : PySem.W.isFn K (.ref fR) = true
  sp : PySem.W.findIn K (.ref C) "__str__" = some (some (.ref fS))
  sf : PySem.W.isFn K (.ref fS) = true
theorem ok_told {f f1 f2 fR fS fN fO fL fH fD fW fX : Addr} {fd fd1 fd2 fdR fdS fdN fdO fdL fdH fdD fdW fdX : FuncData} {k : Nat} (F : Fun K "_law_told_right" "_law_told_right" sTold f fd) (T : Tx mg) (Z : Ct K mg C CN) (R : Er K mg CN CW CL CB c1 c2 c3 c4 c5 c6 c7 c8)
    (FD : Has K mg "is_day" ["thing"] sDay fD fdD) (FW : HasW K mg fW fdW) (FH : Mth K C "has" "Stretch.has" ["self", "day"] sHas fH fdH) (kb : KBinds K fdH ["self", "day"] ["day"] gK gK)
    (FX : Has K mg "_law_word" ["_law_e"] sWord fX fdX) (FL : Has K mg "_law_has" ["_law_stretch", "_law_when"] sLhas fL fdL) (FO : Has K mg "_law_has_right" ["_law_stretch", "_law_begin", "_law_end"] sHasR fO fdO)
    (FN : Has K mg "_law_shown" ["_law_begin", "_law_end"] sShown fN fdN) (F1 : Mth K C "first" "Stretch.first" ["self"] sFirst f1 fd1) (F2 : Mth K C "last" "Stretch.last" ["self"] sLast f2 fd2)
    (FR : Mth K C "__repr__" "Stretch.__repr__" ["self"] sRepr fR fdR) (FS : Mth K C "__str__" "Stretch.__str__" ["self"] sStr fS fdS) :
    FnG P w K mg base CX0 (k + 7) f fd ["_law_stretch", "_law_begin", "_law_end"] (spHasR C) := by
  have GO : FnOk P w K mg base CX0 (k + 6) fO fdO ["_law_stretch", "_law_begin", "_law_end"] (spHasR C) := ok_hasr FO.fn T Z R FD FW FH kb FX FL
  have GN : FnOk P w K mg base CX0 (k + 1) fN fdN ["_law_begin", "_law_end"] spShown := ok_shown FN.fn T
  have G1 : FnOk P w K mg base CX0 (k + 1) f1 fd1 ["self"] (spGet C fun a _ => a) := ok_first F1.fn Z
  have G2 : FnOk P w K mg base CX0 (k + 1) f2 fd2 ["self"] (spGet C fun _ b => b) := ok_last F2.fn Z
  have GR : FnOk P w K mg base CX0 (k + 1) fR fdR ["self"] (spShow C shownR) := ok_repr FR.fn Z
  have GS : FnOk P w K mg base CX0 (k + 1) fS fdS ["self"] (spShow C shownS) := ok_str FS.fn Z
  refine okG F scTold (fun h => ?_) (fun cdv A outer s H vs Q E hG hr h => ?_)
  · obtain ⟨x, b, ev, rfl, _⟩ := h
    rfl
  · obtain ⟨x, b, ev, rfl, st, b0, q⟩ := h
    have nd := scTold.nd
    have hu := hr.units
    have hr1 : Room (k + 1) _ := hr.mono (by omega)
    have hr2 : Room (k + 1 + 1) _ := hr.mono (by omega)
    have hr3 : Room (k + 1 + 2) _ := hr.mono (by omega)
    have hG2 : (cxOf CX0 P w K mg base ["_law_stretch", "_law_begin", "_law_end", "_law_turn"] "_law_told_right" (defScope sTold) f cdv A outer s H E).nox.A.guards = some [] := hG
    refine ⟨_, pss_cons (ps_for PassesOwn.never rfl (pi_range1 (by rfl) T.range (pa_cons pe_int pa_nil)) (pg_name (i := 3) nd rfl (.inl rfl))
        (pss_cons (ps_if (pt_cmpR op_ne (pe_callB (call_reprSh hG2 hu) (by rfl) T.repr (by decide +kernel) (pa_cons (pe_lst (pa_cons (pe_meth0 (pv 0) Z.cl F1.me G1 hr1 F1.bd .nil pass0) (pa_cons (pe_meth0 (pv 0) Z.cl F2.me G2 hr1 F2.bd .nil pass0) pa_nil))) pa_nil))
            (pe_callB (call_reprSh hG2 hu) (by rfl) T.repr (by decide +kernel) (pa_cons (pe_lst (pa_cons (pv 1) (pa_cons (pv 2) pa_nil))) pa_nil)) (nomark _)) (pss_one (ps_ret pe_bl)) pss_nil)
        (pss_cons (ps_if (pt_cmpR (op_neD hu) (pe_tup (pa_cons (pe_callB (call_repr_own FR.me.at_ FR.me.fn GR hr2 FR.bd) (by rfl) T.repr (by decide +kernel) (pa_cons (pv 0) pa_nil))
              (pa_cons (pe_callTy (call_str_own FS.me.at_ FS.me.fn GS hr3 FS.bd) (by rfl) T.str (by decide +kernel) (pa_cons (pv 0) pa_nil)) pa_nil)))
            (pe_call GN hr1 (by rfl) FN.gl FN.fn.kp FN.bd .nil pass0 (pa_cons (pv 1) (pa_cons (pv 2) pa_nil))) (nomark _)) (pss_one (ps_ret pe_bl)) pss_nil)
        (pss_one (ps_if (pt_not (pt_val (pe_call GO hr (by rfl) FO.gl FO.fn.kp FO.bd .nil pass0 (pa_cons (pv 0) (pa_cons (pv 1) (pa_cons (pv 2) pa_nil)))))) (pss_one (ps_ret pe_bl)) pss_nil)))))
      (pss_one (ps_ret pe_bl)), ?_⟩
    refine ⟨2, rfl, by decide, by decide, for_range (lo := 0) (n := 2) (fun i σ H' => ∃ y, σ = [some (.ref x), some (.int b), some ev, y] ∧ Same H H') ⟨none, rfl, Same.refl H⟩ ?_ ?_⟩
    · rintro i σ H1 hi ⟨y, rfl, sm⟩
      have st1 := st.mono sm
      obtain ⟨dx, hx⟩ := st1.at_
      obtain ⟨n0, n1, n2, n3⟩ := pair_fit st.lg st.en
      refine ⟨_, rfl, x, dx, _, rfl, hx, sf_no (by decide +kernel) (by decide +kernel), x, b, ev, rfl, st1, ?_⟩
      refine ⟨_, rfl, x, dx, _, rfl, hx, sf_no (by decide +kernel) (by decide +kernel), x, b, ev, rfl, st1, by show 2 ≤ sizeLine; decide, fun l nl => ?_⟩
      have s1 := same_upd (o := .lst [V.int b, ev]) nl
      refine ⟨.ref l, .list [.int b, endD ev], rfl, .dp (.lst (SqL.of upd_same) (.cons (.int b) (.cons st.en.dp .nil))) n0, n1, n2, n3, ?_⟩
      refine ⟨_, rfl, _, rfl, by show 2 ≤ sizeLine; decide, fun l2 nl2 => ?_⟩
      have s2 := same_upd (o := .lst [V.int b, ev]) nl2
      refine ⟨.ref l2, .list [.int b, endD ev], rfl, .dp (.lst (SqL.of upd_same) (.cons (.int b) (.cons st.en.dp .nil))) n0, n1, n2, n3, rfl, _, rfl, ?_⟩
      rw [decide_eq_true rfl]
      have st2 := (st1.mono s1).mono s2
      obtain ⟨dx2, hx2⟩ := st2.at_
      refine ⟨_, rfl, x, dx2, _, rfl, hx2, x, b, ev, rfl, st2, _, rfl, ?_⟩
      refine ⟨_, rfl, x, dx2, _, rfl, hx2, x, b, ev, rfl, st2, _, rfl, by show 2 ≤ sizeLine; decide, fun t nt => ?_⟩
      have s3 := same_upd (o := .tup [V.str (shownR b ev), V.str (shownS b ev)]) nt
      refine ⟨_, rfl, _, rfl, b, ev, rfl, st.lg, st.en, fun t2 nt2 => ?_⟩
      have s4 := same_upd (o := .tup [V.str (shownR b ev), V.str (shownS b ev)]) nt2
      obtain ⟨c1', c2'⟩ := two_lay (ok_shownR b ev) (ok_shownS b ev)
      refine ⟨_, _, .tup (SqT.of (s4 _ _ upd_same)) (.cons (.str _) (.cons (.str _) .nil)), .tup (SqT.of upd_same) (.cons (.str _) (.cons (.str _) .nil)), c2', c2', _, rfl, ?_⟩
      rw [SeqAt.eqv_refl _ c1']
      refine ⟨_, rfl, _, rfl, _, rfl, x, b, ev, rfl, (st2.mono s3).mono s4, b0, fun H5 s5 => ⟨_, rfl, ?_⟩⟩
      exact ⟨_, rfl, (((((sm.trans s1).trans s2).trans s3).trans s4).trans s5)⟩
    · rintro σ H1 ⟨y, rfl, sm⟩
      exact q _ sm
end
end K12

set_option Elab.async false
set_option linter.all false
set_option maxRecDepth 100000
set_option maxHeartbeats 800000
namespace K12
open PySem PySem.Spec PyProof.Rows L2 LT
theorem Same.ins {H H' : Hp} (s : Same H H') {C x : Addr} {dx : Addr} {fs : List (Str × V)} (h : H x = some (.ins C dx fs)) : H' x = some (.ins C dx fs) := s _ _ h
theorem five (e : Bool) : PyData.eqv (.list [.bool e, .bool e, .bool e, .bool e, .bool e]) (.list [.bool e, .bool e, .bool e, .bool e, .bool e]) = true ∧ SeqAt.shaped (.list [.bool e, .bool e, .bool e, .bool e, .bool e]) = true := by
  cases e <;> exact ⟨by decide +kernel, by decide +kernel⟩
theorem join0 {rest : V → Hp → Prop} {v : V} {Hx : Hp} {goal : Prop} (k : rest v Hx → goal) (h : rest v Hx) : goal := k h
section
variable {P : Program} {w : World} {K : PySem.W.Frag} {mg : Str → Option Value} {base : Heap} {C CN CW CL CB c1 c2 c3 c4 c5 c6 c7 c8 : Addr}
def spAlike (C : Addr) : Sp := fun vs H Q _ => ∃ x y i lv j mv, vs = [.ref x, .ref y, .bl (decide (i = j) && decide (lv = mv))] ∧ St C H x i lv ∧ St C H y j mv ∧ ∀ H', Same H H' → Q (.bl true) H'
theorem ok_alike {f fE : Addr} {fd fdE : FuncData} {k : Nat} (F : Fun K "_law_alike" "_law_alike" sAlike f fd) (T : Tx mg) (Z : Ct K mg C CN) (QQ : Ki K C) (EC : EqC K C fE) (FE : Fun K "__eq__" "Stretch.__eq__" sEq fE fdE) (bE : L2.Binds K fdE ["self", "other"] []) :
    FnOk P w K mg base CX0 (k + 3) f fd ["_law_stretch", "_law_other", "_law_due"] (spAlike C) := by
  have GE : FnOk P w K mg base CX0 (k + 1) fE fdE ["self", "other"] (spEqS C) := ok_eq FE T Z QQ
  refine F.ok scAlike (fun vs H Q E h => ?_) (fun cdv A outer s H vs Q E hr h => ?_)
  · obtain ⟨x, y, i, lv, j, mv, rfl, _⟩ := h
    rfl
  · obtain ⟨x, y, i, lv, j, mv, rfl, sx, sy, q⟩ := h
    have nd := scAlike.nd
    have hu := hr.units
    have hr1 : Room (k + 1) _ := hr.mono (by omega)
    refine ⟨_, pss_cons (ps_set (i := 3) nd rfl (.inl rfl) (pe_lst (pa_cons (pe_cmpR (op_own EC GE hr1 bE) (pv 0) (pv 1) (nomark _)) (pa_cons (pe_cmpR (op_own EC GE hr1 bE) (pv 1) (pv 0) (nomark _))
        (pa_cons (pe_cmpR (op_in_r EC GE hr bE) (pv 0) (pe_lst (pa_cons (pv 1) pa_nil)) (by rfl)) (pa_cons (pe_cmpR (op_eq_r EC GE hr bE) (pe_lst (pa_cons (pv 1) pa_nil)) (pe_lst (pa_cons (pv 0) pa_nil)) (nomark _))
        (pa_cons (pe_not (pe_cmpR (op_ne_own EC GE hr bE) (pv 0) (pv 1) (nomark _))) pa_nil)))))))
      (pss_cons (ps_if (pt_cmpR (op_neD hu) (pe_lc (own := [("_law_one", 4)]) (g := gName 4) rfl nd (pi_list (pv 3)) (blkOk_by (N := nAlike) (sc := defScope sAlike) (by decide +kernel))
            (fun _ _ _ _ _ => pg_name (i := 4) nd rfl (Or.inl rfl))
            (fun _ _ _ _ _ => pts_one (pt_not (pt_val (pe_callB (r := rIsi K) call_isi (by rfl) T.isi (by decide +kernel) (pa_cons (pv 4) (pa_cons (pe_bltn (v := .ty "bool") (by rfl) T.bool (by decide +kernel) rfl) pa_nil))))))
            (fun _ _ _ _ _ => pv 4)) (pe_lst pa_nil) (nomark _)) (pss_one (ps_ret pe_bl)) pss_nil)
      (pss_one (ps_ret (pe_cmpR (op_eqD hu) (pv 3) (pe_op op_rep (pe_lst (pa_cons (pv 2) pa_nil)) pe_int) (nomark _))))), ?_⟩
    obtain ⟨dx, hx⟩ := sx.at_
    obtain ⟨dy, hy⟩ := sy.at_
    generalize he : (decide (i = j) && decide (lv = mv)) = e at *
    have esym : (decide (j = i) && decide (mv = lv)) = e := by
      rw [← he]
      congr 1
      · rw [Bool.eq_iff_iff, decide_eq_true_iff, decide_eq_true_iff]
        exact eq_comm
      · rw [Bool.eq_iff_iff, decide_eq_true_iff, decide_eq_true_iff]
        exact eq_comm
    have same : y = x → e = true := fun z => by
      subst z
      rw [hx] at hy
      injection hy with h1
      injection h1 with _ _ h3
      have h4 : (.int i : V) = .int j := by
        have := congrArg (fun l => List.lookup ("first_day" : Str) l) h3
        rw [sf_first, sf_first] at this
        exact Option.some.inj this
      have h5 : lv = mv := by
        have := congrArg (fun l => List.lookup ("last_day" : Str) l) h3
        rw [sf_last, sf_last] at this
        exact Option.some.inj this
      rw [← he, decide_eq_true (V.int.inj h4), decide_eq_true h5]
      rfl
    refine ⟨_, rfl, _, rfl, .inl ⟨x, dx, _, rfl, hx, .ins hy, x, i, lv, .ref y, rfl, sx, .inl ⟨y, j, mv, rfl, sy, _, rfl, ?_⟩⟩⟩
    rw [he]
    refine ⟨_, rfl, _, rfl, .inl ⟨y, dy, _, rfl, hy, .ins hx, y, j, mv, .ref x, rfl, sy, .inl ⟨x, i, lv, rfl, sx, _, rfl, ?_⟩⟩⟩
    rw [esym]
    refine ⟨_, rfl, _, rfl, by show 1 ≤ sizeLine; decide, fun l nl => ?_⟩
    have s1 := same_upd (o := .lst [V.ref y]) nl
    refine ⟨e, l, x, y, dx, dy, _, _, rfl, rfl, upd_same, s1 _ _ hx, s1 _ _ hy, same, ⟨y, j, mv, .ref x, rfl, sy.mono s1, .inl ⟨x, i, lv, rfl, sx.mono s1, _, rfl, by rw [esym], rfl⟩⟩, ?_⟩
    refine ⟨_, rfl, by show 1 ≤ sizeLine; decide, fun m nm => ?_⟩
    have s2 := same_upd (o := .lst [V.ref y]) nm
    refine ⟨_, rfl, by show 1 ≤ sizeLine; decide, fun n nn => ?_⟩
    have s3 := same_upd (o := .lst [V.ref x]) nn
    have sA := (s1.trans s2).trans s3
    refine ⟨e, m, n, x, y, dx, dy, _, _, rfl, rfl, s3 _ _ upd_same, upd_same, sA _ _ hx, sA _ _ hy, same, ⟨y, j, mv, .ref x, rfl, sy.mono sA, .inl ⟨x, i, lv, rfl, sx.mono sA, _, rfl, by rw [esym], rfl⟩⟩, ?_⟩
    refine ⟨_, rfl, _, rfl, x, y, dx, dy, _, _, rfl, rfl, sA _ _ hx, sA _ _ hy, x, i, lv, .ref y, rfl, sx.mono sA, .inl ⟨y, j, mv, rfl, sy.mono sA, _, rfl, _, rfl, _, rfl, by show 5 ≤ sizeLine; decide, fun o no => ?_⟩⟩
    rw [he, Bool.not_not] at *
    have s4 := same_upd (o := .lst [V.bl e, .bl e, .bl e, .bl e, .bl e]) no
    refine ⟨_, rfl, o, rfl, ⟨_, SqL.of upd_same⟩, fun D nD => ?_⟩
    have eo := upd_same (H := upd (upd (upd H l (.lst [V.ref y])) m (.lst [V.ref y])) n (.lst [V.ref x])) (a := o) (o := .lst [V.bl e, .bl e, .bl e, .bl e, .bl e])
    refine lc_list (K := K) (a := o) (xs := [V.bl e, .bl e, .bl e, .bl e, .bl e]) (fun i H' => Same (upd (upd (upd (upd H l (.lst [V.ref y])) m (.lst [V.ref y])) n (.lst [V.ref x])) o (.lst [V.bl e, .bl e, .bl e, .bl e, .bl e])) H' ∧ H' D = some (.lst [])) ⟨same_upd nD, upd_same⟩ (fun i H' _ h => h.1.seq (SqL.of eo)) ?_ ?_
    · rintro i v H5 hv ⟨sm5, eD⟩
      have ev : v = .bl e := by
        have hm := List.mem_of_getElem? hv
        simp only [List.mem_cons, List.not_mem_nil, or_false, or_self] at hm
        exact hm
      subst ev
      exact ⟨rfl, _, rfl, .bl e, .ty "bool", _, _, true, rfl, .ty _, .base (.bl _), kit_ty (show kitB "bool" "bool" = some true by decide +kernel), _, rfl, sm5, eD⟩
    · rintro H5 ⟨sm5, eD⟩
      refine ⟨by show 0 ≤ sizeLine; decide, fun l2 nl2 => ?_⟩
      have s8 := same_upd (o := .lst []) nl2
      refine ⟨.list [], .list [], .lst (SqL.of (s8 _ _ eD)) .nil, .lst (SqL.of upd_same) .nil, by decide +kernel, by decide +kernel, _, rfl, ?_⟩
      rw [show PyData.eqv (.list []) (.list []) = true by decide +kernel]
      refine ⟨_, rfl, _, rfl, by show 1 ≤ sizeLine; decide, fun l3 nl3 => ?_⟩
      have s9 := same_upd (o := .lst [V.bl e]) nl3
      refine ⟨l3, 5, _, rfl, rfl, upd_same, by decide, by decide, by show 1 * 5 ≤ sizeLine; decide, fun l4 nl4 => ?_⟩
      have s10 := same_upd (o := .lst (List.replicate (Int.toNat 5) [V.bl e]).flatten) nl4
      refine ⟨.list [.bool e, .bool e, .bool e, .bool e, .bool e], .list [.bool e, .bool e, .bool e, .bool e, .bool e], .lst (SqL.of ((((sm5.trans s8).trans s9).trans s10) _ _ eo)) (.cons (.bl _) (.cons (.bl _) (.cons (.bl _) (.cons (.bl _) (.cons (.bl _) .nil))))),
        .lst (SqL.of upd_same) (.cons (.bl _) (.cons (.bl _) (.cons (.bl _) (.cons (.bl _) (.cons (.bl _) .nil))))), (five e).2, (five e).2, ?_⟩
      show Q (.bl (PyData.eqv _ _)) _
      rw [(five e).1]
      exact q _ (((((sA.trans s4).trans sm5).trans s8).trans s9).trans s10)
end
end K12

set_option Elab.async false
set_option linter.all false
set_option maxRecDepth 100000
set_option maxHeartbeats 1600000
namespace K12
open PySem PySem.Spec PyProof.Rows L2 LT
abbrev nLaw : List Str := ["_law_script", "_law_k", "_law_pot_here", "_law_is_spoilt", "_law_way", "_law_good_here", "_law_begin", "_law_end", "_law_due", "_law_stretch", "_law_word_here", "_law_one", "_law_others", "_law_other", "_law_strange", "_law_thing"]
theorem scLaw : FnScope nLaw ["_law_script"] (defScope sLaw) := ⟨rfl, rfl, rfl, by decide +kernel, rfl, by decide +kernel, by decide +kernel⟩
/-- all defs of the text -/
structure Fs (K : PySem.W.Frag) (mg : Str → Option Value) (C : Addr) : Prop where
  day : ∃ f fd, Has K mg "is_day" ["thing"] sDay f fd
  whole : ∃ f fd, HasW K mg f fd
  init : ∃ f fd, Mk K C f ∧ InitFn K f fd ∧ L2.Binds K fd ["self", "first", "last"] []
  first : ∃ f fd, Mth K C "first" "Stretch.first" ["self"] sFirst f fd
  last : ∃ f fd, Mth K C "last" "Stretch.last" ["self"] sLast f fd
  has : ∃ f fd, Mth K C "has" "Stretch.has" ["self", "day"] sHas f fd ∧ KBinds K fd ["self", "day"] ["day"] gK gK
  eq : ∃ f fd, EqC K C f ∧ Fun K "__eq__" "Stretch.__eq__" sEq f fd ∧ L2.Binds K fd ["self", "other"] []
  repr : ∃ f fd, Mth K C "__repr__" "Stretch.__repr__" ["self"] sRepr f fd
  str : ∃ f fd, Mth K C "__str__" "Stretch.__str__" ["self"] sStr f fd
  cell : ∃ f fd, Has K mg "_law_cell" ["_law_script", "_law_k"] sCell f fd
  pot : ∃ f fd, Has K mg "_law_pot" ["_law_script", "_law_k"] sPot f fd
  take : ∃ f fd, TakeFn K mg f fd
  far : ∃ f fd, PotFn K mg "_law_far" sFar f fd
  lday : ∃ f fd, PotFn K mg "_law_day" sLday f fd
  good : ∃ f fd, PotFn K mg "_law_good" sGood f fd
  spoilt : ∃ f fd, Has K mg "_law_spoilt" ["_law_pot_here", "_law_days"] sSpoilt f fd
  lis : ∃ f fd, Has K mg "_law_is_day" ["_law_thing"] sLis f fd
  right : ∃ f fd, Has K mg "_law_is_right" ["_law_begin", "_law_end"] sRight f fd
  word : ∃ f fd, Has K mg "_law_word" ["_law_e"] sWord f fd
  made : ∃ f fd, Has K mg "_law_made" ["_law_begin", "_law_end", "_law_way"] sMade f fd
  met : ∃ f fd, Has K mg "_law_met" ["_law_begin", "_law_end", "_law_way"] sMet f fd
  lhas : ∃ f fd, Has K mg "_law_has" ["_law_stretch", "_law_when"] sLhas f fd
  hasr : ∃ f fd, Has K mg "_law_has_right" ["_law_stretch", "_law_begin", "_law_end"] sHasR f fd
  shown : ∃ f fd, Has K mg "_law_shown" ["_law_begin", "_law_end"] sShown f fd
  told : ∃ f fd, Has K mg "_law_told_right" ["_law_stretch", "_law_begin", "_law_end"] sTold f fd
  alike : ∃ f fd, Has K mg "_law_alike" ["_law_stretch", "_law_other", "_law_due"] sAlike f fd
theorem lg_of {i : Int} (h : i.natAbs ≤ 10 ^ 62) : i.natAbs.log2 < 1920 := by
  by_cases h0 : i.natAbs = 0
  · rw [h0]
    decide
  · rw [Nat.log2_lt h0]
    exact Nat.lt_of_le_of_lt h (by decide)
/-- a right pair makes a stretch -/
theorem St.of {C x dx : Addr} {H : Hp} {fv lv : V} (h : rightB fv lv = true) (bf : ∀ i : Int, fv = .int i → i.natAbs ≤ 10 ^ 62) (bl : ∀ i : Int, lv = .int i → i.natAbs ≤ 10 ^ 62)
    (hx : H x = some (.ins C dx (sf fv lv))) : ∃ i, fv = .int i ∧ 0 ≤ i ∧ St C H x i lv := by
  cases fv with
  | int i =>
    cases lv with
    | non => exact ⟨i, rfl, of_decide_eq_true h, ⟨dx, hx⟩, lg_of (bf i rfl), .inl rfl⟩
    | int j =>
      have h' : (decide (0 ≤ i) && decide (0 ≤ j) && decide (i ≤ j)) = true := h
      rw [Bool.and_eq_true, Bool.and_eq_true] at h'
      exact ⟨i, rfl, of_decide_eq_true h'.1.1, ⟨dx, hx⟩, lg_of (bf i rfl), .inr ⟨j, rfl, lg_of (bl j rfl)⟩⟩
    | _ => cases h
  | _ => cases lv <;> cases h
theorem EndOk.right {b : Int} {ev : V} (b0 : 0 ≤ b) (h : EndOk b ev) : rightB (.int b) ev = true := by
  rcases h with rfl | ⟨j, rfl, h1, _⟩
  · exact decide_eq_true b0
  · show (decide (0 ≤ b) && decide (0 ≤ j) && decide (b ≤ j)) = true
    rw [decide_eq_true b0, decide_eq_true (show 0 ≤ j by omega), decide_eq_true h1]
    rfl
theorem EndOk.endv {b : Int} {ev : V} (b0 : 0 ≤ b) (h : EndOk b ev) : EndV ev := by
  rcases h with rfl | ⟨j, rfl, h1, h2⟩
  · exact .inl rfl
  · exact .inr ⟨j, rfl, lg_of (by omega)⟩
theorem eqv_pair {b c : Int} {ev dv : V} (h1 : EndV ev) (h2 : EndV dv) : PyData.eqv (.list [.int b, endD ev]) (.list [.int c, endD dv]) = (decide (b = c) && decide (ev = dv)) := by
  have e0 : (b == c) = decide (b = c) := by
    by_cases h : b = c
    · rw [decide_eq_true h, beq_iff_eq.mpr h]
    · rw [decide_eq_false h, beq_eq_false_iff_ne.mpr h]
  rcases h1 with rfl | ⟨i, rfl, _⟩ <;> rcases h2 with rfl | ⟨j, rfl, _⟩
  · simp only [PyData.eqv, PyData.eqvAll, endD, e0, Bool.and_true, decide_true]
  · simp only [PyData.eqv, PyData.eqvAll, endD, e0, Bool.and_true, Bool.and_false, Bool.false_and]
    rw [decide_eq_false (show ¬ V.non = V.int j from nofun), Bool.and_false]
  · simp only [PyData.eqv, PyData.eqvAll, endD, e0, Bool.and_true, Bool.and_false, Bool.false_and]
    rw [decide_eq_false (show ¬ V.int i = V.non from nofun), Bool.and_false]
  · have e1 : (i == j) = decide (i = j) := by
      by_cases h : i = j
      · rw [decide_eq_true h, beq_iff_eq.mpr h]
      · rw [decide_eq_false h, beq_eq_false_iff_ne.mpr h]
    simp only [PyData.eqv, PyData.eqvAll, endD, e0, Bool.and_true, e1, dec_int']
theorem shaped_pair {b : Int} {ev : V} (h : EndV ev) : SeqAt.shaped (.list [.int b, endD ev]) = true := by
  rcases h with rfl | ⟨j, rfl, _⟩ <;> simp [SeqAt.shaped, endD, PyData.canLay0, PyData.canLayAll0, PyData.depth, PyData.depthAll]
section
variable {P : Program} {w : World} {K : PySem.W.Frag} {mg : Str → Option Value} {base : Heap} {C CN CW CL CB c1 c2 c3 c4 c5 c6 c7 c8 : Addr}
theorem mk_init {H : Hp} {x dx : Addr} {fv lv : V} {Q : VK} {E : XK} (nx : H x = none) (ndx : H dx = none) (nex : dx ≠ x) (of : Odd H fv) (ol : Odd H lv) (r : rightB fv lv = true)
    (h : ∀ H', Same H H' → H' x = some (.ins C dx (sf fv lv)) → Q .non H') : spInit C CN [.ref x, fv, lv] (upd (upd H dx (.own x)) x (.ins C dx [])) Q E := by
  have s1 : Same H (upd (upd H dx (.own x)) x (.ins C dx [])) := same_made (C := C) nx ndx
  refine ⟨x, dx, fv, lv, rfl, upd_same, of.mono s1, ol.mono s1, fun r => h _ ?_ upd_same, fun r' => absurd r (by rw [r']; exact nofun)⟩
  rw [upd_upd]
  exact same_made (C := C) nx ndx
def spLaw (K : PySem.W.Frag) : Sp := fun vs H Q _ => ∃ (a : Addr) (ns : List Int), vs = [.ref a] ∧ SqL K H a (ns.map V.int) ∧ ns.length ≤ 63 ∧ ∀ H', Q (.bl true) H'
/-- what holds in a turn -/
structure Tn (p g : Addr) (b : Int) (ev : V) (H : Hp) (x : V × V) (Hx : Hp) : Prop where
  fv : Ov p Hx x.1
  lv : Ov p Hx x.2
  hp : Pot Hx p
  hg : Hx g = some (.lst [.int b, ev])
  sm : Same H Hx
theorem ok_law {f : Addr} {fd : FuncData} (F : Fun K "law" "law" sLaw f fd) (T : Tx mg) (Z : Ct K mg C CN) (QQ : Ki K C) (R : Er K mg CN CW CL CB c1 c2 c3 c4 c5 c6 c7 c8) (S : Fs K mg C) :
    FnG P w K mg base CX0 8 f fd ["_law_script"] (spLaw K) := by
  obtain ⟨_, _, FD⟩ := S.day
  obtain ⟨_, _, FW⟩ := S.whole
  obtain ⟨_, _, M, FI, bI⟩ := S.init
  obtain ⟨_, _, F1⟩ := S.first
  obtain ⟨_, _, F2⟩ := S.last
  obtain ⟨_, _, FH, kb⟩ := S.has
  obtain ⟨_, _, EC, FE, bE⟩ := S.eq
  obtain ⟨_, _, FR⟩ := S.repr
  obtain ⟨_, _, FS⟩ := S.str
  obtain ⟨_, _, FC⟩ := S.cell
  obtain ⟨_, _, FP⟩ := S.pot
  obtain ⟨_, _, FT⟩ := S.take
  obtain ⟨_, _, FF⟩ := S.far
  obtain ⟨_, _, FY⟩ := S.lday
  obtain ⟨_, _, FG⟩ := S.good
  obtain ⟨_, _, FB⟩ := S.spoilt
  obtain ⟨_, _, FLi⟩ := S.lis
  obtain ⟨_, _, FRi⟩ := S.right
  obtain ⟨_, _, FX⟩ := S.word
  obtain ⟨_, _, FMa⟩ := S.made
  obtain ⟨_, _, FMe⟩ := S.met
  obtain ⟨_, _, FL⟩ := S.lhas
  obtain ⟨_, _, FO⟩ := S.hasr
  obtain ⟨_, _, FN⟩ := S.shown
  obtain ⟨_, _, FTo⟩ := S.told
  obtain ⟨_, _, FA⟩ := S.alike
  have GP : FnOk P w K mg base CX0 2 _ _ ["_law_script", "_law_k"] (spPot K) := ok_pot FP.fn T FC.fn FC.bd FC.gl
  have GT : FnOk P w K mg base CX0 1 _ _ ["_law_pot_here", "_law_room"] spTake := ok_take FT.fn T
  have GG : FnOk P w K mg base CX0 4 _ _ ["_law_pot_here"] spGood := ok_good FG.fn T FT FF FY
  have GB : FnOk P w K mg base CX0 3 _ _ ["_law_pot_here", "_law_days"] spSpoilt := ok_spoilt FB.fn T FT FF
  have GRi : FnOk P w K mg base CX0 2 _ _ ["_law_begin", "_law_end"] spRight := ok_right FRi.fn T FLi
  have GMe : FnOk P w K mg base CX0 7 _ _ ["_law_begin", "_law_end", "_law_way"] (spMet C) := ok_met FMe.fn T Z R M FI FD FW bI FMa FX
  have GTo : FnG P w K mg base CX0 7 _ _ ["_law_stretch", "_law_begin", "_law_end"] (spHasR C) := ok_told FTo.fn T Z R FD FW FH kb FX FL FO FN F1 F2 FR FS
  have GA : FnOk P w K mg base CX0 3 _ _ ["_law_stretch", "_law_other", "_law_due"] (spAlike C) := ok_alike FA.fn T Z QQ EC FE bE
  have GI : FnOk P w K mg base (L2.CX P w) 4 _ _ ["self", "first", "last"] (spInit C CN) := ok_init FI T Z FD FW
  have GE : FnOk P w K mg base CX0 1 _ _ ["self", "other"] (spEqS C) := ok_eq FE T Z QQ
  have GR : FnOk P w K mg base CX0 1 _ _ ["self"] (spShow C shownR) := ok_repr FR.fn Z
  have GS : FnOk P w K mg base CX0 1 _ _ ["self"] (spShow C shownS) := ok_str FS.fn Z
  obtain ⟨d1, v1, b1⟩ := FI.binds1 (ps := ["self", "first", "last"]) 2 0 (by simp) (by rfl) (fun _ _ _ _ _ _ _ us its h1 h2 => match us, its, h1, h2 with | [_, _], [_], _, _ => ⟨_, rfl, rfl⟩)
  refine okG F scLaw (fun h => ?_) (fun cdv A outer s H vs Q E hG hr h => ?_)
  · obtain ⟨a, ns, rfl, _⟩ := h
    rfl
  · obtain ⟨a, ns, rfl, hS, hlen, q⟩ := h
    have nd := scLaw.nd
    have hu := hr.units
    have hr1 : Room 1 _ := hr.mono (by decide)
    have hr2 : Room 2 _ := hr.mono (by decide)
    have hr3 : Room 3 _ := hr.mono (by decide)
    have hr4 : Room 4 _ := hr.mono (by decide)
    have hr5 : Room 5 _ := hr.mono (by decide)
    have hG2 : (cxOf CX0 P w K mg base nLaw "law" (defScope sLaw) f cdv A outer s H E).nox.A.guards = some [] := hG
    refine ⟨_, pss_cons (ps_for PassesOwn.never rfl (pi_range1 (by rfl) T.range (pa_cons (pe_callB (call_max2 rfl) (by rfl) T.max (by decide +kernel) (pa_cons pe_int (pa_cons
          (pe_callB (call_min2 rfl) (by rfl) T.min (by decide +kernel) (pa_cons (pe_callB call_len_seq (by rfl) T.len PySem.boot_len (pa_cons (pv 0) pa_nil)) (pa_cons pe_int pa_nil))) pa_nil))) pa_nil)) (pg_name (i := 1) nd rfl (.inl rfl))
        (pss_cons (ps_set (i := 2) nd rfl (.inl rfl) (pe_call GP hr2 (by rfl) FP.gl FP.fn.kp FP.bd .nil pass0 (pa_cons (pv 0) (pa_cons (pv 1) pa_nil))))
        (pss_cons (ps_set (i := 3) nd rfl (.inl rfl) (pe_cmpR op_eq (pe_call GT hr1 (by rfl) FT.gl FT.fn.kp FT.bd .nil pass0 (pa_cons (pv 2) (pa_cons pe_int pa_nil))) pe_int (nomark _)))
        (pss_cons (ps_set (i := 4) nd rfl (.inl rfl) (pe_call GT hr1 (by rfl) FT.gl FT.fn.kp FT.bd .nil pass0 (pa_cons (pv 2) (pa_cons pe_int pa_nil))))
        (pss_cons (ps_set (i := 5) nd rfl (.inl rfl) (pe_call GG hr4 (by rfl) FG.gl FG.fn.kp FG.bd .nil pass0 (pa_cons (pv 2) pa_nil)))
        (pss_cons (ps_asg (pe_ifExp (pt_val (pv 3)) (pe_call GB hr3 (by rfl) FB.gl FB.fn.kp FB.bd .nil pass0 (pa_cons (pv 2) (pa_cons (pv 5) pa_nil))) (pv 5)) (pg_lst rfl (pgs_cons (pg_name (i := 6) nd rfl (.inl rfl)) (pgs_cons (pg_name (i := 7) nd rfl (.inl rfl)) pgs_nil))))
        (pss_cons (ps_set (i := 8) nd rfl (.inl rfl) (pe_ifExp (pt_cmpR op_eq (pv 4) pe_int (nomark _)) pe_non (pv 7)))
        (pss_cons (ps_asg (pe_call GMe hr (by rfl) FMe.gl FMe.fn.kp FMe.bd .nil pass0 (pa_cons (pv 6) (pa_cons (pv 7) (pa_cons (pv 4) pa_nil)))) (pg_tup rfl (pgs_cons (pg_name (i := 9) nd rfl (.inl rfl)) (pgs_cons (pg_name (i := 10) nd rfl (.inl rfl)) pgs_nil))))
        (pss_cons (ps_if (pt_not (pt_val (pe_call GRi hr2 (by rfl) FRi.gl FRi.fn.kp FRi.bd .nil pass0 (pa_cons (pv 6) (pa_cons (pv 8) pa_nil)))))
            (pss_one (ps_if (PW.pt (pw_or (pt_cmpR op_notN (pv 9) pe_non (nomark _)) (pw_or1 (pt_cmpR (op_neD hu) (pv 10) (pe_tup (pa_cons pe_str pa_nil)) (nomark _))))) (pss_one (ps_ret pe_bl)) pss_nil))
            (pss_one (ps_if (PW.pt (pw_or (pt_cmpR op_isN (pv 9) pe_non (nomark _)) (pw_or1 (pt_not (pt_val (pe_callG GTo hG2 hr (by rfl) FTo.gl FTo.fn.kp FTo.bd .nil pass0 (pa_cons (pv 9) (pa_cons (pv 6) (pa_cons (pv 8) pa_nil))))))))) (pss_one (ps_ret pe_bl)) pss_nil)))
        (pss_cons (ps_set (i := 11) nd rfl (.inr rfl) (pe_make M GI hr5 (by rfl) Z.mgC bI .nil passL (pa_cons (pe_ix ix_list (pv 5) pe_int (fun _ _ => rfl)) (pa_cons (pe_ix ix_list (pv 5) pe_int (fun _ _ => rfl)) pa_nil))))
        (pss_cons (ps_set (i := 12) nd rfl (.inl rfl) (pe_lst (pa_cons (pv 5) (pa_cons (pe_lst (pa_cons (pe_ix ix_list (pv 5) pe_int (fun _ _ => rfl)) (pa_cons pe_non pa_nil))) (pa_cons (pe_call GG hr4 (by rfl) FG.gl FG.fn.kp FG.bd .nil pass0 (pa_cons (pv 2) pa_nil))
            (pa_cons (pe_lst (pa_cons (pe_op op_add (pe_ix ix_list (pv 5) pe_int (fun _ _ => rfl)) pe_int) (pa_cons pe_non pa_nil))) (pa_cons (pe_lst (pa_cons pe_int (pa_cons (pe_ix ix_list (pv 5) pe_int (fun _ _ => rfl)) pa_nil))) pa_nil)))))))
        (pss_cons (ps_set (i := 13) nd rfl (.inl rfl) (pe_ix ix_list (pv 12) (pe_call GT hr1 (by rfl) FT.gl FT.fn.kp FT.bd .nil pass0 (pa_cons (pv 2) (pa_cons pe_int pa_nil))) (fun _ _ => rfl)))
        (pss_cons (ps_if (pt_not (pt_val (pe_call GA hr3 (by rfl) FA.gl FA.fn.kp FA.bd .nil pass0 (pa_cons (pv 11) (pa_cons (pe_make M GI hr5 (by rfl) Z.mgC bI .nil passL (pa_cons (pe_ix ix_list (pv 13) pe_int (fun _ _ => rfl)) (pa_cons (pe_ix ix_list (pv 13) pe_int (fun _ _ => rfl)) pa_nil)))
            (pa_cons (pe_cmpR (op_eqD hu) (pv 5) (pv 13) (nomark _)) pa_nil)))))) (pss_one (ps_ret pe_bl)) pss_nil)
        (pss_cons (ps_set (i := 14) nd rfl (.inl rfl) (pe_lst (pa_cons pe_non (pa_cons (pe_callTy call_tuple_of (by rfl) T.tuple (by decide +kernel) (pa_cons (pv 5) pa_nil)) (pa_cons (pv 5) (pa_cons (pe_ix ix_list (pv 5) pe_int (fun _ _ => rfl))
            (pa_cons (pe_callB (call_repr_own FR.me.at_ FR.me.fn GR hr2 FR.bd) (by rfl) T.repr (by decide +kernel) (pa_cons (pv 11) pa_nil)) (pa_cons (pe_callTy (call_str_own FS.me.at_ FS.me.fn GS hr3 FS.bd) (by rfl) T.str (by decide +kernel) (pa_cons (pv 11) pa_nil))
            (pa_cons (pe_lst (pa_cons (pv 11) pa_nil)) (pa_cons pe_bl pa_nil))))))))))
        (pss_one (ps_if (pt_cmpR (op_neD hu) (pe_lc (own := [("_law_thing", 15)]) (g := gName 15) rfl nd (pi_list (pv 14)) (blkOk_by (N := nLaw) (sc := defScope sLaw) (by decide +kernel))
            (fun _ _ _ _ _ => pg_name (i := 15) nd rfl (Or.inl rfl))
            (fun _ _ _ _ _ => pts_one (PW.pt (pw_or (pt_cmpR (r := rOwn K C (spEqS C)) (op_own EC GE hr1 bE) (pv 11) (pv 15) (nomark _)) (pw_or1 (pt_cmpR (r := rOwn K C (spEqS C)) (op_own EC GE hr1 bE) (pv 15) (pv 11) (nomark _))))))
            (fun _ _ _ _ _ => pv 15)) (pe_lst pa_nil) (nomark _)) (pss_one (ps_ret pe_bl)) pss_nil))))))))))))))))
      (pss_one (ps_ret (pe_and (pe_cmpR op_eq (pe_callB (call_repr_own FR.me.at_ FR.me.fn GR hr2 FR.bd) (by rfl) T.repr (by decide +kernel) (pa_cons (pe_make M GI hr5 (by rfl) Z.mgC bI .nil passL (pa_cons pe_int (pa_cons pe_int pa_nil))) pa_nil)) pe_str (nomark _))
        (pe_one (pe_cmpR op_eq (pe_callTy (call_str_own FS.me.at_ FS.me.fn GS hr3 FS.bd) (by rfl) T.str (by decide +kernel) (pa_cons (pe_make M GI hr5 (by rfl) Z.mgC b1 v1 passL (pa_cons pe_int pa_nil)) pa_nil)) pe_str (nomark _)))))), ?_⟩
    refine ⟨_, rfl, a, _, rfl, .inl hS, _, _, rfl, _, _, rfl, ?_⟩
    generalize hN : (if (if (24 : Int) < ((ns.map V.int).length : Nat) then (24 : Int) else ((ns.map V.int).length : Nat)) > 1 then (if (24 : Int) < ((ns.map V.int).length : Nat) then (24 : Int) else ((ns.map V.int).length : Nat)) else 1) = N
    have hN1 : 1 ≤ N ∧ N ≤ 24 := by
      rw [← hN]
      split <;> (try split) <;> omega
    refine ⟨N, rfl, by omega, by omega, for_range (lo := 0) (n := N.toNat) (fun i σ H' => ∃ x1 x2 x3 x4 x5 x6 x7 x8 x9 x10 x11 x12 x13 x14, σ = [some (.ref a), x1, x2, x3, x4, x5, x6, x7, x8, x9, x10, x11, x12, x13, x14, none] ∧ Same H H') ⟨none, none, none, none, none, none, none, none, none, none, none, none, none, none, rfl, Same.refl H⟩ ?_ ?_⟩
    · rintro i σ H1 hi ⟨x1, x2, x3, x4, x5, x6, x7, x8, x9, x10, x11, x12, x13, x14, rfl, sm⟩
      refine ⟨_, rfl, _, rfl, a, ns, i, (by rw [Int.zero_add]; rfl), sm.seq hS, by omega, fun p H2 np s2 hp => ?_⟩
      refine ⟨_, rfl, p, 3, rfl, hp, by decide, by decide, fun d3 H3 _ _ hp3 sb3 => ?_⟩
      refine ⟨rfl, ?_⟩
      refine ⟨_, rfl, p, 4, rfl, hp3, by decide, by decide, fun way H4 w0 w1 hp4 sb4 => ?_⟩
      refine ⟨_, rfl, p, rfl, hp4, fun g b ev H5 b0 b1 he ng hg ngp hp5 sb5 => ?_⟩
      have npH : H p = none := sm.free np
      have sm5 : Same H H5 := sameB_new npH (sm.trans s2) ((sb3.trans sb4).trans sb5)
      have J5 : Tn p g b ev H (.int b, ev) H5 := ⟨.int (by omega), .ofEnd he b0, hp5, hg, sm5⟩
      have stepB : ∀ {Hx Hy : Hp} {x : V × V}, Tn p g b ev H x Hx → SameB p Hx Hy → Pot Hy p → Tn p g b ev H x Hy := fun {Hx Hy x} j s h =>
        ⟨j.fv.monoB s, j.lv.monoB s, h, s _ _ ngp j.hg, sameB_new npH j.sm s⟩
      have stepS : ∀ {Hx Hy : Hp} {x : V × V}, Tn p g b ev H x Hx → Same Hx Hy → Tn p g b ev H x Hy := fun {Hx Hy x} j s => stepB j (SameB.of s) (j.hp.mono s)
      apply join (α := V × V) (J := Tn p g b ev H) (sl := fun x => [some (.ref a), some (.int (0 + (i : Nat))), some (.ref p), some (.bl (decide (V.int d3 = V.int 0))), some (.int way), some (.ref g), some x.1, some x.2, x8, x9, x10, x11, x12, x13, x14, none])
      · intro h
        refine ⟨_, rfl, _, rfl, ite2 ?y ?n⟩
        case n =>
          intro _
          exact ⟨_, rfl, g, _, rfl, SqL.of hg, rfl, _, _, rfl, _, _, rfl, rfl, h (.int b, ev) H5 J5⟩
        case y =>
          intro _
          refine ⟨_, rfl, _, rfl, p, g, b, ev, rfl, hp5, hg, ngp, b0, b1, he, fun r fv lv H6 nr hr6 nrp ofv olv hp6 sb6 => ?_⟩
          have J6 := stepB J5 sb6 hp6
          exact ⟨r, _, rfl, SqL.of hr6, rfl, _, _, rfl, _, _, rfl, rfl, h (fv, lv) H6 ⟨ofv, olv, hp6, J6.hg, J6.sm⟩⟩
      rintro ⟨fv, lv⟩ H6 J6
      have bdue : ∀ j : Int, dueOf way lv = .int j → j.natAbs ≤ 10 ^ 62 := fun j e => by
        unfold dueOf at e
        split at e
        · cases e
        · exact J6.lv.bd j e
      have odue : ∀ {Hx : Hp}, Odd Hx lv → Odd Hx (dueOf way lv) := fun {Hx} o => by
        unfold dueOf
        split
        · exact .non
        · exact o
      apply join (α := Unit) (J := fun _ Hx => Hx = H6) (sl := fun _ => [some (.ref a), some (.int (0 + (i : Nat))), some (.ref p), some (.bl (decide (V.int d3 = V.int 0))), some (.int way), some (.ref g), some fv, some lv, some (dueOf way lv), x9, x10, x11, x12, x13, x14, none])
      · intro h
        have h' := h () H6 rfl
        refine ⟨_, rfl, rfl, _, rfl, ite2 ?y ?n⟩
        case n =>
          intro hn
          have e : dueOf way lv = lv := if_neg fun z => hn (decide_eq_true (by rw [z]))
          rw [e] at h'
          exact ⟨_, rfl, h'⟩
        case y =>
          intro hy
          have e : dueOf way lv = .non := if_pos (V.int.inj (of_decide_eq_true hy))
          rw [e] at h'
          exact h'
      rintro ⟨⟩ Hx rfl
      apply join (α := V × V) (J := fun _ Hy => Tn p g b ev H (fv, lv) Hy) (sl := fun x => [some (.ref a), some (.int (0 + (i : Nat))), some (.ref p), some (.bl (decide (V.int d3 = V.int 0))), some (.int way), some (.ref g), some fv, some lv, some (dueOf way lv), some x.1, some x.2, x11, x12, x13, x14, none])
      · intro h
        refine ⟨_, rfl, _, rfl, _, rfl, fv, lv, way, rfl, w0, w1, J6.fv.odd, J6.lv.odd, ?w1, ?w2⟩
        case w2 =>
          intro r u t H7 nt s7 hu7 ht
          have J7 := stepS J6 s7
          refine ⟨t, _, rfl, SqT.of ht, rfl, _, _, rfl, _, _, rfl, rfl, ?_⟩
          refine ⟨_, rfl, _, rfl, fv, dueOf way lv, rfl, J7.fv.odd, odue J7.lv.odd, _, rfl, ?_⟩
          rw [r]
          refine ⟨_, rfl, rfl, _, rfl, ?_⟩
          refine ⟨_, rfl, by show 1 ≤ sizeLine; decide, fun t2 nt2 => ?_⟩
          have s8 := same_upd (o := dayT) nt2
          refine ⟨.tuple [.str (Str.ofString "day")], .tuple [.str (Str.ofString "day")], .tup (SqT.of (s8 _ _ hu7)) (.cons (.str _) .nil), .tup (SqT.of upd_same) (.cons (.str _) .nil), day_sh, day_sh, _, rfl, ?_⟩
          rw [day_ne]
          refine iteF ?_
          exact h (.non, .ref u) _ (stepS J7 s8)
        case w1 =>
          intro r x dx u t H7 nx nt s7 hx hu7 ht
          have J7 := stepS J6 s7
          obtain ⟨i', rfl, i0, st⟩ := St.of r J6.fv.bd bdue hx
          refine ⟨t, _, rfl, SqT.of ht, rfl, _, _, rfl, _, _, rfl, rfl, ?_⟩
          refine ⟨_, rfl, _, rfl, .int i', dueOf way lv, rfl, .int i', odue J7.lv.odd, _, rfl, ?_⟩
          rw [r]
          refine ⟨_, rfl, rfl, _, rfl, ?_⟩
          rw [decide_eq_false (show ¬ V.ref x = V.non from nofun)]
          refine ⟨_, rfl, _, rfl, _, rfl, x, i', dueOf way lv, rfl, st, i0, fun H8 s8 => ⟨_, rfl, ?_⟩⟩
          exact h (.ref x, .ref u) H8 (stepS J7 s8)
      rintro ⟨sv, wv⟩ H7 J7
      have bg : b.natAbs.log2 < 1920 := lg_of (by omega)
      have oev : ∀ Hx : Hp, Odd Hx ev := fun Hx => (Ov.ofEnd (p := p) (H := Hx) he b0).odd
      refine ⟨_, rfl, g, _, _, _, rfl, rfl, SqL.of J7.hg, rfl, _, rfl, g, _, _, _, rfl, rfl, SqL.of J7.hg, rfl, fun x dx nx ndx nex => ?_⟩
      refine mk_init nx ndx nex (.int b) (oev _) (he.right b0) (fun H8 s8 hx8 => ⟨rfl, ?_⟩)
      have J8 := stepS J7 s8
      have st8 : St C H8 x b ev := ⟨⟨dx, hx8⟩, bg, he.endv b0⟩
      have nxp : x ≠ p := fun e => by
        subst e
        obtain ⟨_, _, h, _⟩ := J7.hp
        rw [nx] at h
        cases h
      refine ⟨_, rfl, _, rfl, g, _, _, _, rfl, rfl, SqL.of J8.hg, rfl, by show 2 ≤ sizeLine; decide, fun o1 no1 => ?_⟩
      have s9 := same_upd (o := .lst [V.int b, .non]) no1
      have J9 := stepS J8 s9
      have st9 := st8.mono s9
      have ho1 := upd_same (H := H8) (a := o1) (o := .lst [V.int b, .non])
      generalize upd H8 o1 (.lst [V.int b, .non]) = H9 at *
      refine ⟨_, rfl, p, rfl, J9.hp, fun o2 c dv H10 c0 c1 hd no2 ho2 no2p hp10 sb10 => ?_⟩
      have J10 := stepB J9 sb10 hp10
      have nop : ∀ {Hx : Hp} {o : Addr}, Pot Hx p → Hx o = none → o ≠ p := fun {Hx o} h n e => by
        subst e
        obtain ⟨_, _, h, _⟩ := h
        rw [n] at h
        cases h
      have st10 : St C H10 x b ev := by
        obtain ⟨dx, h⟩ := st9.at_
        exact ⟨⟨dx, sb10 _ _ nxp h⟩, st9.lg, st9.en⟩
      have n1p := nop J8.hp no1
      have ho1 := sb10 _ _ n1p ho1
      refine ⟨_, rfl, g, _, _, _, rfl, rfl, SqL.of J10.hg, rfl, _, _, rfl, rfl, by show 2 ≤ sizeLine; decide, fun o3 no3 => ?_⟩
      have n3p := nop J10.hp no3
      have s11 := same_upd (o := .lst [V.int (b + 1), .non]) no3
      have J11 := stepS J10 s11
      have st11 := st10.mono s11
      have ho1 := s11 _ _ ho1
      have ho2 := s11 _ _ ho2
      have ho3 := upd_same (H := H10) (a := o3) (o := .lst [V.int (b + 1), .non])
      generalize upd H10 o3 (.lst [V.int (b + 1), .non]) = H11 at *
      refine ⟨_, rfl, g, _, _, _, rfl, rfl, SqL.of J11.hg, rfl, by show 2 ≤ sizeLine; decide, fun o4 no4 => ?_⟩
      have n4p := nop J11.hp no4
      have s12 := same_upd (o := .lst [V.int 0, .int b]) no4
      have J12 := stepS J11 s12
      have st12 := st11.mono s12
      have ho1 := s12 _ _ ho1
      have ho2 := s12 _ _ ho2
      have ho3 := s12 _ _ ho3
      have ho4 := upd_same (H := H11) (a := o4) (o := .lst [V.int 0, .int b])
      generalize upd H11 o4 (.lst [V.int 0, .int b]) = H12 at *
      refine ⟨by show 5 ≤ sizeLine; decide, fun o5 no5 => ?_⟩
      have s13 := same_upd (o := .lst [V.ref g, .ref o1, .ref o2, .ref o3, .ref o4]) no5
      have J13 := stepS J12 s13
      have st13 := st12.mono s13
      have ho1 := s13 _ _ ho1
      have ho2 := s13 _ _ ho2
      have ho3 := s13 _ _ ho3
      have ho4 := s13 _ _ ho4
      have ho5 := upd_same (H := H12) (a := o5) (o := .lst [V.ref g, .ref o1, .ref o2, .ref o3, .ref o4])
      have n5p := nop J12.hp no5
      generalize upd H12 o5 (.lst [V.ref g, .ref o1, .ref o2, .ref o3, .ref o4]) = H13 at *
      refine ⟨_, rfl, _, rfl, p, 5, rfl, J13.hp, by decide, by decide, fun d5 H14 d0 d1 hp14 sb14 => ?_⟩
      have J14 := stepB J13 sb14 hp14
      have st14 : St C H14 x b ev := by
        obtain ⟨dx, h⟩ := st13.at_
        exact ⟨⟨dx, sb14 _ _ nxp h⟩, st13.lg, st13.en⟩
      have key : ∃ o m mv, atI [V.ref g, .ref o1, .ref o2, .ref o3, .ref o4] d5 = some (.ref o) ∧ H14 o = some (.lst [.int m, mv]) ∧ 0 ≤ m ∧ m ≤ 10 ^ 61 ∧ EndOk m mv := by
        have hd5 : d5 = 0 ∨ d5 = 1 ∨ d5 = 2 ∨ d5 = 3 ∨ d5 = 4 := by omega
        rcases hd5 with rfl | rfl | rfl | rfl | rfl
        · exact ⟨g, b, ev, rfl, J14.hg, b0, by omega, he⟩
        · exact ⟨o1, b, .non, rfl, sb14 _ _ n1p ho1, b0, by omega, .inl rfl⟩
        · exact ⟨o2, c, dv, rfl, sb14 _ _ no2p ho2, c0, by omega, hd⟩
        · exact ⟨o3, b + 1, .non, rfl, sb14 _ _ n3p ho3, by omega, by omega, .inl rfl⟩
        · exact ⟨o4, 0, .int b, rfl, sb14 _ _ n4p ho4, by omega, by decide, .inr ⟨b, rfl, b0, by omega⟩⟩
      obtain ⟨o, m, mv, eo, ho, m0, m1, hm⟩ := key
      refine ⟨o5, _, _, _, rfl, rfl, SqL.of (sb14 _ _ n5p ho5), eo, ?_⟩
      have omv : Odd H14 mv := (Ov.ofEnd (p := p) (H := H14) hm m0).odd
      have enm := hm.endv m0
      have en := he.endv b0
      refine ⟨_, rfl, _, rfl, o, _, _, _, rfl, rfl, SqL.of ho, rfl, _, rfl, o, _, _, _, rfl, rfl, SqL.of ho, rfl, fun y dy ny ndy ney => ?_⟩
      refine mk_init ny ndy ney (.int m) omv (hm.right m0) (fun H15 s15 hy15 => ⟨rfl, ?_⟩)
      have J15 := stepS J14 s15
      have st15 := st14.mono s15
      have sty : St C H15 y m mv := ⟨⟨dy, hy15⟩, lg_of (by omega), enm⟩
      refine ⟨_, rfl, _, rfl, .list [.int b, endD ev], .list [.int m, endD mv], .lst (SqL.of J15.hg) (.cons (.int b) (.cons en.dp .nil)), .lst (SqL.of (s15 _ _ ho)) (.cons (.int m) (.cons enm.dp .nil)), shaped_pair en, shaped_pair enm, ?_⟩
      rw [eqv_pair en enm]
      refine ⟨x, y, b, ev, m, mv, rfl, st15, sty, fun H16 s16 => ⟨_, rfl, ?_⟩⟩
      have J16 := stepS J15 s16
      have st16 := st15.mono s16
      obtain ⟨dx, hx⟩ := st16.at_
      refine ⟨_, rfl, g, _, rfl, .inl ⟨SqL.of J16.hg, fun u nu => ?_⟩⟩
      have s17 := same_upd (o := .tup [V.int b, ev]) nu
      have J17 := stepS J16 s17
      have st17 := st16.mono s17
      have hx := s17 _ _ hx
      have hu17 := upd_same (H := H16) (a := u) (o := .tup [V.int b, ev])
      generalize upd H16 u (.tup [V.int b, ev]) = H17 at *
      refine ⟨_, rfl, _, rfl, g, _, _, _, rfl, rfl, SqL.of J17.hg, rfl, _, rfl, x, dx, _, rfl, hx, x, b, ev, rfl, st17, _, rfl, _, rfl, x, dx, _, rfl, hx, x, b, ev, rfl, st17, _, rfl, _, rfl, by show 1 ≤ sizeLine; decide, fun q1 nq1 => ?_⟩
      have s18 := same_upd (o := .lst [V.ref x]) nq1
      have J18 := stepS J17 s18
      have st18 := st17.mono s18
      have hx := s18 _ _ hx
      have hu18 := s18 _ _ hu17
      have hq18 := upd_same (H := H17) (a := q1) (o := .lst [V.ref x])
      generalize upd H17 q1 (.lst [V.ref x]) = H18 at *
      refine ⟨by show 8 ≤ sizeLine; decide, fun q2 nq2 => ?_⟩
      have s19 := same_upd (o := .lst [V.non, .ref u, .ref g, .int b, .str (shownR b ev), .str (shownS b ev), .ref q1, .bl true]) nq2
      have J19 := stepS J18 s19
      have st19 := st18.mono s19
      have hx := s19 _ _ hx
      have hu19 := s19 _ _ hu18
      have hq19 := s19 _ _ hq18
      have hl19 := upd_same (H := H18) (a := q2) (o := .lst [V.non, .ref u, .ref g, .int b, .str (shownR b ev), .str (shownS b ev), .ref q1, .bl true])
      generalize upd H18 q2 (.lst [V.non, .ref u, .ref g, .int b, .str (shownR b ev), .str (shownS b ev), .ref q1, .bl true]) = H19 at *
      refine ⟨_, rfl, q2, rfl, ⟨_, SqL.of hl19⟩, fun D nD => ?_⟩
      refine lc_list (K := K) (a := q2) (xs := [V.non, .ref u, .ref g, .int b, .str (shownR b ev), .str (shownS b ev), .ref q1, .bl true]) (fun i H' => Same H19 H' ∧ H' D = some (.lst [])) ⟨same_upd nD, upd_same⟩ (fun i H' _ h => h.1.seq (SqL.of hl19)) ?_ ?_
      · rintro i v H20 hv ⟨sm20, eD⟩
        have ov : Odd H20 v ∧ Beside K C H20 v := by
          have hm := List.mem_of_getElem? hv
          simp only [List.mem_cons, List.not_mem_nil, or_false] at hm
          rcases hm with rfl | rfl | rfl | rfl | rfl | rfl | rfl | rfl
          · exact ⟨.non, .non⟩
          · exact ⟨.tup (sm20 _ _ hu19), .tup (sm20 _ _ hu19)⟩
          · exact ⟨.lst (sm20 _ _ J19.hg), .lst (sm20 _ _ J19.hg)⟩
          · exact ⟨.int _, .int _⟩
          · exact ⟨.str _, .str _⟩
          · exact ⟨.str _, .str _⟩
          · exact ⟨.lst (sm20 _ _ hq19), .lst (sm20 _ _ hq19)⟩
          · exact ⟨.bl _, .bl _⟩
        have hx20 := sm20 _ _ hx
        have st20 := st19.mono sm20
        refine ⟨rfl, _, rfl, _, rfl, .inl ⟨x, dx, _, rfl, hx20, ov.2, x, b, ev, v, rfl, st20, .inr ⟨ov.1, _, rfl, ?_⟩⟩⟩
        refine ⟨_, rfl, iteF ?_⟩
        exact ⟨_, rfl, _, rfl, .inr ⟨x, dx, _, rfl, hx20, ov.2, ov.1.noSt, x, b, ev, v, rfl, st20, .inr ⟨ov.1, _, rfl, _, rfl, sm20, eD⟩⟩⟩
      · rintro H20 ⟨sm20, eD⟩
        refine ⟨by show 0 ≤ sizeLine; decide, fun l2 nl2 => ?_⟩
        have s21 := same_upd (o := .lst []) nl2
        refine ⟨.list [], .list [], .lst (SqL.of (s21 _ _ eD)) .nil, .lst (SqL.of upd_same) .nil, by decide +kernel, by decide +kernel, _, rfl, ?_⟩
        rw [show PyData.eqv (.list []) (.list []) = true by decide +kernel]
        refine iteF ?_
        exact ⟨_, _, _, _, _, _, _, _, _, _, _, _, _, _, rfl, J19.sm.trans (sm20.trans s21)⟩
    · rintro σ H1 ⟨x1, x2, x3, x4, x5, x6, x7, x8, x9, x10, x11, x12, x13, x14, rfl, sm⟩
      refine fun x dx nx ndx nex => mk_init nx ndx nex (.int 3) (.int 7) (by decide) (fun H2 s2 hx => ⟨rfl, ?_⟩)
      refine ⟨x, dx, _, rfl, hx, x, 3, .int 7, rfl, ⟨⟨dx, hx⟩, by decide, .inr ⟨7, rfl, by decide⟩⟩, _, rfl, ?_⟩
      rw [show shownR 3 (V.int 7) = Str.ofString "Stretch(3, 7)" by decide +kernel]
      refine ⟨rfl, _, rfl, ?_⟩
      rw [decide_eq_true rfl]
      refine fun x dx nx ndx nex => mk_init nx ndx nex (.int 3) .non (by decide) (fun H3 s3 hx => ⟨rfl, ?_⟩)
      refine ⟨x, dx, _, rfl, hx, x, 3, .non, rfl, ⟨⟨dx, hx⟩, by decide, .inl rfl⟩, _, rfl, ?_⟩
      rw [show shownS 3 V.non = Str.ofString "3-" by decide +kernel]
      refine ⟨rfl, ?_⟩
      rw [decide_eq_true rfl]
      exact q _
end
end K12

set_option Elab.async false
set_option linter.all false
set_option maxRecDepth 100000
namespace K12
open PySem PySem.Spec PyProof.Rows L2 LT
/-- what the top has left of a def -/
structure Left (K : PySem.W.Frag) (x : Str) (st : Stmt) (f : Addr) (oc : Value) (od an : Option Addr) (kV dc pm cd ct : Value) (sl : Array (Option Value)) : Prop where
  ns : PySem.W.nsIn K mainGlobals x = some (some (.ref f))
  lk : K.lookup f = some ⟨oc, od, .func (PySem.W.fnOf x x (defArgs st) (defBody st) (defScope st) .none kV dc pm an cd ct), sl⟩
  cd : PySem.W.codeIn K cd x = true
  kp : PySem.W.keepIn K (.ref f) = true
theorem Left.fn {K : PySem.W.Frag} {x : Str} {st : Stmt} {f : Addr} {oc : Value} {od an : Option Addr} {kV dc pm cd ct : Value} {sl : Array (Option Value)} (h : Left K x st f oc od an kV dc pm cd ct sl) :
    Fun K x x st f (PySem.W.fnOf x x (defArgs st) (defBody st) (defScope st) .none kV dc pm an cd ct) := fun_mk h.lk h.cd h.kp
/-- what the top has left of a method -/
structure LeftM (K : PySem.W.Frag) (C : Addr) (x q : Str) (st : Stmt) (f : Addr) (oc : Value) (od an : Option Addr) (kV dc pm cd ct : Value) (sl : Array (Option Value)) : Prop where
  at_ : PySem.W.findIn K (.ref C) x = some (some (.ref f))
  lk : K.lookup f = some ⟨oc, od, .func (PySem.W.fnOf x q (defArgs st) (defBody st) (defScope st) .none kV dc pm an cd ct), sl⟩
  cd : PySem.W.codeIn K cd q = true
  kp : PySem.W.keepIn K (.ref f) = true
  isf : PySem.W.isFn K (.ref f) = true
theorem LeftM.fn {K : PySem.W.Frag} {C : Addr} {x q : Str} {st : Stmt} {f : Addr} {oc : Value} {od an : Option Addr} {kV dc pm cd ct : Value} {sl : Array (Option Value)} (h : LeftM K C x q st f oc od an kV dc pm cd ct sl) :
    Fun K x q st f (PySem.W.fnOf x q (defArgs st) (defBody st) (defScope st) .none kV dc pm an cd ct) := fun_mk h.lk h.cd h.kp
theorem LeftM.me {K : PySem.W.Frag} {C : Addr} {x q : Str} {st : Stmt} {f : Addr} {oc : Value} {od an : Option Addr} {kV dc pm cd ct : Value} {sl : Array (Option Value)} (h : LeftM K C x q st f oc od an kV dc pm cd ct sl) :
    Meth K C x f := ⟨h.at_, h.isf, h.kp⟩
/-- what the top has left of __init__ -/
structure LeftI (K : PySem.W.Frag) (C : Addr) (f T : Addr) (oc : Value) (od an : Option Addr) (kV dc pm cd ct : Value) (sl : Array (Option Value)) (oT : Value) (dT : Option Addr) (nT : Nat) (sT : Array (Option Value)) : Prop where
  at_ : PySem.W.findIn K (.ref C) "__init__" = some (some (.ref f))
  lk : K.lookup f = some ⟨oc, od, .func (PySem.W.fnOf "__init__" "Stretch.__init__" (defArgs sInit) (defBody sInit) (defScope sInit) (.ref T) kV dc pm an cd ct), sl⟩
  cd : PySem.W.codeIn K cd "Stretch.__init__" = true
  kp : PySem.W.keepIn K (.ref f) = true
  isf : PySem.W.isFn K (.ref f) = true
  lT : K.lookup T = some ⟨oT, dT, .seq #[.none] nT, sT⟩
  mks : PySem.W.makesIn K C = true
theorem LeftI.fn {K : PySem.W.Frag} {C f T : Addr} {oc : Value} {od an : Option Addr} {kV dc pm cd ct : Value} {sl : Array (Option Value)} {oT : Value} {dT : Option Addr} {nT : Nat} {sT : Array (Option Value)} (h : LeftI K C f T oc od an kV dc pm cd ct sl oT dT nT sT) :
    InitFn K f (PySem.W.fnOf "__init__" "Stretch.__init__" (defArgs sInit) (defBody sInit) (defScope sInit) (.ref T) kV dc pm an cd ct) :=
  ⟨⟨oc, od, .ref T, kV, dc, pm, an, cd, ct, sl, rfl, h.lk, h.cd, .inr ⟨nofun, T, _, [.none], nT, rfl, h.lT, rfl, .cons rfl .nil⟩, .inl rfl⟩, h.kp⟩
theorem kit_self {K : PySem.W.Frag} {a : Addr} : PySem.W.kitOne K (.ref a) (.ref a) = some true := if_pos (c := ((Value.ref a) == (Value.ref a)) = true) (beq_self_eq_true (Value.ref a))
theorem cls_of {K : PySem.W.Frag} {t : Value} {C : Addr} {b : Bool} (i : PySem.W.isClsIn K C = true) (ty : PySem.W.typeIn K (.ref C) = some (.type "type")) (s : PySem.W.subIn K t (.ref C) = some b) : PySem.W.kitCls K t (.ref C) = some b := by
  have i' : (PySem.W.clsIn K C).isSome = true := i
  show (if ((PySem.W.clsIn K C).isSome && PySem.W.typeIn K (.ref C) == some (.type "type")) = true then PySem.W.subIn K t (.ref C) else none) = some b
  rw [i', ty]
  exact s
theorem kit_yes {K : PySem.W.Frag} {t : Value} {C : Addr} (i : PySem.W.isClsIn K C = true) (ty : PySem.W.typeIn K (.ref C) = some (.type "type")) (s : PySem.W.subIn K t (.ref C) = some true) : PySem.W.kitOne K t (.ref C) = some true := by
  unfold PySem.W.kitOne
  split
  · rfl
  · exact cls_of i ty s
theorem kit_no {K : PySem.W.Frag} {t : Value} {C : Addr} (i : PySem.W.isClsIn K C = true) (ty : PySem.W.typeIn K (.ref C) = some (.type "type")) (s : PySem.W.subIn K t (.ref C) = some false) (q : (t == .ref C) = false) : PySem.W.kitOne K t (.ref C) = some false := by
  unfold PySem.W.kitOne
  rw [q]
  exact cls_of i ty s
theorem kit_ve {K : PySem.W.Frag} {D : Addr} (s : PySem.W.subIn K (.ref D) (.type "ValueError") = some true) : PySem.W.kitOne K (.ref D) (.type "ValueError") = some true := by
  unfold PySem.W.kitOne
  split
  · rfl
  · show (if PySem.W.kitMeta "ValueError" = true then PySem.W.subIn K (.ref D) (.type "ValueError") else none) = some true
    rw [show PySem.W.kitMeta "ValueError" = true by decide +kernel]
    exact s
theorem exm_yes {K : PySem.W.Frag} {t : Value} {C : Addr} (b : PySem.W.subIn K (.ref C) (.type "BaseException") = some true) (i : PySem.W.isClsIn K C = true) (ty : PySem.W.typeIn K (.ref C) = some (.type "type")) (s : PySem.W.subIn K t (.ref C) = some true) : PySem.W.exmOne K t (.ref C) = some true := by
  unfold PySem.W.exmOne
  rw [b]
  exact cls_of i ty s
/-- what the top has left of the classes -/
structure LeftC (K : PySem.W.Frag) (C CN CW CL CB c1 c2 c3 c4 c5 c6 c7 c8 : Addr) : Prop where
  nC : PySem.W.nsIn K mainGlobals "Stretch" = some (some (.ref C))
  n_NoDay : PySem.W.nsIn K mainGlobals "NoDay" = some (some (.ref CN))
  n_Wrong : PySem.W.nsIn K mainGlobals "Wrong" = some (some (.ref CW))
  n_LightsError : PySem.W.nsIn K mainGlobals "LightsError" = some (some (.ref CL))
  n_Barred : PySem.W.nsIn K mainGlobals "Barred" = some (some (.ref CB))
  n_NoKind : PySem.W.nsIn K mainGlobals "NoKind" = some (some (.ref c1))
  n_NoLetter : PySem.W.nsIn K mainGlobals "NoLetter" = some (some (.ref c2))
  n_NoName : PySem.W.nsIn K mainGlobals "NoName" = some (some (.ref c3))
  n_NoNumber : PySem.W.nsIn K mainGlobals "NoNumber" = some (some (.ref c4))
  n_NoPlace : PySem.W.nsIn K mainGlobals "NoPlace" = some (some (.ref c5))
  n_NoSlot : PySem.W.nsIn K mainGlobals "NoSlot" = some (some (.ref c6))
  n_NoStretches : PySem.W.nsIn K mainGlobals "NoStretches" = some (some (.ref c7))
  n_NoText : PySem.W.nsIn K mainGlobals "NoText" = some (some (.ref c8))
  pg : PySem.W.plainGet K C Str.empty = true
  hd : PySem.W.hasDictIn K C = true
  po : PySem.W.plainOver K C = true
  sa : PySem.W.findIn K (.ref C) "__setattr__" = some (some (.builtin "object.__setattr__"))
  nF : PySem.W.findIn K (.ref C) "first_day" = some none
  nL : PySem.W.findIn K (.ref C) "last_day" = some none
  kC : PySem.W.keepIn K (.ref C) = true
  ca : PySem.W.findIn K (.ref C) "__class__" = some (some (.builtin "object.__class__"))
  cn : PySem.W.specialIn K (.builtin "object.__class__") "__get__" = some (some (.builtin "getset_descriptor.__get__"))
  ct : PySem.W.takesIn K (.builtin "object.__class__") = some true
  cm : PySem.W.mroIn K C (.type "object") = some true
  xN : PySem.W.excIn K CN [.type "ValueError", .type "Exception", .type "BaseException", .type "object"] "ValueError.__new__" = true
  kN : PySem.W.keepIn K (.ref CN) = true
  bN : PySem.W.subIn K (.ref CN) (.type "BaseException") = some true
  tN : PySem.W.typeIn K (.ref CN) = some (.type "type")
  iC : PySem.W.isClsIn K C = true
  tC : PySem.W.typeIn K (.ref C) = some (.type "type")
  k_NoneType : PySem.W.subIn K (.type "NoneType") (.ref C) = some false
  k_bool : PySem.W.subIn K (.type "bool") (.ref C) = some false
  k_int : PySem.W.subIn K (.type "int") (.ref C) = some false
  k_str : PySem.W.subIn K (.type "str") (.ref C) = some false
  k_list : PySem.W.subIn K (.type "list") (.ref C) = some false
  k_tuple : PySem.W.subIn K (.type "tuple") (.ref C) = some false
  k_dict : PySem.W.subIn K (.type "dict") (.ref C) = some false
  eg : PySem.W.findIn K (.ref CN) "__getattribute__" = some (some (.builtin "BaseException.__getattribute__"))
  ek : PySem.W.findIn K (.ref CN) "__getattr__" = some none
  ed : PySem.W.hasDictIn K CN = true
  ea : PySem.W.findIn K (.ref CN) "__class__" = some (some (.builtin "object.__class__"))
  em : PySem.W.mroIn K CN (.type "object") = some true
  iW : PySem.W.isClsIn K CW = true
  tW : PySem.W.typeIn K (.ref CW) = some (.type "type")
  sW : PySem.W.subIn K (.ref CN) (.ref CW) = some true
  iL : PySem.W.isClsIn K CL = true
  tL : PySem.W.typeIn K (.ref CL) = some (.type "type")
  sL : PySem.W.subIn K (.ref CN) (.ref CL) = some true
  bL : PySem.W.subIn K (.ref CL) (.type "BaseException") = some true
  sV : PySem.W.subIn K (.ref CN) (.type "ValueError") = some true
  iCB : PySem.W.isClsIn K CB = true
  tCB : PySem.W.typeIn K (.ref CB) = some (.type "type")
  sCB : PySem.W.subIn K (.ref CN) (.ref CB) = some false
  qCB : ((Value.ref CN) == (Value.ref CB)) = false
  ic1 : PySem.W.isClsIn K c1 = true
  tc1 : PySem.W.typeIn K (.ref c1) = some (.type "type")
  sc1 : PySem.W.subIn K (.ref CN) (.ref c1) = some false
  qc1 : ((Value.ref CN) == (Value.ref c1)) = false
  ic2 : PySem.W.isClsIn K c2 = true
  tc2 : PySem.W.typeIn K (.ref c2) = some (.type "type")
  sc2 : PySem.W.subIn K (.ref CN) (.ref c2) = some false
  qc2 : ((Value.ref CN) == (Value.ref c2)) = false
  ic3 : PySem.W.isClsIn K c3 = true
  tc3 : PySem.W.typeIn K (.ref c3) = some (.type "type")
  sc3 : PySem.W.subIn K (.ref CN) (.ref c3) = some false
  qc3 : ((Value.ref CN) == (Value.ref c3)) = false
  ic4 : PySem.W.isClsIn K c4 = true
  tc4 : PySem.W.typeIn K (.ref c4) = some (.type "type")
  sc4 : PySem.W.subIn K (.ref CN) (.ref c4) = some false
  qc4 : ((Value.ref CN) == (Value.ref c4)) = false
  ic5 : PySem.W.isClsIn K c5 = true
  tc5 : PySem.W.typeIn K (.ref c5) = some (.type "type")
  sc5 : PySem.W.subIn K (.ref CN) (.ref c5) = some false
  qc5 : ((Value.ref CN) == (Value.ref c5)) = false
  ic6 : PySem.W.isClsIn K c6 = true
  tc6 : PySem.W.typeIn K (.ref c6) = some (.type "type")
  sc6 : PySem.W.subIn K (.ref CN) (.ref c6) = some false
  qc6 : ((Value.ref CN) == (Value.ref c6)) = false
  ic7 : PySem.W.isClsIn K c7 = true
  tc7 : PySem.W.typeIn K (.ref c7) = some (.type "type")
  sc7 : PySem.W.subIn K (.ref CN) (.ref c7) = some false
  qc7 : ((Value.ref CN) == (Value.ref c7)) = false
  ic8 : PySem.W.isClsIn K c8 = true
  tc8 : PySem.W.typeIn K (.ref c8) = some (.type "type")
  sc8 : PySem.W.subIn K (.ref CN) (.ref c8) = some false
  qc8 : ((Value.ref CN) == (Value.ref c8)) = false
  ne : PySem.W.findIn K (.ref C) "__ne__" = some (some (.builtin "object.__ne__"))
  s_NoneType : PySem.W.subIn K (.ref C) (.type "NoneType") = some false
  s_bool : PySem.W.subIn K (.ref C) (.type "bool") = some false
  s_int : PySem.W.subIn K (.ref C) (.type "int") = some false
  s_str : PySem.W.subIn K (.ref C) (.type "str") = some false
  s_list : PySem.W.subIn K (.ref C) (.type "list") = some false
  s_tuple : PySem.W.subIn K (.ref C) (.type "tuple") = some false
theorem all_mk {l : PySem.W.OpenLaw} {w : World} {K : PySem.W.Frag} {h : Heap} {mg : Str → Option Value} {fa : Addr} (X : K.In h) (G : h.Ns mainGlobals mg) (hfa : mg "law" = some (.ref fa))
    {C CN CW CL CB c1 c2 c3 c4 c5 c6 c7 c8 : Addr} (D : LeftC K C CN CW CL CB c1 c2 c3 c4 c5 c6 c7 c8)
    {fI TI : Addr} {ocI : Value} {odI anI : Option Addr} {kVI dcI pmI cdI ctI : Value} {slI : Array (Option Value)} {oTI : Value} {dTI : Option Addr} {nTI : Nat} {sTI : Array (Option Value)} (FI : LeftI K C fI TI ocI odI anI kVI dcI pmI cdI ctI slI oTI dTI nTI sTI)
    {ffi : Addr} {ocfi : Value} {odfi anfi : Option Addr} {kVfi dcfi pmfi cdfi ctfi : Value} {slfi : Array (Option Value)} (Ffi : LeftM K C "first" "Stretch.first" sFirst ffi ocfi odfi anfi kVfi dcfi pmfi cdfi ctfi slfi)
    {fla : Addr} {ocla : Value} {odla anla : Option Addr} {kVla dcla pmla cdla ctla : Value} {slla : Array (Option Value)} (Fla : LeftM K C "last" "Stretch.last" sLast fla ocla odla anla kVla dcla pmla cdla ctla slla)
    {fha : Addr} {ocha : Value} {odha anha : Option Addr} {kVha dcha pmha cdha ctha : Value} {slha : Array (Option Value)} (Fha : LeftM K C "has" "Stretch.has" sHas fha ocha odha anha kVha dcha pmha cdha ctha slha)
    {feq : Addr} {oceq : Value} {odeq aneq : Option Addr} {kVeq dceq pmeq cdeq cteq : Value} {sleq : Array (Option Value)} (Feq : LeftM K C "__eq__" "Stretch.__eq__" sEq feq oceq odeq aneq kVeq dceq pmeq cdeq cteq sleq)
    {fre : Addr} {ocre : Value} {odre anre : Option Addr} {kVre dcre pmre cdre ctre : Value} {slre : Array (Option Value)} (Fre : LeftM K C "__repr__" "Stretch.__repr__" sRepr fre ocre odre anre kVre dcre pmre cdre ctre slre)
    {fst : Addr} {ocst : Value} {odst anst : Option Addr} {kVst dcst pmst cdst ctst : Value} {slst : Array (Option Value)} (Fst : LeftM K C "__str__" "Stretch.__str__" sStr fst ocst odst anst kVst dcst pmst cdst ctst slst)
    {fwh : Addr} {ocwh : Value} {odwh anwh : Option Addr} {kVwh dcwh pmwh cdwh ctwh : Value} {slwh : Array (Option Value)} (Fwh : Left K "is_whole" sWhole fwh ocwh odwh anwh kVwh dcwh pmwh cdwh ctwh slwh)
    {ffr : Addr} {ocfr : Value} {odfr anfr : Option Addr} {kVfr dcfr pmfr cdfr ctfr : Value} {slfr : Array (Option Value)} (Ffr : Left K "is_from" sFrom ffr ocfr odfr anfr kVfr dcfr pmfr cdfr ctfr slfr)
    {fda : Addr} {ocda : Value} {odda anda : Option Addr} {kVda dcda pmda cdda ctda : Value} {slda : Array (Option Value)} (Fda : Left K "is_day" sDay fda ocda odda anda kVda dcda pmda cdda ctda slda)
    {fce : Addr} {occe : Value} {odce ance : Option Addr} {kVce dcce pmce cdce ctce : Value} {slce : Array (Option Value)} (Fce : Left K "_law_cell" sCell fce occe odce ance kVce dcce pmce cdce ctce slce)
    {fpo : Addr} {ocpo : Value} {odpo anpo : Option Addr} {kVpo dcpo pmpo cdpo ctpo : Value} {slpo : Array (Option Value)} (Fpo : Left K "_law_pot" sPot fpo ocpo odpo anpo kVpo dcpo pmpo cdpo ctpo slpo)
    {fta : Addr} {octa : Value} {odta anta : Option Addr} {kVta dcta pmta cdta ctta : Value} {slta : Array (Option Value)} (Fta : Left K "_law_take" sTake fta octa odta anta kVta dcta pmta cdta ctta slta)
    {ffa : Addr} {ocfa : Value} {odfa anfa : Option Addr} {kVfa dcfa pmfa cdfa ctfa : Value} {slfa : Array (Option Value)} (Ffa : Left K "_law_far" sFar ffa ocfa odfa anfa kVfa dcfa pmfa cdfa ctfa slfa)
    {fld : Addr} {ocld : Value} {odld anld : Option Addr} {kVld dcld pmld cdld ctld : Value} {slld : Array (Option Value)} (Fld : Left K "_law_day" sLday fld ocld odld anld kVld dcld pmld cdld ctld slld)
    {fgo : Addr} {ocgo : Value} {odgo ango : Option Addr} {kVgo dcgo pmgo cdgo ctgo : Value} {slgo : Array (Option Value)} (Fgo : Left K "_law_good" sGood fgo ocgo odgo ango kVgo dcgo pmgo cdgo ctgo slgo)
    {fsp : Addr} {ocsp : Value} {odsp ansp : Option Addr} {kVsp dcsp pmsp cdsp ctsp : Value} {slsp : Array (Option Value)} (Fsp : Left K "_law_spoilt" sSpoilt fsp ocsp odsp ansp kVsp dcsp pmsp cdsp ctsp slsp)
    {fli : Addr} {ocli : Value} {odli anli : Option Addr} {kVli dcli pmli cdli ctli : Value} {slli : Array (Option Value)} (Fli : Left K "_law_is_day" sLis fli ocli odli anli kVli dcli pmli cdli ctli slli)
    {fri : Addr} {ocri : Value} {odri anri : Option Addr} {kVri dcri pmri cdri ctri : Value} {slri : Array (Option Value)} (Fri : Left K "_law_is_right" sRight fri ocri odri anri kVri dcri pmri cdri ctri slri)
    {fwo : Addr} {ocwo : Value} {odwo anwo : Option Addr} {kVwo dcwo pmwo cdwo ctwo : Value} {slwo : Array (Option Value)} (Fwo : Left K "_law_word" sWord fwo ocwo odwo anwo kVwo dcwo pmwo cdwo ctwo slwo)
    {fma : Addr} {ocma : Value} {odma anma : Option Addr} {kVma dcma pmma cdma ctma : Value} {slma : Array (Option Value)} (Fma : Left K "_law_made" sMade fma ocma odma anma kVma dcma pmma cdma ctma slma)
    {fme : Addr} {ocme : Value} {odme anme : Option Addr} {kVme dcme pmme cdme ctme : Value} {slme : Array (Option Value)} (Fme : Left K "_law_met" sMet fme ocme odme anme kVme dcme pmme cdme ctme slme)
    {flh : Addr} {oclh : Value} {odlh anlh : Option Addr} {kVlh dclh pmlh cdlh ctlh : Value} {sllh : Array (Option Value)} (Flh : Left K "_law_has" sLhas flh oclh odlh anlh kVlh dclh pmlh cdlh ctlh sllh)
    {fhr : Addr} {ochr : Value} {odhr anhr : Option Addr} {kVhr dchr pmhr cdhr cthr : Value} {slhr : Array (Option Value)} (Fhr : Left K "_law_has_right" sHasR fhr ochr odhr anhr kVhr dchr pmhr cdhr cthr slhr)
    {fsh : Addr} {ocsh : Value} {odsh ansh : Option Addr} {kVsh dcsh pmsh cdsh ctsh : Value} {slsh : Array (Option Value)} (Fsh : Left K "_law_shown" sShown fsh ocsh odsh ansh kVsh dcsh pmsh cdsh ctsh slsh)
    {fto : Addr} {octo : Value} {odto anto : Option Addr} {kVto dcto pmto cdto ctto : Value} {slto : Array (Option Value)} (Fto : Left K "_law_told_right" sTold fto octo odto anto kVto dcto pmto cdto ctto slto)
    {fal : Addr} {ocal : Value} {odal anal : Option Addr} {kVal dcal pmal cdal ctal : Value} {slal : Array (Option Value)} (Fal : Left K "_law_alike" sAlike fal ocal odal anal kVal dcal pmal cdal ctal slal)
    {fW : Addr} {ocW : Value} {odW anW : Option Addr} {kVW dcW pmW cdW ctW : Value} {slW : Array (Option Value)} (FW : Left K "law" sLaw fW ocW odW anW kVW dcW pmW cdW ctW slW)
    (z_isinstance : PySem.W.nsIn K mainGlobals "isinstance" = some none)
    (z_int : PySem.W.nsIn K mainGlobals "int" = some none)
    (z_bool : PySem.W.nsIn K mainGlobals "bool" = some none)
    (z_len : PySem.W.nsIn K mainGlobals "len" = some none)
    (z_abs : PySem.W.nsIn K mainGlobals "abs" = some none)
    (z_max : PySem.W.nsIn K mainGlobals "max" = some none)
    (z_min : PySem.W.nsIn K mainGlobals "min" = some none)
    (z_divmod : PySem.W.nsIn K mainGlobals "divmod" = some none)
    (z_range : PySem.W.nsIn K mainGlobals "range" = some none)
    (z_repr : PySem.W.nsIn K mainGlobals "repr" = some none)
    (z_str : PySem.W.nsIn K mainGlobals "str" = some none)
    (z_tuple : PySem.W.nsIn K mainGlobals "tuple" = some none)
    (z_ValueError : PySem.W.nsIn K mainGlobals "ValueError" = some none)
    : ∃ fd : FuncData, (∀ (s : Shared) (v : Value), BindsTo s fd ⟨[v], []⟩ [("_law_script", v)]) ∧
      ∀ base : Heap, K.In base → base.Ns mainGlobals mg → FnG l.prog w K mg base CX0 8 fa fd ["_law_script"] (spLaw K) := by
  have e := hfa.symm.trans (PySem.W.mg_of X G FW.ns)
  cases e
  have N : ∀ {x : Str}, PySem.W.nsIn K mainGlobals x = some none → mg x = none := fun z => PySem.W.mg_none_of X G z
  have T : Tx mg := ⟨N z_isinstance, N z_int, N z_bool, N z_len, N z_abs, N z_max, N z_min, N z_divmod, N z_range, N z_repr, N z_str, N z_tuple, N z_ValueError⟩
  have Z : Ct K mg C CN := ⟨⟨D.pg, D.hd, D.po, D.sa⟩, D.nF, D.nL, PySem.W.mg_of X G D.nC, D.kC, D.ca, D.cn, D.ct, D.cm, PySem.W.mg_of X G D.n_NoDay, D.xN, D.kN, D.bN, D.tN⟩
  have QQ : Ki K C := ⟨kit_self, fun t ht => by
    simp only [List.mem_cons, List.not_mem_nil, or_false] at ht
    rcases ht with rfl | rfl | rfl | rfl | rfl | rfl | rfl
    · exact kit_no D.iC D.tC D.k_NoneType rfl
    · exact kit_no D.iC D.tC D.k_bool rfl
    · exact kit_no D.iC D.tC D.k_int rfl
    · exact kit_no D.iC D.tC D.k_str rfl
    · exact kit_no D.iC D.tC D.k_list rfl
    · exact kit_no D.iC D.tC D.k_tuple rfl
    · exact kit_no D.iC D.tC D.k_dict rfl⟩
  have R : Er K mg CN CW CL CB c1 c2 c3 c4 c5 c6 c7 c8 := ⟨PySem.W.mg_of X G D.n_Wrong, PySem.W.mg_of X G D.n_LightsError, PySem.W.mg_of X G D.n_Barred, PySem.W.mg_of X G D.n_NoKind, PySem.W.mg_of X G D.n_NoLetter, PySem.W.mg_of X G D.n_NoName, PySem.W.mg_of X G D.n_NoNumber, PySem.W.mg_of X G D.n_NoPlace, PySem.W.mg_of X G D.n_NoSlot, PySem.W.mg_of X G D.n_NoStretches, PySem.W.mg_of X G D.n_NoText, ⟨D.eg, D.ek, D.bN, D.ed, D.ea, D.cn, D.ct, D.em⟩, kitAny_cons (kit_no D.iCB D.tCB D.sCB D.qCB) (fun _ => kitAny_cons (kit_no D.ic1 D.tc1 D.sc1 D.qc1) (fun _ => kitAny_cons (kit_no D.ic2 D.tc2 D.sc2 D.qc2) (fun _ => kitAny_cons (kit_no D.ic3 D.tc3 D.sc3 D.qc3) (fun _ => kitAny_cons (kit_no D.ic4 D.tc4 D.sc4 D.qc4) (fun _ => kitAny_cons (kit_no D.ic5 D.tc5 D.sc5 D.qc5) (fun _ => kitAny_cons (kit_no D.ic6 D.tc6 D.sc6 D.qc6) (fun _ => kitAny_cons (kit_no D.ic7 D.tc7 D.sc7 D.qc7) (fun _ => kitAny_cons (kit_no D.ic8 D.tc8 D.sc8 D.qc8) (fun _ => rfl) nofun) nofun) nofun) nofun) nofun) nofun) nofun) nofun) nofun, kit_self, kit_yes D.iW D.tW D.sW, kit_yes D.iL D.tL D.sL, kit_ve D.sV, exm_yes D.bL D.iL D.tL D.sL⟩
  have Bwh : Has K mg "is_whole" ["thing"] sWhole _ _ := ⟨Fwh.fn, Fwh.fn.binds fun _ _ _ _ _ _ us hl => match us, hl with | [_], _ => rfl, PySem.W.mg_of X G Fwh.ns⟩
  have Bfr : Has K mg "is_from" ["thing", "least"] sFrom _ _ := ⟨Ffr.fn, Ffr.fn.binds fun _ _ _ _ _ _ us hl => match us, hl with | [_, _], _ => rfl, PySem.W.mg_of X G Ffr.ns⟩
  have Bda : Has K mg "is_day" ["thing"] sDay _ _ := ⟨Fda.fn, Fda.fn.binds fun _ _ _ _ _ _ us hl => match us, hl with | [_], _ => rfl, PySem.W.mg_of X G Fda.ns⟩
  have Bce : Has K mg "_law_cell" ["_law_script", "_law_k"] sCell _ _ := ⟨Fce.fn, Fce.fn.binds fun _ _ _ _ _ _ us hl => match us, hl with | [_, _], _ => rfl, PySem.W.mg_of X G Fce.ns⟩
  have Bpo : Has K mg "_law_pot" ["_law_script", "_law_k"] sPot _ _ := ⟨Fpo.fn, Fpo.fn.binds fun _ _ _ _ _ _ us hl => match us, hl with | [_, _], _ => rfl, PySem.W.mg_of X G Fpo.ns⟩
  have Bta : Has K mg "_law_take" ["_law_pot_here", "_law_room"] sTake _ _ := ⟨Fta.fn, Fta.fn.binds fun _ _ _ _ _ _ us hl => match us, hl with | [_, _], _ => rfl, PySem.W.mg_of X G Fta.ns⟩
  have Bfa : Has K mg "_law_far" ["_law_pot_here"] sFar _ _ := ⟨Ffa.fn, Ffa.fn.binds fun _ _ _ _ _ _ us hl => match us, hl with | [_], _ => rfl, PySem.W.mg_of X G Ffa.ns⟩
  have Bld : Has K mg "_law_day" ["_law_pot_here"] sLday _ _ := ⟨Fld.fn, Fld.fn.binds fun _ _ _ _ _ _ us hl => match us, hl with | [_], _ => rfl, PySem.W.mg_of X G Fld.ns⟩
  have Bgo : Has K mg "_law_good" ["_law_pot_here"] sGood _ _ := ⟨Fgo.fn, Fgo.fn.binds fun _ _ _ _ _ _ us hl => match us, hl with | [_], _ => rfl, PySem.W.mg_of X G Fgo.ns⟩
  have Bsp : Has K mg "_law_spoilt" ["_law_pot_here", "_law_days"] sSpoilt _ _ := ⟨Fsp.fn, Fsp.fn.binds fun _ _ _ _ _ _ us hl => match us, hl with | [_, _], _ => rfl, PySem.W.mg_of X G Fsp.ns⟩
  have Bli : Has K mg "_law_is_day" ["_law_thing"] sLis _ _ := ⟨Fli.fn, Fli.fn.binds fun _ _ _ _ _ _ us hl => match us, hl with | [_], _ => rfl, PySem.W.mg_of X G Fli.ns⟩
  have Bri : Has K mg "_law_is_right" ["_law_begin", "_law_end"] sRight _ _ := ⟨Fri.fn, Fri.fn.binds fun _ _ _ _ _ _ us hl => match us, hl with | [_, _], _ => rfl, PySem.W.mg_of X G Fri.ns⟩
  have Bwo : Has K mg "_law_word" ["_law_e"] sWord _ _ := ⟨Fwo.fn, Fwo.fn.binds fun _ _ _ _ _ _ us hl => match us, hl with | [_], _ => rfl, PySem.W.mg_of X G Fwo.ns⟩
  have Bma : Has K mg "_law_made" ["_law_begin", "_law_end", "_law_way"] sMade _ _ := ⟨Fma.fn, Fma.fn.binds fun _ _ _ _ _ _ us hl => match us, hl with | [_, _, _], _ => rfl, PySem.W.mg_of X G Fma.ns⟩
  have Bme : Has K mg "_law_met" ["_law_begin", "_law_end", "_law_way"] sMet _ _ := ⟨Fme.fn, Fme.fn.binds fun _ _ _ _ _ _ us hl => match us, hl with | [_, _, _], _ => rfl, PySem.W.mg_of X G Fme.ns⟩
  have Blh : Has K mg "_law_has" ["_law_stretch", "_law_when"] sLhas _ _ := ⟨Flh.fn, Flh.fn.binds fun _ _ _ _ _ _ us hl => match us, hl with | [_, _], _ => rfl, PySem.W.mg_of X G Flh.ns⟩
  have Bhr : Has K mg "_law_has_right" ["_law_stretch", "_law_begin", "_law_end"] sHasR _ _ := ⟨Fhr.fn, Fhr.fn.binds fun _ _ _ _ _ _ us hl => match us, hl with | [_, _, _], _ => rfl, PySem.W.mg_of X G Fhr.ns⟩
  have Bsh : Has K mg "_law_shown" ["_law_begin", "_law_end"] sShown _ _ := ⟨Fsh.fn, Fsh.fn.binds fun _ _ _ _ _ _ us hl => match us, hl with | [_, _], _ => rfl, PySem.W.mg_of X G Fsh.ns⟩
  have Bto : Has K mg "_law_told_right" ["_law_stretch", "_law_begin", "_law_end"] sTold _ _ := ⟨Fto.fn, Fto.fn.binds fun _ _ _ _ _ _ us hl => match us, hl with | [_, _, _], _ => rfl, PySem.W.mg_of X G Fto.ns⟩
  have Bal : Has K mg "_law_alike" ["_law_stretch", "_law_other", "_law_due"] sAlike _ _ := ⟨Fal.fn, Fal.fn.binds fun _ _ _ _ _ _ us hl => match us, hl with | [_, _, _], _ => rfl, PySem.W.mg_of X G Fal.ns⟩
  have bfi : L2.Binds K _ ["self"] [] := Ffi.fn.binds fun _ _ _ _ _ _ us hl => match us, hl with | [_], _ => rfl
  have bla : L2.Binds K _ ["self"] [] := Fla.fn.binds fun _ _ _ _ _ _ us hl => match us, hl with | [_], _ => rfl
  have bha : L2.Binds K _ ["self", "day"] [] := Fha.fn.binds fun _ _ _ _ _ _ us hl => match us, hl with | [_, _], _ => rfl
  have beq : L2.Binds K _ ["self", "other"] [] := Feq.fn.binds fun _ _ _ _ _ _ us hl => match us, hl with | [_, _], _ => rfl
  have bre : L2.Binds K _ ["self"] [] := Fre.fn.binds fun _ _ _ _ _ _ us hl => match us, hl with | [_], _ => rfl
  have bst : L2.Binds K _ ["self"] [] := Fst.fn.binds fun _ _ _ _ _ _ us hl => match us, hl with | [_], _ => rfl
  obtain ⟨dI, vI, bI⟩ := FI.fn.binds1 (ps := ["self", "first", "last"]) 3 1 (by simp) (by rfl) (fun _ _ _ _ _ _ _ us its h1 h2 => match us, its, h1, h2 with | [_, _, _], [_], _, _ => ⟨_, rfl, rfl⟩)
  cases vI
  have S : Fs K mg C := ⟨⟨_, _, Bda⟩, ⟨_, _, ⟨Bwh, _, _, Bfr⟩⟩, ⟨_, _, ⟨FI.mks, FI.at_, FI.isf, D.kC⟩, FI.fn, bI⟩, ⟨_, _, Ffi.fn, bfi, Ffi.me⟩, ⟨_, _, Fla.fn, bla, Fla.me⟩, ⟨_, _, ⟨Fha.fn, bha, Fha.me⟩, kb_gK Fha.fn rfl fun _ _ _ _ _ _ _ _ => rfl⟩, ⟨_, _, ⟨Feq.at_, Feq.isf, D.ne, D.cm, D.s_NoneType, D.s_bool, D.s_int, D.s_str, D.s_list, D.s_tuple⟩, Feq.fn, beq⟩, ⟨_, _, Fre.fn, bre, Fre.me⟩, ⟨_, _, Fst.fn, bst, Fst.me⟩, ⟨_, _, Bce⟩, ⟨_, _, Bpo⟩, ⟨_, _, Bta⟩, ⟨_, _, Bfa⟩, ⟨_, _, Bld⟩, ⟨_, _, Bgo⟩, ⟨_, _, Bsp⟩, ⟨_, _, Bli⟩, ⟨_, _, Bri⟩, ⟨_, _, Bwo⟩, ⟨_, _, Bma⟩, ⟨_, _, Bme⟩, ⟨_, _, Blh⟩, ⟨_, _, Bhr⟩, ⟨_, _, Bsh⟩, ⟨_, _, Bto⟩, ⟨_, _, Bal⟩⟩
  exact ⟨_, fun s v => .of_eq rfl, fun base _ _ => ok_law FW.fn T Z QQ R S⟩
end K12
open PySem PySem.W PyProof.Rows
set_option maxHeartbeats 0 in
theorem PySem.Challenge.cw_lightturns_k12_stretches_made_holds : PySem.Challenge.rw_lightturns_k12_stretches_made.Holds := by
  w_on; o_law; k_head; (case hw => w_witness2)
  k_fill
  refine LT.end_of (l := PySem.Challenge.rw_lightturns_k12_stretches_made) (n := 63) (k := 8) (x := "_law_script") (CX := fun _ => L2.CX0) (sp := fun w => K12.spLaw _) rfl (by decide) rfl ⟨rfl, by decide, by decide⟩ (fun w h Y => PySem.W.kIn_of Y) ?F (fun _ _ a ns hl _ _ hS => ⟨a, ns, rfl, hS, hl, fun _ => rfl⟩) (fun _ _ _ _ _ h => h)
  case F =>
    intro w mg fa h KX G hmg
    refine' K12.all_mk KX G hmg ⟨?d_nC, ?d_n_NoDay, ?d_n_Wrong, ?d_n_LightsError, ?d_n_Barred, ?d_n_NoKind, ?d_n_NoLetter, ?d_n_NoName, ?d_n_NoNumber, ?d_n_NoPlace, ?d_n_NoSlot, ?d_n_NoStretches, ?d_n_NoText, ?d_pg, ?d_hd, ?d_po, ?d_sa, ?d_nF, ?d_nL, ?d_kC, ?d_ca, ?d_cn, ?d_ct, ?d_cm, ?d_xN, ?d_kN, ?d_bN, ?d_tN, ?d_iC, ?d_tC, ?d_k_NoneType, ?d_k_bool, ?d_k_int, ?d_k_str, ?d_k_list, ?d_k_tuple, ?d_k_dict, ?d_eg, ?d_ek, ?d_ed, ?d_ea, ?d_em, ?d_iW, ?d_tW, ?d_sW, ?d_iL, ?d_tL, ?d_sL, ?d_bL, ?d_sV, ?d_iCB, ?d_tCB, ?d_sCB, ?d_qCB, ?d_ic1, ?d_tc1, ?d_sc1, ?d_qc1, ?d_ic2, ?d_tc2, ?d_sc2, ?d_qc2, ?d_ic3, ?d_tc3, ?d_sc3, ?d_qc3, ?d_ic4, ?d_tc4, ?d_sc4, ?d_qc4, ?d_ic5, ?d_tc5, ?d_sc5, ?d_qc5, ?d_ic6, ?d_tc6, ?d_sc6, ?d_qc6, ?d_ic7, ?d_tc7, ?d_sc7, ?d_qc7, ?d_ic8, ?d_tc8, ?d_sc8, ?d_qc8, ?d_ne, ?d_s_NoneType, ?d_s_bool, ?d_s_int, ?d_s_str, ?d_s_list, ?d_s_tuple⟩ ⟨?i_at, ?i_lk, ?i_cd, ?i_kp, ?i_isf, ?i_lT, ?i_mks⟩ ⟨?m_fi_at, ?m_fi_lk, ?m_fi_cd, ?m_fi_kp, ?m_fi_isf⟩ ⟨?m_la_at, ?m_la_lk, ?m_la_cd, ?m_la_kp, ?m_la_isf⟩ ⟨?m_ha_at, ?m_ha_lk, ?m_ha_cd, ?m_ha_kp, ?m_ha_isf⟩ ⟨?m_eq_at, ?m_eq_lk, ?m_eq_cd, ?m_eq_kp, ?m_eq_isf⟩ ⟨?m_re_at, ?m_re_lk, ?m_re_cd, ?m_re_kp, ?m_re_isf⟩ ⟨?m_st_at, ?m_st_lk, ?m_st_cd, ?m_st_kp, ?m_st_isf⟩ ⟨?f_wh_ns, ?f_wh_lk, ?f_wh_cd, ?f_wh_kp⟩ ⟨?f_fr_ns, ?f_fr_lk, ?f_fr_cd, ?f_fr_kp⟩ ⟨?f_da_ns, ?f_da_lk, ?f_da_cd, ?f_da_kp⟩ ⟨?f_ce_ns, ?f_ce_lk, ?f_ce_cd, ?f_ce_kp⟩ ⟨?f_po_ns, ?f_po_lk, ?f_po_cd, ?f_po_kp⟩ ⟨?f_ta_ns, ?f_ta_lk, ?f_ta_cd, ?f_ta_kp⟩ ⟨?f_fa_ns, ?f_fa_lk, ?f_fa_cd, ?f_fa_kp⟩ ⟨?f_ld_ns, ?f_ld_lk, ?f_ld_cd, ?f_ld_kp⟩ ⟨?f_go_ns, ?f_go_lk, ?f_go_cd, ?f_go_kp⟩ ⟨?f_sp_ns, ?f_sp_lk, ?f_sp_cd, ?f_sp_kp⟩ ⟨?f_li_ns, ?f_li_lk, ?f_li_cd, ?f_li_kp⟩ ⟨?f_ri_ns, ?f_ri_lk, ?f_ri_cd, ?f_ri_kp⟩ ⟨?f_wo_ns, ?f_wo_lk, ?f_wo_cd, ?f_wo_kp⟩ ⟨?f_ma_ns, ?f_ma_lk, ?f_ma_cd, ?f_ma_kp⟩ ⟨?f_me_ns, ?f_me_lk, ?f_me_cd, ?f_me_kp⟩ ⟨?f_lh_ns, ?f_lh_lk, ?f_lh_cd, ?f_lh_kp⟩ ⟨?f_hr_ns, ?f_hr_lk, ?f_hr_cd, ?f_hr_kp⟩ ⟨?f_sh_ns, ?f_sh_lk, ?f_sh_cd, ?f_sh_kp⟩ ⟨?f_to_ns, ?f_to_lk, ?f_to_cd, ?f_to_kp⟩ ⟨?f_al_ns, ?f_al_lk, ?f_al_cd, ?f_al_kp⟩ ⟨?f_W_ns, ?f_W_lk, ?f_W_cd, ?f_W_kp⟩ ?z_isinstance ?z_int ?z_bool ?z_len ?z_abs ?z_max ?z_min ?z_divmod ?z_range ?z_repr ?z_str ?z_tuple ?z_ValueError
    (case d_nC => k_is)
    (case d_n_NoDay => k_is)
    (case d_n_Wrong => k_is)
    (case d_n_LightsError => k_is)
    (case d_n_Barred => k_is)
    (case d_n_NoKind => k_is)
    (case d_n_NoLetter => k_is)
    (case d_n_NoName => k_is)
    (case d_n_NoNumber => k_is)
    (case d_n_NoPlace => k_is)
    (case d_n_NoSlot => k_is)
    (case d_n_NoStretches => k_is)
    (case d_n_NoText => k_is)
    (case d_pg => k_is)
    (case d_hd => k_is)
    (case d_po => k_is)
    (case d_sa => k_is)
    (case d_nF => k_is)
    (case d_nL => k_is)
    (case d_kC => k_is)
    (case d_ca => k_is)
    (case d_cn => k_is)
    (case d_ct => k_is)
    (case d_cm => k_is)
    (case d_xN => k_exc)
    (case d_kN => k_is)
    (case d_bN => k_is)
    (case d_tN => k_is)
    (case d_iC => k_is)
    (case d_tC => k_is)
    (case d_k_NoneType => k_is)
    (case d_k_bool => k_is)
    (case d_k_int => k_is)
    (case d_k_str => k_is)
    (case d_k_list => k_is)
    (case d_k_tuple => k_is)
    (case d_k_dict => k_is)
    (case d_eg => k_is)
    (case d_ek => k_is)
    (case d_ed => k_is)
    (case d_ea => k_is)
    (case d_em => k_is)
    (case d_iW => k_is)
    (case d_tW => k_is)
    (case d_sW => k_is)
    (case d_iL => k_is)
    (case d_tL => k_is)
    (case d_sL => k_is)
    (case d_bL => k_is)
    (case d_sV => k_is)
    (case d_iCB => k_is)
    (case d_tCB => k_is)
    (case d_sCB => k_is)
    (case d_qCB => rfl)
    (case d_ic1 => k_is)
    (case d_tc1 => k_is)
    (case d_sc1 => k_is)
    (case d_qc1 => rfl)
    (case d_ic2 => k_is)
    (case d_tc2 => k_is)
    (case d_sc2 => k_is)
    (case d_qc2 => rfl)
    (case d_ic3 => k_is)
    (case d_tc3 => k_is)
    (case d_sc3 => k_is)
    (case d_qc3 => rfl)
    (case d_ic4 => k_is)
    (case d_tc4 => k_is)
    (case d_sc4 => k_is)
    (case d_qc4 => rfl)
    (case d_ic5 => k_is)
    (case d_tc5 => k_is)
    (case d_sc5 => k_is)
    (case d_qc5 => rfl)
    (case d_ic6 => k_is)
    (case d_tc6 => k_is)
    (case d_sc6 => k_is)
    (case d_qc6 => rfl)
    (case d_ic7 => k_is)
    (case d_tc7 => k_is)
    (case d_sc7 => k_is)
    (case d_qc7 => rfl)
    (case d_ic8 => k_is)
    (case d_tc8 => k_is)
    (case d_sc8 => k_is)
    (case d_qc8 => rfl)
    (case d_ne => k_is)
    (case d_s_NoneType => k_is)
    (case d_s_bool => k_is)
    (case d_s_int => k_is)
    (case d_s_str => k_is)
    (case d_s_list => k_is)
    (case d_s_tuple => k_is)
    (case i_at => k_is)
    (case i_lk => k_is)
    (case i_cd => k_is)
    (case i_kp => k_is)
    (case i_isf => k_is)
    (case i_lT => k_is)
    (case i_mks => k_is)
    (case m_fi_at => k_is)
    (case m_fi_lk => k_is)
    (case m_fi_cd => k_is)
    (case m_fi_kp => k_is)
    (case m_fi_isf => k_is)
    (case m_la_at => k_is)
    (case m_la_lk => k_is)
    (case m_la_cd => k_is)
    (case m_la_kp => k_is)
    (case m_la_isf => k_is)
    (case m_ha_at => k_is)
    (case m_ha_lk => k_is)
    (case m_ha_cd => k_is)
    (case m_ha_kp => k_is)
    (case m_ha_isf => k_is)
    (case m_eq_at => k_is)
    (case m_eq_lk => k_is)
    (case m_eq_cd => k_is)
    (case m_eq_kp => k_is)
    (case m_eq_isf => k_is)
    (case m_re_at => k_is)
    (case m_re_lk => k_is)
    (case m_re_cd => k_is)
    (case m_re_kp => k_is)
    (case m_re_isf => k_is)
    (case m_st_at => k_is)
    (case m_st_lk => k_is)
    (case m_st_cd => k_is)
    (case m_st_kp => k_is)
    (case m_st_isf => k_is)
    (case f_wh_ns => k_is)
    (case f_wh_lk => k_is)
    (case f_wh_cd => k_is)
    (case f_wh_kp => k_is)
    (case f_fr_ns => k_is)
    (case f_fr_lk => k_is)
    (case f_fr_cd => k_is)
    (case f_fr_kp => k_is)
    (case f_da_ns => k_is)
    (case f_da_lk => k_is)
    (case f_da_cd => k_is)
    (case f_da_kp => k_is)
    (case f_ce_ns => k_is)
    (case f_ce_lk => k_is)
    (case f_ce_cd => k_is)
    (case f_ce_kp => k_is)
    (case f_po_ns => k_is)
    (case f_po_lk => k_is)
    (case f_po_cd => k_is)
    (case f_po_kp => k_is)
    (case f_ta_ns => k_is)
    (case f_ta_lk => k_is)
    (case f_ta_cd => k_is)
    (case f_ta_kp => k_is)
    (case f_fa_ns => k_is)
    (case f_fa_lk => k_is)
    (case f_fa_cd => k_is)
    (case f_fa_kp => k_is)
    (case f_ld_ns => k_is)
    (case f_ld_lk => k_is)
    (case f_ld_cd => k_is)
    (case f_ld_kp => k_is)
    (case f_go_ns => k_is)
    (case f_go_lk => k_is)
    (case f_go_cd => k_is)
    (case f_go_kp => k_is)
    (case f_sp_ns => k_is)
    (case f_sp_lk => k_is)
    (case f_sp_cd => k_is)
    (case f_sp_kp => k_is)
    (case f_li_ns => k_is)
    (case f_li_lk => k_is)
    (case f_li_cd => k_is)
    (case f_li_kp => k_is)
    (case f_ri_ns => k_is)
    (case f_ri_lk => k_is)
    (case f_ri_cd => k_is)
    (case f_ri_kp => k_is)
    (case f_wo_ns => k_is)
    (case f_wo_lk => k_is)
    (case f_wo_cd => k_is)
    (case f_wo_kp => k_is)
    (case f_ma_ns => k_is)
    (case f_ma_lk => k_is)
    (case f_ma_cd => k_is)
    (case f_ma_kp => k_is)
    (case f_me_ns => k_is)
    (case f_me_lk => k_is)
    (case f_me_cd => k_is)
    (case f_me_kp => k_is)
    (case f_lh_ns => k_is)
    (case f_lh_lk => k_is)
    (case f_lh_cd => k_is)
    (case f_lh_kp => k_is)
    (case f_hr_ns => k_is)
    (case f_hr_lk => k_is)
    (case f_hr_cd => k_is)
    (case f_hr_kp => k_is)
    (case f_sh_ns => k_is)
    (case f_sh_lk => k_is)
    (case f_sh_cd => k_is)
    (case f_sh_kp => k_is)
    (case f_to_ns => k_is)
    (case f_to_lk => k_is)
    (case f_to_cd => k_is)
    (case f_to_kp => k_is)
    (case f_al_ns => k_is)
    (case f_al_lk => k_is)
    (case f_al_cd => k_is)
    (case f_al_kp => k_is)
    (case f_W_ns => k_is)
    (case f_W_lk => k_is)
    (case f_W_cd => k_is)
    (case f_W_kp => k_is)
    (case z_isinstance => k_is)
    (case z_int => k_is)
    (case z_bool => k_is)
    (case z_len => k_is)
    (case z_abs => k_is)
    (case z_max => k_is)
    (case z_min => k_is)
    (case z_divmod => k_is)
    (case z_range => k_is)
    (case z_repr => k_is)
    (case z_str => k_is)
    (case z_tuple => k_is)
    (case z_ValueError => k_is)

