import PyProof.Rows.All
import Wide.All
import OpenK.AllK
import Wide.FinOn
import HandS.ForMost
import HandS.IsInst
import HandS.Wide
import HandS.WideBits
import HandS.EndBits
import HandS.Style
import HandS.RaiseMore
import PyProof.ReprRoads
import PyProof.ListStr
import HandS.Walk
import PySem.Challenge.RW_lightturns_k11_names
import PyProof.ReprLen
set_option Elab.async false
set_option linter.all false
set_option maxRecDepth 100000
/-! Own layer: defs called where no repr is under way (FnG), repr of data, the end of a law by such a def. -/
namespace LT
open PySem PySem.Spec PyProof.Rows L2

structure FnG (P : Program) (w : World) (K : PySem.W.Frag) (mg : Str → Option Value) (base : Heap)
    (CX : CXT) (k : Nat) (f : Addr) (fd : FuncData) (ps : List Str) (sp : Sp) : Prop where
  argc : ∀ {vs : List V} {H : Hp} {Q : VK} {E : XK}, sp vs H Q E → vs.length = ps.length
  go : ∀ {A : Around} {outer : List Env} {s : Shared} {H : Hp} {args : Args} {us : List Value} {vs : List V}
    {Q : VK} {E : XK}, A.guards = some [] → Room k A → Env0 P w K mg base A outer s H →
    BindsTo s fd args (ps.zip us) → Vals vs us → sp vs H Q E →
    codeAny (model P w) A (.call (.ref f) args) (CR CX outer P w H s Q E) s

section
variable {P : Program} {w : World} {K : PySem.W.Frag} {mg : Str → Option Value} {base : Heap}
theorem FnG.of {CX : CXT} {k : Nat} {f : Addr} {fd : FuncData} {ps : List Str} {sp : Sp}
    (F : FnOk P w K mg base CX k f fd ps sp) : FnG P w K mg base CX k f fd ps sp :=
  ⟨fun h => F.len _ _ _ _ h, fun _ hr e b v h => F.run _ _ _ _ _ _ _ _ _ hr e b v h⟩

theorem okG {x qual : Str} {st : Stmt} {f : Addr} {fd : FuncData} {N ps : List Str} {k : Nat} {sp : Sp}
    (F : Fun K x qual st f fd) (S : FnScope N ps (defScope st))
    (argc : ∀ {vs : List V} {H : Hp} {Q : VK} {E : XK}, sp vs H Q E → vs.length = ps.length)
    (body : ∀ (cdv : Value) (A : Around) (outer : List Env) (s : Shared) (H : Hp) (vs : List V) (Q : VK) (E : XK),
      A.guards = some [] → Room k (A.deeper (envOfC qual (defScope st) s.heap.objs.size f cdv)) → sp vs H Q E →
      ∃ t, PSs (cxOf CX0 P w K mg base N qual (defScope st) f cdv A outer s H E).nox (defBody st) t ∧
        t { nx := fun _ H' => Q .non H', rt := Q } (start N vs) H) :
    FnG P w K mg base CX0 (k + 1) f fd ps sp := by
  obtain ⟨oc, od, kV, doc, pm, an, cdv, ct, osl, rfl, lk, hcd⟩ := F.ex
  refine ⟨argc, ?_⟩
  intro A outer s H args us vs Q E hg hr e0 hb r hsp
  have inS : ∀ b o, base.get? b = some o → s.heap.get? b = some o := fun b o e => (e0.bs b o e).1
  have KX : K.In s.heap := e0.mod.kin.keeps inS
  have hkind : ∀ y ∈ ps.zip us, (defScope st).names.lookup y.1 = some .local ∨
      ((defScope st).names.lookup y.1 = some .cell ∧
        ((cellsFrom (s.heap.objs.size + 1) (defScope st).names []).lookup y.1).isSome = true) := by
    rintro ⟨n, v⟩ hy
    rcases S.par n (List.of_mem_zip hy).1 with q | q
    · exact Or.inl q
    · exact Or.inr ⟨q, PySem.W.cellsFrom_some _ _ _ (Or.inl q)⟩
  refine codeAny_call_function hr.depth (KX _ _ lk) rfl S.co S.gen rfl (PySem.W.codeRec_of KX hcd)
    (hb _ _ _ _ (wpAny_newFunctionEnv_cells S.kind hkind fun env he s1 x => ?_))
  subst he
  refine ⟨(e0.mod.nolimit.keeps inS).keeps x.toInCall.keep, codeAny_func ?_⟩
  obtain ⟨t, ht, hq⟩ := body cdv A outer s H vs Q E hg (hr.deeper _) hsp
  have I := inv_start (CX := CX0) (N := N) (qual := qual) (f := f) (cd := cdv) (E := E) S hr.hd e0 (argc hsp) r x
  refine wpAny_mono (ht.nox.run [] s1 (start N vs) H _ I hq) (fun fl s' hs => ?_) (fun e s' hs => hs)
  cases fl with
  | brk => obtain ⟨_, _, _, q⟩ := hs; exact q.elim
  | cont => obtain ⟨_, _, _, q⟩ := hs; exact q.elim
  | next =>
    obtain ⟨σ', H', J, q⟩ := hs
    exact ⟨V.non, H', J.os, J.bare, J.base, J.hok, rfl, q⟩
  | ret u =>
    obtain ⟨v, σ', H', J, rv, q⟩ := hs
    exact ⟨v, H', J.os, J.bare, J.base, J.hok, rv, q⟩
end

/-! ### the call of such a def -/
section
variable {X : Cx} {CX : CXT} {k : Nat} {f : Addr} {fd : FuncData} {ps : List Str} {sp : Sp} {dvs : List V}
  {ds : List Value} {E : XK} {x : Str} {p pos : Pos} {e : Expr} {es : List Expr} {t : TA}
theorem runG {pins : List (Addr × Obj)} {σ : L2.St} {H : Hp} {s : Shared} {Q : VK} {us : List Value} {vs : List V}
    (F : FnG X.prog X.w X.K X.mg X.base CX k f fd ps sp) (hg : X.A.guards = some []) (hr : Room k X.A)
    (hb : Binds X.K fd ps ds) (hd : Vals dvs ds) (hx : Passes CX X E)
    (I : Inv X pins σ H s) (r : Vals vs us) (h : sp (vs ++ dvs) H Q E) :
    wpAny (model X.prog X.w) X.A (call (.ref f) us) (EP X pins σ Q) X.xe s := by
  have r2 : Vals (vs ++ dvs) (us ++ ds) := r.append hd
  have hl : (us ++ ds).length = ps.length := r2.length.symm.trans (F.argc h)
  refine wpAny_call (codeAny_mono (F.go hg hr I.env0 (hb s us I.kIn hl) r2 h) fun r s' hq => ?_)
  match r, hq with
  | .error e, hq => exact hx pins σ H s e s' I hq
  | .ok (.ret u), hq => exact I.after hq
  | .ok .next, hq => exact hq.elim
  | .ok .brk, hq => exact hq.elim
  | .ok .cont, hq => exact hq.elim
theorem pe_callG (F : FnG X.prog X.w X.K X.mg X.base CX k f fd ps sp) (hG : X.A.guards = some []) (hr : Room k X.A)
    (hg : Gl X x) (hm : X.mg x = some (.ref f)) (hk : PySem.W.keepIn X.K (.ref f) = true) (hb : Binds X.K fd ps ds)
    (hd : Vals dvs ds) (hx : Passes CX X E) (ha : PA X (e :: es) t)
    (hdb : (x == ("__debug__" : Str)) = false := by decide)
    (he : starEach (e :: es) X.env = (false, eval e X.env) :: starEach es X.env := by rfl)
    (hpl : (backTo pos (starEach es X.env)).any (·.1) = false := by rfl) :
    PE X (.Call (.Name x p) (e :: es) [] pos) (tCall sp dvs E t) := by
  refine ⟨fun pins s σ H Q I h => wpAny_Call_Name_kw (ld_glob I hg hm ?_ hdb)⟩
  refine PySem.W.callWith_K (h₀ := X.base) I.ok.mod.kin hk ?_ he hpl
  exact thn (ha.run pos pins s σ H _ I h) fun us s1 ⟨vs, H1, I1, r, q⟩ => ⟨I1.kIn, runG F hG hr hb hd hx I1 r q⟩

/-- f(k = v, ..), keywords alone -/
theorem pe_callKw {ks : List Str} {kws : List Keyword} {tk : TA} {g : List Value → List Value → List Value} {gV : List V → List V → List V}
    (F : FnOk X.prog X.w X.K X.mg X.base CX k f fd ps sp) (hr : Room k X.A) (hg : Gl X x) (hm : X.mg x = some (.ref f))
    (hk : PySem.W.keepIn X.K (.ref f) = true) (hb : KBinds X.K fd ps ks g gV) (hx : Passes CX X E) (hkw : PK X kws tk)
    (hall : (backToKw pos (keywordEach kws X.env)).all (·.1.isSome) = true := by rfl)
    (hks : (backToKw pos (keywordEach kws X.env)).filterMap (·.1) = ks := by rfl)
    (hdb : (x == ("__debug__" : Str)) = false := by decide)
    (hpl : ((backTo pos (starEach [] X.env)).any (·.1) || (backToKw pos (keywordEach kws X.env)).any (·.1.isNone)) = false := by rfl) :
    PE X (.Call (.Name x p) [] kws pos) (tCallK sp gV E tNil tk) := by
  refine ⟨fun pins s σ H Q I h => wpAny_Call_Name_kw (ld_glob I hg hm ?_ hdb)⟩
  refine PySem.W.callWith_KW0 (h₀ := X.base) I.ok.mod.kin hk hall ?_ hpl
  refine thn (hkw.run pos pins s σ H _ I h) fun ws s2 ⟨zs, H2, I2, rz, q2⟩ => ⟨I2.kIn, ?_⟩
  rw [hks]
  exact run_fnk (us := []) F hr hb hx I2 .nil rz q2
/-- positional values, then those of keywords, in the order of the parameters -/
theorem kb_of {K : PySem.W.Frag} {y qual : Str} {st : Stmt} {f : Addr} {fd : FuncData} {ps ks : List Str} (F : Fun K y qual st f fd)
    (h : ∀ (kV doc pm : Value) (an : Option Addr) (cdv ct : Value) (us ws : List Value), (us ++ ws).length = ps.length →
      bindArgs (PySem.W.fnOf y qual (defArgs st) (defBody st) (defScope st) .none kV doc pm an cdv ct) ⟨us, ks.zip ws⟩ = pure (ps.zip (us ++ ws))) :
    KBinds K fd ps ks (· ++ ·) (· ++ ·) := by
  obtain ⟨oc, od, kV, doc, pm, an, cdv, ct, osl, rfl, lk, hcd⟩ := F.ex
  exact ⟨fun s us ws _ hl => .of_eq (h kV doc pm an cdv ct us ws hl), fun r z => r.append z⟩
end

/-! ### repr of data -/
inductive Sh (K : PySem.W.Frag) (H : Hp) : V → PyData → Prop
  | dp {v : V} {d : PyData} : Dp K H v d → d.hasDict = false → Sh K H v d
  | one {a : Addr} {k : Str} {i : Int} : H a = some (.dK [(.inr k, .int i)]) → Sh K H (.ref a) (.dict [(.str k, .int i)])
section
variable {X : Cx} {pins : List (Addr × Obj)} {σ : L2.St} {H : Hp} {s : Shared}
theorem Sh.reads (I : Inv X pins σ H s) {v : V} {d : PyData} {u : Value} (h : Sh X.K H v d) (r : RelV v u) :
    ∃ as, Reads s.heap u d as ∧ (d.hasDict = true → sysModules ∉ as) := by
  cases h with
  | dp h hd =>
    obtain ⟨as, q⟩ := Dp.reads I d v u h r
    exact ⟨as, q, PyData.noDict_hsm hd⟩
  | one h =>
    rename_i a k i
    cases r
    obtain ⟨_, hs, vs, rel, o, es, ep, ho, hx, hd, hko, hp, hn⟩ := I.hok a _ h
    cases rel with
    | cons r1 r2 =>
      cases r2
      rename_i kv
      obtain ⟨kk, uu⟩ := kv
      obtain ⟨e1, t, e2⟩ := r1
      cases e1
      cases e2
      generalize hes : es.toList = l at hp
      cases hp with
      | cons k1 k2 k3 =>
        cases k3
        rename_i e
        have k0 : keyIs (Sum.inr k) e.key = true := k1
        obtain ⟨_, _, z, _⟩ | ⟨y, t', z, e3⟩ := keyIs_shape k0
        · cases z
        · cases z
          refine ⟨_, Reads.dict (as := []) (bs := []) ho hx.1 hd ?_ ?_, fun _ z => ?_⟩
          · rw [hes, List.map_cons, List.map_nil, e3]
            exact ReadsAll.cons (Reads.str _ _) .nil
          · rw [hes, List.map_cons, List.map_nil, k2]
            exact ReadsAll.cons (Reads.int _ _) .nil
          · have z2 : sysModules = a := by simpa using z
            rw [z2] at hs
            simp at hs
theorem call_reprSh (hG : X.A.guards = some []) (hu : X.A.units + 64 < cLine) : CallR X (.builtin "repr")
    (fun xs H Q => ∃ x d, xs = [x] ∧ Sh X.K H x d ∧ d.showable = true ∧ d.depth ≤ 60 ∧ d.shown.length ≤ sizeLine ∧
      Q (.str d.shown) H) := by
  intro pins s σ H xs us Q I r h
  obtain ⟨x, d, rfl, hs, sh, dp, sz, q⟩ := h
  obtain ⟨u, rfl, ru⟩ := vals1 r
  obtain ⟨as, rd, hm⟩ := hs.reads I ru
  cases rd with
  | none => exact PySem.P.repr_of_none ⟨.str _, H, I.tok _, ⟨_, rfl⟩, q⟩
  | bool b => exact PySem.P.repr_of_bool ⟨.str _, H, I.tok _, ⟨_, rfl⟩, q⟩
  | int i t => exact PySem.P.repr_of_int (of_decide_eq_true sh) ⟨.str _, H, I.tok _, ⟨_, rfl⟩, q⟩
  | str y t => exact PySem.P.repr_of_str ⟨.str _, H, I.tok _, ⟨_, rfl⟩, q⟩ sz
  | list h1 h2 h3 h4 =>
    exact repr_of_reads' (.list h1 h2 h3 h4) sh hm hG (by omega) (fun _ _ e => e) (fun h' u tk hk => ⟨.str _, H, I.kept hk, ⟨_, rfl⟩, q⟩) sz
  | tuple h1 h2 h3 h4 =>
    exact repr_of_reads' (.tuple h1 h2 h3 h4) sh hm hG (by omega) (fun _ _ e => e) (fun h' u tk hk => ⟨.str _, H, I.kept hk, ⟨_, rfl⟩, q⟩) sz
  | dict h1 h2 h3 h4 h5 =>
    exact repr_of_reads' (.dict h1 h2 h3 h4 h5) sh hm hG (by omega) (fun _ _ e => e) (fun h' u tk hk => ⟨.str _, H, I.kept hk, ⟨_, rfl⟩, q⟩) sz
end

/-! ### text * number, list(text) -/
section
variable {X : Cx}
theorem rep_list (a : Array Nat) : ∀ (n : Nat) (acc : Array Nat),
    ((List.replicate n a).foldl (· ++ ·) acc).toList = acc.toList ++ (List.replicate n a.toList).flatten
  | 0, acc => by simp
  | n + 1, acc => by
    rw [List.replicate_succ, List.foldl_cons, rep_list a n, List.replicate_succ, List.flatten_cons, Array.toList_append, List.append_assoc]
theorem rep_len (a : Str) (n : Nat) : (Str.mk ((List.replicate n a.cps).foldl (· ++ ·) #[])).length = n * a.length := by
  show Array.size _ = n * a.cps.size
  rw [← Array.length_toList, rep_list]
  simp [List.sum_replicate_nat]
theorem op_mul_str : OpR X (binaryOp .Mult) (fun x y H Q => ∃ (a : Str) (n : Int), x = .str a ∧ y = .int n ∧ 2 ≤ n ∧ n ≤ 1000 ∧ 1 ≤ a.length ∧ a.length ≤ 1000 ∧
    Q (.str ⟨(List.replicate n.toNat a.cps).foldl (· ++ ·) #[]⟩) H) := by
  intro pins s σ H x y v u Q I rx ry h
  obtain ⟨a, n, rfl, rfl, h2, hn, h1, ha, q⟩ := h
  obtain ⟨t, rfl⟩ := rx
  obtain ⟨t', rfl⟩ := ry
  have hz : a.length * n.toNat ≤ 1000000 := Nat.le_trans (Nat.mul_le_mul ha (show n.toNat ≤ 1000 by omega)) (by decide)
  refine PySem.P.mul_str ?_ (fun _ _ => ?_) (fun _ _ => ?_) ?_
  · rw [decide_eq_false (by omega), decide_eq_false (by omega)]
    rfl
  · have h3 : (1000 : Int) ≤ (2 ^ 63 - 1) / n := by
      rw [Int.le_ediv_iff_mul_le (by omega)]
      omega
    omega
  · exact decide_eq_false (by rw [sizeLine_eq]; omega)
  · rw [if_neg (by omega), if_neg]
    · refine ⟨?_, .str _, H, I.tok _, ⟨_, rfl⟩, q⟩
      rw [rep_len, sizeLine_eq, Nat.mul_comm]
      omega
    · rw [Bool.or_eq_true, beq_iff_eq, beq_iff_eq]
      omega
theorem paired_of {α β : Type} {R : α → β → Prop} : ∀ {xs : List α} {ys : List β}, xs.length = ys.length →
    (∀ (j : Nat) x y, xs[j]? = some x → ys[j]? = some y → R x y) → Paired R xs ys
  | [], [], _, _ => .nil
  | [], _ :: _, h, _ => by cases h
  | _ :: _, [], h, _ => by cases h
  | x :: xs, y :: ys, h, f => .cons (f 0 x y rfl rfl) (paired_of (Nat.succ.inj h) fun j a b h1 h2 => f (j + 1) a b h1 h2)
theorem call_list_txt (hc : X.calm = true) : CallR X (.type "list") (fun xs H Q => ∃ (a : Str), xs = [.str a] ∧ a.length ≤ sizeLine ∧
    ∀ l, H l = none → Q (.ref l) (upd H l (.lst (a.cps.toList.map fun c => V.str ⟨#[c]⟩)))) := by
  intro pins s σ H xs us Q I r h
  obtain ⟨a, rfl, hl, q⟩ := h
  obtain ⟨u, rfl, t, rfl⟩ := vals1 r
  refine call_list_str (I.ok.hd hc) a t (hn := hl) fun h' tk acc c hk ho hit => ?_
  have hn : H s.heap.objs.size = none := I.hok.fresh (Nat.le_refl _)
  refine ⟨.ref s.heap.objs.size, _, I.laid (t' := tk) hk (Nat.le_refl _) ?_, rfl, q _ hn⟩
  refine ⟨?_, acc.toList, c, ?_, by simpa using ho⟩
  · rw [List.length_map, Array.length_toList]
    exact hl
  · refine paired_of (by rw [List.length_map, Array.length_toList, Array.length_toList, hit.1]) fun j v u h1 h2 => ?_
    rw [List.getElem?_map, Array.getElem?_toList] at h1
    obtain ⟨d, t', h3, rfl⟩ := hit.2 j u (by rw [← Array.getElem?_toList]; exact h2)
    rw [h3] at h1
    cases h1
    exact ⟨t', rfl⟩
end

/-! ### the end of a law whose def wants that no repr is under way -/
theorem end_call {P : Program} {w : World} {K : PySem.W.Frag} {mg mb : Str → Option Value} {CX : CXT} {k : Nat} {fa a : Addr}
    {fd : FuncData} {x : Str} {sp : Sp} {s₁ : Shared} {vs : List Value} {ns : List Int}
    (KX : K.In s₁.heap) (hns : s₁.heap.Ns mainGlobals mg) (hb : s₁.heap.Ns builtinsNs mb)
    (hbb : ∀ x : Str, x ≠ "__name__" → mb x = bootBuiltins x) (hlim : s₁.heap.NoLimit) (hg : s₁.gens = #[])
    (ha : s₁.heap.get? a = some { cls := .type "list", data := .seq vs.toArray }) (hi : IntsAre vs ns)
    (hl : ns.length ≤ sizeLine) (hr : Room k callerA)
    (F : ∀ base : Heap, K.In base → base.Ns mainGlobals mg → FnG P w K mg base CX k fa fd [x] sp)
    (hbind : ∀ (s : Shared) (u : Value), BindsTo s fd ⟨[u], []⟩ [(x, u)])
    (hsp : ∀ H : Hp, Only H → SqL K H a (ns.map V.int) → sp [.ref a] H (fun v _ => v = .bl true) fun _ _ _ => False)
    (hCX : ∀ H e s', CX [] H s₁ (fun _ _ _ => False) e s' → False) :
    codeAny (model P w) callerA (.call (.ref fa) ⟨[.ref a], []⟩)
      (fun r s' => r = .ok (.ret (.bool true)) ∧ OldK s₁.heap s'.heap ∧ s'.os = s₁.os ∧ AllBare s'.gens) s₁ := by
  have lenV := hi.length
  have start : ∀ H : Hp, Only H → SqL K H a (ns.map V.int) → HOk P w H s₁.heap → (∀ b, H b ≠ none → b = a) →
      (H a ≠ none → K.lookup a = none) → codeAny (model P w) callerA (.call (.ref fa) ⟨[.ref a], []⟩)
        (fun r s' => r = .ok (.ret (.bool true)) ∧ OldK s₁.heap s'.heap ∧ s'.os = s₁.os ∧ AllBare s'.gens) s₁ := by
    intro H hO hS hok hA hK
    have free : ∀ {b : Addr}, (b = a → False) → H b = none := fun {b} hne => by
      cases q : H b with
      | none => rfl
      | some u => exact (hne (hA b (by rw [q]; exact Option.some_ne_none u))).elim
    have nsK : ∀ {b : Addr} {m : Str → Option Value}, s₁.heap.Ns b m → (hidT s₁.heap H).Ns b m := by
      rintro b m ⟨o, es, ep, e, d, r⟩
      refine ⟨o, es, ep, hidT_get e (free fun z => ?_), d, r⟩
      subst z
      rw [ha] at e
      cases e
      cases d
    have inK : K.In (hidT s₁.heap H) := fun b o e => hidT_get (KX b o e) (by
      cases q : H b with
      | none => rfl
      | some u =>
        obtain rfl : b = a := hA b (by rw [q]; exact Option.some_ne_none u)
        have z := hK (by rw [q]; exact Option.some_ne_none u)
        rw [z] at e
        cases e)
    have hM : Mod K mg (hidT s₁.heap H) := ⟨inK, nsK hns, ⟨mb, nsK hb, hbb⟩, hlim.imp fun _ z => ⟨nsK z.1, z.2⟩⟩
    have e0 : Env0 P w K mg (hidT s₁.heap H) callerA [] s₁ H :=
      ⟨rfl, hM, fun b o e => of_hidT e, Nat.le_of_eq (hidT_size _ _), trivial,
        fun b z => absurd (show b ∈ ([] : List Addr) from z) List.not_mem_nil, hok, .of_eq hg⟩
    refine codeAny_mono ((F _ inK (nsK hns)).go (us := [.ref a]) (vs := [.ref a]) rfl hr e0 (hbind s₁ (.ref a)) (.cons rfl .nil) (hsp H hO hS)) fun r s' h => ?_
    match r, h with
    | .error e, h => exact (hCX H e s' h).elim
    | .ok .next, h => exact h.elim
    | .ok .brk, h => exact h.elim
    | .ok .cont, h => exact h.elim
    | .ok (.ret u), h =>
      obtain ⟨v, H', os, bare, un, hok', r', rfl⟩ := h
      obtain rfl : u = Value.bool true := r'
      refine ⟨rfl, OldK.of_keep fun b o e => ?_, os, bare⟩
      rcases hO b with z | ⟨ob, xs, z⟩
      · exact un.keep b o e z (fun y => absurd (show b ∈ ([] : List Addr) from y) List.not_mem_nil) List.not_mem_nil
      · have z1 := (hok b _ z).1
        rw [e] at z1
        cases z1
        exact (hok' b _ (un.frzs b _ _ z)).1
  cases hk : K.lookup a with
  | some o =>
    have e := KX a o hk
    rw [ha] at e
    cases e
    refine start (fun _ => none) (fun _ => .inl rfl) (.inr ⟨_, vs.toArray, _, hk, rfl, rfl, rfl, ?_, by simpa using vals_ints hi⟩)
      (fun b u z => nomatch z) (fun b z => absurd rfl z) fun z => absurd rfl z
    rw [List.size_toArray, lenV]
    exact hl
  | none =>
    refine start (upd (fun _ => none) a (.frz { cls := .type "list", data := .seq vs.toArray } (.lst (ns.map V.int))))
      (fun b => ?_) (.inl (.inr ⟨_, upd_same⟩)) (fun b u z => ?_) (fun b z => ?_) fun _ => hk
    · by_cases q : b = a
      · exact .inr ⟨_, _, by rw [q]; exact upd_same⟩
      · exact .inl (upd_ne q)
    · by_cases q : b = a
      · subst q
        rw [upd_same] at z
        cases z
        exact ⟨ha, by rw [List.length_map]; exact hl, vs, _, vals_ints hi, ha⟩
      · rw [upd_ne q] at z
        cases z
    · by_cases q : b = a
      · exact q
      · exact absurd (upd_ne q) z

theorem end_of {l : PySem.W.OpenLaw} {n k : Nat} {q : Program} {loose : List Str} {XP : (Str → Option Value) → Heap → Prop}
    {YP : World → Heap → Prop} {d : DefRec} {K : Params → PySem.W.Frag} {CX : World → CXT} {sp : World → Sp} {x : Str}
    (hn : l.most = some n) (hn2 : n ≤ sizeLine) (hdf : d.params.defaults = []) (hr : Room k callerA)
    (hY : ∀ (w : World) (h : Heap), YP w h → (K w.params).In h)
    (F : ∀ (w : World) (mg : Str → Option Value) (fa : Addr) (h : Heap), (K w.params).In h → h.Ns mainGlobals mg →
      mg d.name = some (.ref fa) → ∃ fd : FuncData, (∀ (s : Shared) (u : Value), BindsTo s fd ⟨[u], []⟩ [(x, u)]) ∧
        ∀ base : Heap, (K w.params).In base → base.Ns mainGlobals mg →
          FnG l.prog w (K w.params) mg base (CX w) k fa fd [x] (sp w))
    (hsp : ∀ (w : World) (H : Hp) (a : Addr) (ns : List Int), ns.length ≤ n →
      (∀ z ∈ ns, Builtin.Int.intBits z ≤ 1048576) → Only H → SqL (K w.params) H a (ns.map V.int) →
      sp w [.ref a] H (fun v _ => v = .bl true) fun _ _ _ => False)
    (hCX : ∀ (w : World) (H : Hp) (s : Shared) (e : Value) (s' : Shared), CX w [] H s (fun _ _ _ => False) e s' → False) :
    PySem.W.WalkO q loose XP YP l.row.toRowW d [] (fun f vs => PySem.call f vs) :=
  Att.attach_callB hn hdf fun w _ s₁ mg mb fa o pm cd doc a vs ns G Y ho hd hcd hmg hobj hints hlen hbits hg => by
    obtain ⟨fd, hb, hF⟩ := F w mg fa _ (hY w _ Y) G.T.g hmg
    exact end_call (hY w _ Y) G.T.g G.T.b G.T.builtins G.T.nolimit hg hobj hints (Nat.le_trans hlen hn2) hr hF hb
      (fun H hO hS => hsp w H a ns hlen hbits hO hS) fun H e s' => hCX w H s₁ e s'
end LT

set_option Elab.async false
set_option linter.all false
set_option maxRecDepth 100000
namespace K11
open PySem PySem.Spec PyProof.Rows L2 LT
def topS (i : Nat) : Stmt := PySem.Challenge.pw_lightturns_k11_names.main.body.getD i (.Pass ⟨0, 0, 0, 0⟩)
abbrev sIs : Stmt := topS 3
abbrev sCell : Stmt := topS 5
abbrev sPot : Stmt := topS 6
abbrev sTake : Stmt := topS 7
abbrev sName : Stmt := topS 8
abbrev sSign : Stmt := topS 9
abbrev sThing : Stmt := topS 10
abbrev sLis : Stmt := topS 11
abbrev sLaw : Stmt := topS 12
theorem scIs : FnScope ["thing", "letter"] ["thing"] (defScope sIs) := ⟨rfl, rfl, rfl, by decide +kernel, rfl, by decide +kernel, by decide +kernel⟩
/-! names of the built-ins, the two constants -/
structure Tx (mg : Str → Option Value) (tS tL : Tok) : Prop where
  isi : mg "isinstance" = none
  str : mg "str" = none
  len : mg "len" = none
  all : mg "all" = none
  mgS : mg "SMALL_LETTERS" = some (.str "abcdefghijklmnopqrstuvwxyz" tS)
  mgL : mg "LONGEST_NAME" = some (.int 8 tL)
  abs : mg "abs" = none
  max : mg "max" = none
  min : mg "min" = none
  divmod : mg "divmod" = none
  range : mg "range" = none
  list : mg "list" = none
  int : mg "int" = none
  repr : mg "repr" = none
  bool : mg "bool" = none
/-- all signs are plain -/
def Low (z : Str) : Prop := ∀ c ∈ z.cps.toList, c < 128
/-! what is handed in -/
inductive Th (H : Hp) : V → Prop
  | non : Th H .non
  | bl (b : Bool) : Th H (.bl b)
  | int (i : Int) : Th H (.int i)
  | str (z : Str) : z.length ≤ 1000 → Low z → Th H (.str z)
  | lst {a : Addr} {xs : List V} : H a = some (.lst xs) → Th H (.ref a)
  | tup {a : Addr} {xs : List V} : H a = some (.tup xs) → Th H (.ref a)
  | dK {a : Addr} {kvs : List (Key × V)} : H a = some (.dK kvs) → Th H (.ref a)
def isStr : V → Bool
  | .str _ => true
  | _ => false
theorem Th.isi {K : PySem.W.Frag} {H : Hp} {v : V} (h : Th H v) : ∃ t, TyX K H v t ∧ PySem.W.kitOne K t (.type "str") = some (isStr v) := by
  cases h with
  | non => exact ⟨_, .base .non, kit_ty (by decide +kernel)⟩
  | bl b => exact ⟨_, .base (.bl b), kit_ty (show kitB "bool" "str" = some false by decide +kernel)⟩
  | int i => exact ⟨_, .base (.int i), kit_ty (show kitB "int" "str" = some false by decide +kernel)⟩
  | str z _ _ => exact ⟨_, .base (.str z), kit_ty (show kitB "str" "str" = some true by decide +kernel)⟩
  | lst e => exact ⟨_, .base (.lst e), kit_ty (show kitB "list" "str" = some false by decide +kernel)⟩
  | tup e => exact ⟨_, .base (.tup e), kit_ty (show kitB "tuple" "str" = some false by decide +kernel)⟩
  | dK e => exact ⟨_, .base (.dK e), kit_ty (show kitB "dict" "str" = some false by decide +kernel)⟩
theorem Th.mono {H H' : Hp} (s : Same H H') {v : V} (h : Th H v) : Th H' v := by
  cases h with
  | non => exact .non
  | bl b => exact .bl b
  | int i => exact .int i
  | str z h l => exact .str z h l
  | lst e => exact .lst (s _ _ e)
  | tup e => exact .tup (s _ _ e)
  | dK e => exact .dK (s _ _ e)
def small (c : Nat) : Bool := decide (97 ≤ c) && decide (c ≤ 122)
def nameB : V → Bool
  | .str z => decide (1 ≤ z.length) && decide (z.length ≤ 8) && z.cps.toList.all small
  | _ => false
theorem letters : (Str.ofString "abcdefghijklmnopqrstuvwxyz").cps.toList = List.range' 97 26 := by decide +kernel
theorem small_mem (c : Nat) : decide (c ∈ (Str.ofString "abcdefghijklmnopqrstuvwxyz").cps.toList) = small c := by
  rw [letters]
  unfold small
  rw [Bool.eq_iff_iff, decide_eq_true_iff, List.mem_range'_1, Bool.and_eq_true, decide_eq_true_iff, decide_eq_true_iff]
  omega
theorem same_upd {H : Hp} {p : Addr} {o : HO} (h : H p = none) : Same H (upd H p o) := fun b x e => by
  rw [upd_ne (ne_of_none e h)]
  exact e
theorem same_app {H H1 : Hp} {p : Addr} {o : HO} (h : H p = none) (s : Same H H1) : Same H (upd H1 p o) := fun b x e => by
  rw [upd_ne (ne_of_none e h)]
  exact s _ _ e
theorem take_more {α β : Type} (f : α → β) {xs : List α} {i : Nat} {x : α} (h : xs[i]? = some x) : (xs.take i).map f ++ [f x] = (xs.take (i + 1)).map f := by
  rw [List.take_add_one, h, List.map_append]
  rfl
section
variable {P : Program} {w : World} {K : PySem.W.Frag} {mg : Str → Option Value} {base : Heap} {tS tL : Tok}
def spIs : Sp := fun vs H Q _ => ∃ v, vs = [v] ∧ Th H v ∧ ∀ H', Same H H' → Q (.bl (nameB v)) H'
theorem ok_is {f : Addr} {fd : FuncData} {k : Nat} (F : Fun K "is_name" "is_name" sIs f fd) (T : Tx mg tS tL) : FnOk P w K mg base CX0 (k + 1) f fd ["thing"] spIs := by
  refine F.ok scIs (fun vs H Q E h => ?_) (fun cdv A outer s H vs Q E hr h => ?_)
  · obtain ⟨v, rfl, _⟩ := h
    rfl
  · obtain ⟨v, rfl, hv, q⟩ := h
    refine ⟨_, pss_cons (ps_if (pt_not (pt_val (pe_callB call_isi (by rfl) T.isi (by decide +kernel) (pa_cons (pv 0) (pa_cons (pe_bltn (v := .ty "str") (by rfl) T.str (by decide +kernel) rfl) pa_nil))))) (pss_one (ps_ret pe_bl)) pss_nil)
      (pss_cons (ps_if (pt_not (pt_chain op_le op_le pe_int (pe_callB call_len_str (by rfl) T.len PySem.boot_len (pa_cons (pv 0) pa_nil)) (pe_glob (v := .int 8) (by rfl) T.mgL ⟨_, rfl⟩))) (pss_one (ps_ret pe_bl)) pss_nil)
      (pss_one (ps_ret (pe_callB (cr_all rfl) (by rfl) T.all (by decide +kernel) (pa_cons
        (pe_lc (own := [("letter", 1)]) (g := gName 1) (tt := tYes) rfl scIs.nd (pi_str (pv 0)) (blkOk_by (N := ["thing", "letter"]) (sc := defScope sIs) (by decide +kernel))
          (fun _ _ _ _ _ => pg_name (i := 1) scIs.nd rfl (Or.inl rfl)) (fun _ _ _ _ _ => pts_nil)
          (fun _ _ _ _ _ => pe_cmpR op_in_sign (pv 1) (pe_glob (v := .str "abcdefghijklmnopqrstuvwxyz") (by rfl) T.mgS ⟨_, rfl⟩) (by rfl))) pa_nil))))), ?_⟩
    obtain ⟨t, ty, kt⟩ := hv.isi (K := K)
    refine ⟨_, rfl, v, .ty "str", t, _, isStr v, rfl, .ty _, ty, kt, _, rfl, ?_⟩
    cases hb : isStr v with
    | false =>
      refine iteT ?_
      have e : nameB v = false := by cases v <;> first | rfl | cases hb
      rw [e] at q
      exact q H (Same.refl H)
    | true =>
      refine iteF ?_
      obtain ⟨z, rfl, hz⟩ : ∃ z, v = .str z ∧ z.length ≤ 1000 := by
        cases hv with
        | str z hz _ => exact ⟨z, rfl, hz⟩
        | _ => cases hb
      refine ⟨_, rfl, z, rfl, Nat.le_of_lt (small1000 hz), _, _, rfl, rfl, _, rfl, ?_⟩
      by_cases h1 : (1 : Int) ≤ (z.length : Nat)
      · rw [if_pos (decide_eq_true h1)]
        refine ⟨_, _, rfl, rfl, _, rfl, ?_⟩
        by_cases h8 : ((z.length : Nat) : Int) ≤ 8
        · rw [decide_eq_true h8]
          refine iteF ?_
          -- all([..])
          refine ⟨_, rfl, z, rfl, fun D nD => ?_⟩
          refine lc_it walk_str (fun i H' => Same H H' ∧ H' D = some (.lst ((z.cps.toList.take i).map fun c => V.bl (small c)))) ⟨same_upd nD, upd_same⟩ (fun _ _ _ _ => trivial) ?_ ?_
          · rintro i x H1 H2 hi ⟨sm, eD⟩ ⟨rfl, c, hc, rfl⟩
            refine ⟨rfl, ?_⟩
            refine ⟨_, rfl, c, _, rfl, rfl, _, eD, ?_, same_app nD sm, ?_⟩
            · rw [List.length_map, List.length_take]
              exact Nat.lt_of_le_of_lt (Nat.min_le_left _ _) (small1000 (Nat.le_trans (Nat.le_of_lt hi) hz))
            · rw [upd_same, small_mem, take_more _ (by rw [Array.getElem?_toList]; exact hc)]
          · rintro H1 ⟨sm, eD⟩
            rw [← Array.length_toList, List.take_length] at eD
            refine ⟨D, z.cps.toList.map small, rfl, .inl (.inl (by rw [eD, List.map_map]; rfl)), ?_⟩
            have e : nameB (.str z) = (z.cps.toList.map small).all id := by
              show (decide (1 ≤ z.length) && decide (z.length ≤ 8) && z.cps.toList.all small) = _
              rw [decide_eq_true (show 1 ≤ z.length by omega), decide_eq_true (show z.length ≤ 8 by omega), List.all_map]
              rfl
            rw [← e]
            exact q _ sm
        · rw [decide_eq_false h8]
          refine iteT ?_
          have e : nameB (.str z) = false := by
            show (decide (1 ≤ z.length) && decide (z.length ≤ 8) && z.cps.toList.all small) = _
            rw [decide_eq_false (show ¬ z.length ≤ 8 by omega), Bool.and_false, Bool.false_and]
          rw [e] at q
          exact q H (Same.refl H)
      · rw [if_neg (by rw [decide_eq_false h1]; exact Bool.false_ne_true)]
        refine ⟨_, rfl, ?_⟩
        refine iteT ?_
        have e : nameB (.str z) = false := by
          show (decide (1 ≤ z.length) && decide (z.length ≤ 8) && z.cps.toList.all small) = _
          rw [decide_eq_false (show ¬ 1 ≤ z.length by omega), Bool.false_and, Bool.false_and]
        rw [e] at q
        exact q H (Same.refl H)
end
end K11

set_option Elab.async false
set_option linter.all false
set_option maxRecDepth 100000
namespace K11
open PySem PySem.Spec PyProof.Rows L2 LT
theorem scCell : FnScope ["_law_script", "_law_k"] ["_law_script", "_law_k"] (defScope sCell) := ⟨rfl, rfl, rfl, by decide +kernel, rfl, by decide +kernel, by decide +kernel⟩
theorem scPot : FnScope ["_law_script", "_law_k", "_law_cell_here"] ["_law_script", "_law_k"] (defScope sPot) := ⟨rfl, rfl, rfl, by decide +kernel, rfl, by decide +kernel, by decide +kernel⟩
theorem scTake : FnScope ["_law_pot_here", "_law_room", "_law_digit"] ["_law_pot_here", "_law_room"] (defScope sTake) := ⟨rfl, rfl, rfl, by decide +kernel, rfl, by decide +kernel, by decide +kernel⟩
section
variable {P : Program} {w : World} {K : PySem.W.Frag} {mg : Str → Option Value} {base : Heap} {tS tL : Tok}
/-- a cell of the script -/
def spCell (K : PySem.W.Frag) : Sp := fun vs H Q _ => ∃ (a : Addr) (ns : List Int) (k : Nat), vs = [.ref a, .int (k : Nat)] ∧ SqL K H a (ns.map V.int) ∧
  ∀ z : Int, (z = 0 ∨ z ∈ ns) → Q (.int z) H
theorem ok_cell {f : Addr} {fd : FuncData} {k : Nat} (F : Fun K "_law_cell" "_law_cell" sCell f fd) (T : Tx mg tS tL) : FnOk P w K mg base CX0 (k + 1) f fd ["_law_script", "_law_k"] (spCell K) := by
  refine F.ok scCell (fun vs H Q E h => ?_) (fun cdv A outer s H vs Q E hr h => ?_)
  · obtain ⟨a, ns, k, rfl, _⟩ := h
    rfl
  · obtain ⟨a, ns, k, rfl, hS, q⟩ := h
    refine ⟨_, pss_one (ps_ret (pe_ifExp (pt_cmpR op_lt (pv 1) (pe_callB call_len_seq (by rfl) T.len PySem.boot_len (pa_cons (pv 0) pa_nil)) (nomark _))
      (pe_ix ix_list (pv 0) (pv 1) (fun _ _ => rfl)) pe_int)), ?_⟩
    refine ⟨_, rfl, _, rfl, a, _, rfl, .inl hS, _, _, rfl, rfl, _, rfl, ?_⟩
    by_cases hk : k < ns.length
    · rw [decide_eq_true (show ((k : Nat) : Int) < ((ns.map V.int).length : Nat) by rw [List.length_map]; omega)]
      refine iteT ?_
      refine ⟨_, rfl, _, rfl, a, _, _, .int ns[k], rfl, rfl, hS, atI_nat (by rw [List.getElem?_map, List.getElem?_eq_getElem hk]; rfl), ?_⟩
      exact q _ (.inr (List.getElem_mem hk))
    · rw [decide_eq_false (show ¬ ((k : Nat) : Int) < ((ns.map V.int).length : Nat) by rw [List.length_map]; omega)]
      exact iteF (q 0 (.inl rfl))
/-- a pot: two numbers -/
def Pot (H : Hp) (p : Addr) : Prop := ∃ a b : Int, H p = some (.lst [.int a, .int b]) ∧ 0 ≤ a ∧ 0 ≤ b ∧ b < 2147483647
def spPot (K : PySem.W.Frag) : Sp := fun vs H Q _ => ∃ (a : Addr) (ns : List Int) (k : Nat), vs = [.ref a, .int (k : Nat)] ∧ SqL K H a (ns.map V.int) ∧ k ≤ 1000 ∧
  ∀ p H', H p = none → Same H H' → Pot H' p → Q (.ref p) H'
theorem ok_pot {f fC : Addr} {fd fdC : FuncData} {k : Nat} (F : Fun K "_law_pot" "_law_pot" sPot f fd) (T : Tx mg tS tL) (FC : Fun K "_law_cell" "_law_cell" sCell fC fdC) (bC : L2.Binds K fdC ["_law_script", "_law_k"] []) (gC : mg "_law_cell" = some (.ref fC)) :
    FnOk P w K mg base CX0 (k + 2) f fd ["_law_script", "_law_k"] (spPot K) := by
  have GC : FnOk P w K mg base CX0 (k + 1) fC fdC ["_law_script", "_law_k"] (spCell K) := ok_cell FC T
  refine F.ok scPot (fun vs H Q E h => ?_) (fun cdv A outer s H vs Q E hr h => ?_)
  · obtain ⟨a, ns, k, rfl, _⟩ := h
    rfl
  · obtain ⟨a, ns, k, rfl, hS, hk, q⟩ := h
    refine ⟨_, pss_cons (ps_set (i := 2) scPot.nd rfl (.inl rfl) (pe_callB call_abs (by rfl) T.abs (by decide +kernel) (pa_cons (pe_call GC hr (by rfl) gC FC.kp bC .nil pass0 (pa_cons (pv 0) (pa_cons (pv 1) pa_nil))) pa_nil)))
      (pss_one (ps_ret (pe_lst (pa_cons (pe_callB (call_max2 rfl) (by rfl) T.max (by decide +kernel) (pa_cons pe_int (pa_cons (pe_op op_sub (pv 2) (pe_op op_pow pe_int pe_int)) pa_nil)))
        (pa_cons (pe_op op_mod (pe_op op_add (pe_op op_add (pe_op op_add (pe_op op_mul (pe_op op_mod (pv 2) pe_int) pe_int) (pe_op op_mul (pe_op op_mul pe_int (pv 1)) (pv 1))) (pe_op op_mul pe_int (pv 1))) pe_int) pe_int) pa_nil))))), ?_⟩
    refine ⟨_, rfl, _, rfl, a, ns, k, rfl, hS, fun z hz => ?_⟩
    refine ⟨z, rfl, ?_⟩
    have hk0 : (0 : Int) ≤ (k : Nat) := Int.natCast_nonneg k
    have hk1 : ((k : Nat) : Int) ≤ 1000 := by omega
    have hm := Int.emod_nonneg (if z < 0 then -z else z) (show (2147483563 : Int) ≠ 0 by decide)
    have hm2 := Int.emod_lt_of_pos (if z < 0 then -z else z) (show (0 : Int) < 2147483563 by decide)
    refine ⟨_, rfl, _, _, rfl, rfl, ⟨by decide, by decide, by decide⟩, _, _, rfl, rfl, 0, _, rfl, ?_⟩
    refine ⟨_, rfl, _, _, rfl, rfl, by show (0 : Int) < 2147483563; decide, _, _, rfl, rfl, .inl ⟨by omega, by omega⟩, ?_⟩
    refine ⟨_, rfl, _, _, rfl, rfl, .inl ⟨by decide, by decide⟩, _, rfl, _, _, rfl, rfl, .inr ⟨by omega, by omega⟩, _, _, rfl, rfl, ?_⟩
    refine ⟨_, rfl, _, _, rfl, rfl, .inl ⟨by decide, by decide⟩, _, _, rfl, rfl, _, _, rfl, rfl, _, _, rfl, rfl, by show (0 : Int) < 2147483563; decide, ?_⟩
    refine ⟨by show 2 ≤ sizeLine; decide, fun l nl => q l _ nl (same_upd nl) ⟨_, _, upd_same, ?_, Int.emod_nonneg _ (by decide), Int.lt_trans (Int.emod_lt_of_pos _ (by decide)) (by decide)⟩⟩
    split <;> omega
/-- all but what stands at p is as it was -/
def SameB (p : Addr) (H H' : Hp) : Prop := ∀ b o, b ≠ p → H b = some o → H' b = some o
theorem SameB.trans {p : Addr} {H H1 H2 : Hp} (a : SameB p H H1) (b : SameB p H1 H2) : SameB p H H2 := fun c o n h => b c o n (a c o n h)
theorem SameB.of {p : Addr} {H H' : Hp} (s : Same H H') : SameB p H H' := fun b o _ e => s b o e
theorem SameB.upd {p : Addr} {H H' : Hp} {o : HO} (s : SameB p H H') : SameB p H (upd H' p o) := fun b x n e => by
  rw [upd_ne n]
  exact s b x n e
theorem SameB.new {p q : Addr} {H H' : Hp} {o : HO} (h : H q = none) (s : SameB p H H') : SameB p H (L2.upd H' q o) := fun b x n e => by
  rw [upd_ne (ne_of_none e h)]
  exact s b x n e
/-- a draw from a pot -/
def spTake : Sp := fun vs H Q _ => ∃ (p : Addr) (r : Int), vs = [.ref p, .int r] ∧ Pot H p ∧ 0 < r ∧ r ≤ 1000000000 ∧
  ∀ (d : Int) (H' : Hp), 0 ≤ d → d < r → Pot H' p → SameB p H H' → Q (.int d) H'
theorem ok_take {f : Addr} {fd : FuncData} {k : Nat} (F : Fun K "_law_take" "_law_take" sTake f fd) (T : Tx mg tS tL) : FnOk P w K mg base CX0 (k + 1) f fd ["_law_pot_here", "_law_room"] spTake := by
  refine F.ok scTake (fun vs H Q E h => ?_) (fun cdv A outer s H vs Q E hr h => ?_)
  · obtain ⟨p, r, rfl, _⟩ := h
    rfl
  · obtain ⟨p, r, rfl, ⟨a, b, hp, a0, b0, bB⟩, r0, r1, q⟩ := h
    refine ⟨_, pss_cons (ps_if (pt_cmpR op_gt (pe_ix ix_list (pv 0) pe_int (fun _ _ => rfl)) pe_int (nomark _))
        (pss_cons (ps_asg (pe_callB call_divmodW (by rfl) T.divmod (by decide +kernel) (pa_cons (pe_ix ix_list (pv 0) pe_int (fun _ _ => rfl)) (pa_cons (pv 1) pa_nil)))
            (pg_tup rfl (pgs_cons (pg_sub (pv 0) pe_int set_list) (pgs_cons (pg_name (i := 2) scTake.nd rfl (.inl rfl)) pgs_nil))))
          (pss_one (ps_ret (pv 2)))) pss_nil)
      (pss_cons (ps_asg (pe_op op_mod (pe_op op_add (pe_op op_mul (pe_ix ix_list (pv 0) pe_int (fun _ _ => rfl)) pe_int) pe_int) pe_int) (pg_sub (pv 0) pe_int set_list))
        (pss_one (ps_ret (pe_op op_mod (pe_op op_fdiv (pe_op op_mod (pe_op op_mul (pe_ix ix_list (pv 0) pe_int (fun _ _ => rfl)) (pe_ix ix_list (pv 0) pe_int (fun _ _ => rfl))) pe_int) pe_int) (pv 1))))), ?_⟩
    refine ⟨_, rfl, p, _, 0, _, rfl, rfl, SqL.of hp, atI_nat (j := 0) rfl, _, _, rfl, rfl, _, rfl, ite2 (fun h => ?_) (fun h => ?_)⟩
    · have ha : 0 < a := of_decide_eq_true h
      refine ⟨_, rfl, p, _, 0, _, rfl, rfl, SqL.of hp, atI_nat (j := 0) rfl, _, rfl, a, r, rfl, ⟨r0, PyProof.noPylong_small (by omega)⟩, fun t nt => ?_⟩
      have npt : p ≠ t := ne_of_none hp nt
      have hp2 : (upd H t (.tup [.int (a / r), .int (a % r)])) p = some (.lst [.int a, .int b]) := by
        rw [upd_ne npt]
        exact hp
      refine ⟨t, _, rfl, SqT.of upd_same, rfl, _, _, rfl, ?_⟩
      refine ⟨_, rfl, p, _, 0, 0, rfl, rfl, hp2, rfl, _, _, rfl, rfl, ?_⟩
      refine ⟨_, rfl, q _ _ (Int.emod_nonneg _ (by omega)) (Int.emod_lt_of_pos _ r0) ⟨_, _, upd_same, Int.ediv_nonneg a0 (by omega), b0, bB⟩ (SameB.upd (SameB.new nt (SameB.of (Same.refl H))))⟩
    · refine ⟨_, rfl, p, _, 1, _, rfl, rfl, SqL.of hp, atI_nat (j := 1) rfl, _, _, rfl, rfl, .inl ⟨by omega, by omega⟩, _, _, rfl, rfl, _, _, rfl, rfl, by show (0 : Int) < 2147483647; decide, ?_⟩
      refine ⟨_, rfl, p, _, 1, 1, rfl, rfl, hp, rfl, ?_⟩
      have n0 := Int.emod_nonneg (b * 48271 + 12347) (show (2147483647 : Int) ≠ 0 by decide)
      have n1 := Int.emod_lt_of_pos (b * 48271 + 12347) (show (0 : Int) < 2147483647 by decide)
      refine ⟨_, rfl, p, _, 1, _, rfl, rfl, SqL.of upd_same, atI_nat (j := 1) rfl, _, rfl, p, _, 1, _, rfl, rfl, SqL.of upd_same, atI_nat (j := 1) rfl, _, _, rfl, rfl, .inl ⟨by omega, by omega⟩, ?_⟩
      refine ⟨_, _, rfl, rfl, by show (0 : Int) < 2147483629; decide, _, _, rfl, rfl, ⟨by decide, by decide⟩, _, rfl, _, _, rfl, rfl, r0, ?_⟩
      exact q _ _ (Int.emod_nonneg _ (by omega)) (Int.emod_lt_of_pos _ r0) ⟨_, _, upd_same, a0, n0, n1⟩ (SameB.upd (SameB.of (Same.refl H)))
end
end K11

set_option Elab.async false
set_option linter.all false
set_option maxRecDepth 100000
namespace K11
open PySem PySem.Spec PyProof.Rows L2 LT
theorem scName : FnScope ["_law_pot_here", "_law_letters", "_law_k"] ["_law_pot_here"] (defScope sName) := ⟨rfl, rfl, rfl, by decide +kernel, rfl, by decide +kernel, by decide +kernel⟩
theorem scSign : FnScope ["_law_pot_here", "_law_signs"] ["_law_pot_here"] (defScope sSign) := ⟨rfl, rfl, rfl, by decide +kernel, rfl, by decide +kernel, by decide +kernel⟩
theorem scLis : FnScope ["_law_one", "_law_sign_here"] ["_law_one"] (defScope sLis) := ⟨rfl, rfl, rfl, by decide +kernel, rfl, by decide +kernel, by decide +kernel⟩
theorem at_low {z : Str} (hl : Low z) {d : Int} (d0 : 0 ≤ d) (d1 : d < (z.length : Nat)) : ∃ c, atI z.cps.toList d = some c ∧ c < 128 := by
  obtain ⟨j, rfl⟩ := Int.eq_ofNat_of_zero_le d0
  have hj : j < z.cps.toList.length := by
    rw [Array.length_toList]
    have : z.length = z.cps.size := rfl
    omega
  exact ⟨z.cps.toList[j], atI_nat (List.getElem?_eq_getElem hj), hl _ (List.getElem_mem hj)⟩
theorem Low.one {c : Nat} (h : c < 128) : Low ⟨#[c]⟩ := fun d hd => by
  obtain rfl : d = c := by simpa using hd
  exact h
theorem joinL_nil : ∀ l : List (List Nat), TL.joinL [] l = l.flatten
  | [] => rfl
  | [p] => by simp [TL.joinL]
  | p :: q :: r => by
    show p ++ ([] ++ TL.joinL [] (q :: r)) = _
    rw [joinL_nil (q :: r)]
    rfl
theorem join_codes (ys : List Str) : (Txt.join (Str.ofString "") ys).cps.toList = (ys.map fun y => y.cps.toList).flatten := by
  rw [TL.join_eq]
  have h := TL.tl_join (Str.ofString "") ys
  have e : TL.tl (Str.ofString "") = [] := by decide +kernel
  rw [e, joinL_nil] at h
  exact h
theorem flat_len : ∀ (ys : List Str), (∀ y ∈ ys, y.length = 1) → (ys.map fun y => y.cps.toList).flatten.length = ys.length
  | [], _ => rfl
  | y :: ys, h => by
    rw [List.map_cons, List.flatten_cons, List.length_append, flat_len ys fun z hz => h z (List.mem_cons_of_mem _ hz), Array.length_toList, List.length_cons]
    have : y.cps.size = 1 := h y List.mem_cons_self
    omega
theorem sum_len : ∀ (ys : List Str), (∀ y ∈ ys, y.length = 1) → (ys.map fun y => y.length).sum = ys.length
  | [], _ => rfl
  | y :: ys, h => by
    rw [List.map_cons, List.sum_cons, sum_len ys fun z hz => h z (List.mem_cons_of_mem _ hz), h y List.mem_cons_self, List.length_cons]
    omega
theorem Pot.ne {H : Hp} {p q : Addr} (h : Pot H p) (n : H q = none) : q ≠ p := fun e => by
  obtain ⟨a, b, e1, _⟩ := h
  rw [← e, n] at e1
  cases e1
theorem SameB.none {p q : Addr} {H H1 : Hp} (s : SameB p H H1) (h : Pot H1 p) (n : H1 q = none) : H q = none := by
  cases e : H q with
  | none => rfl
  | some o =>
    rw [s q o (h.ne n) e] at n
    cases n
theorem Pot.upd {H : Hp} {p q : Addr} {o : HO} (h : Pot H p) (n : q ≠ p) : Pot (L2.upd H q o) p := by
  obtain ⟨a, b, e, r⟩ := h
  exact ⟨a, b, by rw [upd_ne n.symm]; exact e, r⟩
theorem lt_one (c d : Nat) : decide ((Str.mk #[c]).cps.toList < (Str.mk #[d]).cps.toList) = decide (c < d) := by
  rw [Bool.eq_iff_iff, decide_eq_true_iff, decide_eq_true_iff]
  show [c] < [d] ↔ c < d
  simp [List.cons_lt_cons_iff]
theorem chr_a : Str.ofString "a" = ⟨#[97]⟩ := by decide +kernel
theorem chr_z : Str.ofString "z" = ⟨#[122]⟩ := by decide +kernel
theorem dp_strs {K : PySem.W.Frag} {H : Hp} : ∀ l : List Nat, DpAll K H (l.map fun c => V.str ⟨#[c]⟩) (l.map fun c => PyData.str ⟨#[c]⟩)
  | [] => .nil
  | _ :: l => .cons (.str _) (dp_strs l)
theorem lay_strs : ∀ {l : List Nat}, (∀ c ∈ l, c < 128) → PyData.canLayAll0 (l.map fun c => .str ⟨#[c]⟩) = true ∧ PyData.depthAll (l.map fun c => .str ⟨#[c]⟩) = 0
  | [], _ => ⟨rfl, rfl⟩
  | c :: l, h => by
    obtain ⟨h1, h2⟩ := lay_strs (l := l) fun d hd => h d (List.mem_cons_of_mem _ hd)
    have hc := h c List.mem_cons_self
    refine ⟨?_, ?_⟩
    · simp only [List.map_cons, PyData.canLayAll0, PyData.canLay0, h1, Bool.and_true]
      show (#[c].all fun x => decide (x < 0x110000)) = true
      simp
      omega
    · simp only [List.map_cons, PyData.depthAll, PyData.depth, h2, Nat.max_self]
theorem shaped_strs {l : List Nat} (h : ∀ c ∈ l, c < 128) : SeqAt.shaped (.list (l.map fun c => .str ⟨#[c]⟩)) = true := by
  obtain ⟨h1, h2⟩ := lay_strs h
  unfold SeqAt.shaped
  simp only [PyData.canLay0, PyData.depth, h1, h2]
  decide
theorem eqv_nil {α : Type} (f : α → PyData) (l : List α) : PyData.eqv (.list (l.map f)) (.list []) = l.isEmpty := by
  cases l with
  | nil => simp [PyData.eqv, PyData.eqvAll]
  | cons c l => simp [PyData.eqv, PyData.eqvAll]
section
variable {P : Program} {w : World} {K : PySem.W.Frag} {mg : Str → Option Value} {base : Heap} {tS tL : Tok}
/-- a name -/
def spName : Sp := fun vs H Q _ => ∃ (p : Addr), vs = [.ref p] ∧ Pot H p ∧
  ∀ (z : Str) (H' : Hp), 1 ≤ z.length → z.length ≤ 8 → Low z → Pot H' p → SameB p H H' → Q (.str z) H'
theorem ok_name {f fT : Addr} {fd fdT : FuncData} {k : Nat} (F : Fun K "_law_name" "_law_name" sName f fd) (T : Tx mg tS tL) (FT : Fun K "_law_take" "_law_take" sTake fT fdT) (bT : L2.Binds K fdT ["_law_pot_here", "_law_room"] []) (gT : mg "_law_take" = some (.ref fT)) :
    FnOk P w K mg base CX0 (k + 2) f fd ["_law_pot_here"] spName := by
  have GT : FnOk P w K mg base CX0 (k + 1) fT fdT ["_law_pot_here", "_law_room"] spTake := ok_take FT T
  refine F.ok scName (fun vs H Q E h => ?_) (fun cdv A outer s H vs Q E hr h => ?_)
  · obtain ⟨p, rfl, _⟩ := h
    rfl
  · obtain ⟨p, rfl, hp, q⟩ := h
    refine ⟨_, pss_cons (ps_set (i := 1) scName.nd rfl (.inr rfl) pe_str)
      (pss_one (ps_ret (pe_join pe_str (pe_lc (own := [("_law_k", 2)]) (g := gName 2) (tt := tYes) rfl scName.nd
        (pi_range1 (by rfl) T.range (pa_cons (pe_op op_add pe_int (pe_call GT hr (by rfl) gT FT.kp bT .nil pass0 (pa_cons (pv 0) (pa_cons pe_int pa_nil)))) pa_nil))
        (blkOk_by (N := ["_law_pot_here", "_law_letters", "_law_k"]) (sc := defScope sName) (by decide +kernel))
        (fun _ _ _ _ _ => pg_name (i := 2) scName.nd rfl (Or.inl rfl)) (fun _ _ _ _ _ => pts_nil)
        (fun _ _ _ _ _ => pe_ix ix_str (pv 1) (pe_call GT hr (by rfl) gT FT.kp bT .nil pass0 (pa_cons (pv 0) (pa_cons pe_int pa_nil))) (fun _ _ => rfl)))))), ?_⟩
    refine ⟨⟨_, rfl⟩, _, rfl, p, 8, rfl, hp, by decide, by decide, fun d H1 d0 d1 hp1 sm1 => ?_⟩
    refine ⟨1, d, rfl, rfl, 1 + d, rfl, by omega, by omega, fun D nD => ?_⟩
    have nDp := hp1.ne nD
    refine lc_range (lo := 0) (n := (1 + d).toNat) (fun i H' => Pot H' p ∧ SameB p H H' ∧ ∃ ys : List Str, ys.length = i ∧ (∀ y ∈ ys, y.length = 1 ∧ Low y) ∧ H' D = some (.lst (ys.map V.str)))
      ⟨hp1.upd nDp, SameB.new (sm1.none hp1 nD) sm1, [], rfl, fun y hy => absurd hy List.not_mem_nil, upd_same⟩ ?_ ?_
    · rintro i H2 hi ⟨hp2, sm2, ys, hl, hy, eD⟩
      refine ⟨rfl, ?_⟩
      refine ⟨_, rfl, _, rfl, p, 26, rfl, hp2, by decide, by decide, fun e H3 e0 e1 hp3 sm3 => ?_⟩
      obtain ⟨c, hc, lc⟩ := at_low (z := Str.ofString "abcdefghijklmnopqrstuvwxyz") (by unfold Low; decide +kernel) e0 e1
      have eD3 := sm3 D _ nDp eD
      refine ⟨_, e, c, rfl, rfl, by decide +kernel, hc, _, eD3, ?_, hp3.upd nDp, SameB.new (sm1.none hp1 nD) (sm2.trans sm3), ys ++ [⟨#[c]⟩], ?_, ?_, ?_⟩
      · rw [List.length_map, hl]
        exact small1000 (by omega)
      · rw [List.length_append, hl]
        rfl
      · intro y hm
        rcases List.mem_append.mp hm with h | h
        · exact hy y h
        · obtain rfl := List.mem_singleton.mp h
          exact ⟨rfl, Low.one lc⟩
      · rw [upd_same, List.map_append]
        rfl
    · rintro H2 ⟨hp2, sm2, ys, hl, hy, eD⟩
      have h1 : ∀ y ∈ ys, y.length = 1 := fun y h => (hy y h).1
      have ec := join_codes ys
      have el : (Txt.join (Str.ofString "") ys).length = (1 + d).toNat := by
        show (Txt.join (Str.ofString "") ys).cps.size = _
        rw [← Array.length_toList, ec, flat_len ys h1, hl]
      refine ⟨_, D, ys, rfl, rfl, .inl (SqL.of eD), ?_, q _ _ (by omega) (by omega) ?_ hp2 sm2⟩
      · rw [sum_len ys h1, hl, show (Str.ofString "").length = 0 by decide +kernel]
        omega
      · intro c hc
        rw [ec] at hc
        obtain ⟨l, h2, h3⟩ := List.mem_flatten.mp hc
        obtain ⟨y, h4, rfl⟩ := List.mem_map.mp h2
        exact (hy y h4).2 c h3
def spSign : Sp := fun vs H Q _ => ∃ (p : Addr), vs = [.ref p] ∧ Pot H p ∧
  ∀ (z : Str) (H' : Hp), z.length = 1 → Low z → Pot H' p → SameB p H H' → Q (.str z) H'
theorem ok_sign {f fT : Addr} {fd fdT : FuncData} {k : Nat} (F : Fun K "_law_sign" "_law_sign" sSign f fd) (T : Tx mg tS tL) (FT : Fun K "_law_take" "_law_take" sTake fT fdT) (bT : L2.Binds K fdT ["_law_pot_here", "_law_room"] []) (gT : mg "_law_take" = some (.ref fT)) :
    FnOk P w K mg base CX0 (k + 2) f fd ["_law_pot_here"] spSign := by
  have GT : FnOk P w K mg base CX0 (k + 1) fT fdT ["_law_pot_here", "_law_room"] spTake := ok_take FT T
  refine F.ok scSign (fun vs H Q E h => ?_) (fun cdv A outer s H vs Q E hr h => ?_)
  · obtain ⟨p, rfl, _⟩ := h
    rfl
  · obtain ⟨p, rfl, hp, q⟩ := h
    refine ⟨_, pss_cons (ps_set (i := 1) scSign.nd rfl (.inl rfl) pe_str)
      (pss_one (ps_ret (pe_ix ix_str (pv 1) (pe_call GT hr (by rfl) gT FT.kp bT .nil pass0 (pa_cons (pv 0) (pa_cons (pe_callB call_len_str (by rfl) T.len PySem.boot_len (pa_cons (pv 1) pa_nil)) pa_nil))) (fun _ _ => rfl)))), ?_⟩
    refine ⟨_, rfl, _, rfl, _, rfl, _, rfl, by decide +kernel, p, _, rfl, hp, by decide +kernel, by decide +kernel, fun d H1 d0 d1 hp1 sm => ?_⟩
    obtain ⟨c, hc, lc⟩ := at_low (by unfold Low; decide +kernel) d0 d1
    exact ⟨_, d, c, rfl, rfl, by decide +kernel, hc, q _ _ rfl (Low.one lc) hp1 sm⟩
/-- the law's own look -/
def spLis : Sp := spIs
theorem ok_lis {f : Addr} {fd : FuncData} {k : Nat} (F : Fun K "_law_is_name" "_law_is_name" sLis f fd) (T : Tx mg tS tL) : FnOk P w K mg base CX0 (k + 1) f fd ["_law_one"] spLis := by
  refine F.ok scLis (fun vs H Q E h => ?_) (fun cdv A outer s H vs Q E hr h => ?_)
  · obtain ⟨v, rfl, _⟩ := h
    rfl
  · obtain ⟨v, rfl, hv, q⟩ := h
    refine ⟨_, pss_cons (ps_if (PW.pt (pw_or (pt_not (pt_val (pe_callB call_isi (by rfl) T.isi (by decide +kernel) (pa_cons (pv 0) (pa_cons (pe_bltn (v := .ty "str") (by rfl) T.str (by decide +kernel) rfl) pa_nil)))))
        (pw_or (pt_cmpR op_eq (pe_callB call_len_str (by rfl) T.len PySem.boot_len (pa_cons (pv 0) pa_nil)) pe_int (nomark _))
        (pw_or1 (pt_cmpR op_gt (pe_callB call_len_str (by rfl) T.len PySem.boot_len (pa_cons (pv 0) pa_nil)) pe_int (nomark _)))))) (pss_one (ps_ret pe_bl)) pss_nil)
      (pss_one (ps_ret (pe_cmpR (op_eqD hr.units) (pe_lc (own := [("_law_sign_here", 1)]) (g := gName 1) rfl scLis.nd (pi_str (pv 0)) (blkOk_by (N := ["_law_one", "_law_sign_here"]) (sc := defScope sLis) (by decide +kernel))
          (fun _ _ _ _ _ => pg_name (i := 1) scLis.nd rfl (Or.inl rfl))
          (fun _ _ _ _ _ => pts_one (PW.pt (pw_or (pt_cmpR op_lt_str (pv 1) pe_str (nomark _)) (pw_or1 (pt_cmpR op_gt_str (pv 1) pe_str (nomark _))))))
          (fun _ _ _ _ _ => pv 1)) (pe_lst pa_nil) (nomark _)))), ?_⟩
    obtain ⟨t, ty, kt⟩ := hv.isi (K := K)
    refine ⟨_, rfl, v, .ty "str", t, _, isStr v, rfl, .ty _, ty, kt, _, rfl, ?_⟩
    cases hb : isStr v with
    | false =>
      have e : nameB v = false := by cases v <;> first | rfl | cases hb
      rw [e] at q
      exact q H (Same.refl H)
    | true =>
      obtain ⟨z, rfl, hz, lz⟩ : ∃ z, v = .str z ∧ z.length ≤ 1000 ∧ Low z := by
        cases hv with
        | str z hz lz => exact ⟨z, rfl, hz, lz⟩
        | _ => cases hb
      have lin := Nat.le_of_lt (small1000 hz)
      refine ⟨_, rfl, z, rfl, lin, rfl, _, rfl, ?_⟩
      by_cases h1 : z.length = 0
      · rw [decide_eq_true (show V.int (z.length : Nat) = V.int 0 by rw [h1]; rfl)]
        have e : nameB (.str z) = false := by
          show (decide (1 ≤ z.length) && decide (z.length ≤ 8) && z.cps.toList.all small) = _
          rw [decide_eq_false (show ¬ 1 ≤ z.length by omega), Bool.false_and, Bool.false_and]
        rw [e] at q
        exact q H (Same.refl H)
      · rw [decide_eq_false (show ¬ V.int (z.length : Nat) = V.int 0 from fun h => by have := V.int.inj h; omega)]
        refine ⟨_, rfl, z, rfl, lin, _, _, rfl, rfl, _, rfl, ?_⟩
        by_cases h8 : (8 : Int) < (z.length : Nat)
        · rw [decide_eq_true h8]
          have e : nameB (.str z) = false := by
            show (decide (1 ≤ z.length) && decide (z.length ≤ 8) && z.cps.toList.all small) = _
            rw [decide_eq_false (show ¬ z.length ≤ 8 by omega), Bool.and_false, Bool.false_and]
          rw [e] at q
          exact q H (Same.refl H)
        · rw [decide_eq_false h8]
          refine ⟨_, rfl, z, rfl, fun D nD => ?_⟩
          refine lc_it walk_str (fun i H' => Same H H' ∧ H' D = some (.lst (((z.cps.toList.take i).filter fun c => !small c).map fun c => V.str ⟨#[c]⟩))) ⟨same_upd nD, upd_same⟩ (fun _ _ _ _ => trivial) ?_ ?_
          · rintro i x H1 H2 hi ⟨sm, eD⟩ ⟨rfl, c, hc, rfl⟩
            have ht : (z.cps.toList.take (i + 1)) = z.cps.toList.take i ++ [c] := by
              rw [List.take_add_one, Array.getElem?_toList, hc]
              rfl
            refine ⟨rfl, _, rfl, _, _, rfl, rfl, _, rfl, ?_⟩
            have app : ∀ b, small c = b → (((z.cps.toList.take (i + 1)).filter fun c => !small c).map fun c => V.str ⟨#[c]⟩) =
                (((z.cps.toList.take i).filter fun c => !small c).map fun c => V.str ⟨#[c]⟩) ++ if b = true then [] else [V.str ⟨#[c]⟩] := by
              intro b hb
              rw [ht, List.filter_append, List.map_append, List.filter_cons, hb]
              cases b <;> rfl
            have len : (((z.cps.toList.take i).filter fun c => !small c).map fun c => V.str ⟨#[c]⟩).length < sizeLine := by
              rw [List.length_map]
              refine Nat.lt_of_le_of_lt (List.length_filter_le _ _) ?_
              rw [List.length_take]
              exact Nat.lt_of_le_of_lt (Nat.min_le_left _ _) (small1000 (Nat.le_trans (Nat.le_of_lt hi) hz))
            rw [chr_a, lt_one]
            by_cases ha : c < 97
            · rw [decide_eq_true ha]
              have hs : small c = false := by
                unfold small
                rw [decide_eq_false (by omega), Bool.false_and]
              refine ⟨_, rfl, _, eD, len, same_app nD sm, ?_⟩
              rw [upd_same, app _ hs]
              rfl
            · rw [decide_eq_false ha]
              refine ⟨_, rfl, _, _, rfl, rfl, _, rfl, ?_⟩
              rw [chr_z, lt_one]
              by_cases hb : 122 < c
              · rw [decide_eq_true hb]
                have hs : small c = false := by
                  unfold small
                  rw [decide_eq_false (show ¬ c ≤ 122 by omega), Bool.and_false]
                refine ⟨_, rfl, _, eD, len, same_app nD sm, ?_⟩
                rw [upd_same, app _ hs]
                rfl
              · rw [decide_eq_false hb]
                have hs : small c = true := by
                  unfold small
                  rw [decide_eq_true (show 97 ≤ c by omega), decide_eq_true (show c ≤ 122 by omega)]
                  rfl
                refine ⟨sm, ?_⟩
                rw [app _ hs, eD]
                simp
          · rintro H1 ⟨sm, eD⟩
            rw [← Array.length_toList, List.take_length] at eD
            refine ⟨by decide, fun l nl => ?_⟩
            have nlD : D ≠ l := ne_of_none eD nl
            refine ⟨.list ((z.cps.toList.filter fun c => !small c).map fun c => .str ⟨#[c]⟩), .list [],
              .lst (SqL.of (by rw [upd_ne nlD]; exact eD)) (dp_strs _), .lst (SqL.of upd_same) .nil, shaped_strs fun c hc => lz c (List.mem_filter.mp hc).1, by decide +kernel, ?_⟩
            have e : nameB (.str z) = PyData.eqv (.list ((z.cps.toList.filter fun c => !small c).map fun c => .str ⟨#[c]⟩)) (.list []) := by
              show (decide (1 ≤ z.length) && decide (z.length ≤ 8) && z.cps.toList.all small) = _
              rw [decide_eq_true (show 1 ≤ z.length by omega), decide_eq_true (show z.length ≤ 8 by omega), eqv_nil]
              induction z.cps.toList with
              | nil => rfl
              | cons c l ih =>
                rw [List.all_cons, List.filter_cons]
                cases hs : small c with
                | true => simpa using ih
                | false => rfl
            show Q (.bl (PyData.eqv _ _)) _
            rw [← e]
            exact q _ (sm.trans (same_upd nl))
end
end K11

set_option Elab.async false
set_option linter.all false
set_option maxRecDepth 100000
namespace K11
open PySem PySem.Spec PyProof.Rows L2 LT
theorem scThing : FnScope ["_law_pot_here", "_law_way", "_law_name_here", "_law_some", "_law_at"] ["_law_pot_here"] (defScope sThing) := ⟨rfl, rfl, rfl, by decide +kernel, rfl, by decide +kernel, by decide +kernel⟩
/-- what is drawn, as data -/
inductive Thing (H : Hp) : V → PyData → Prop
  | non : Thing H .non .none
  | bl (b : Bool) : Thing H (.bl b) (.bool b)
  | int (i : Int) : i.natAbs.log2 < 1920 → (PyData.shown (.int i)).length ≤ 1000 → Thing H (.int i) (.int i)
  | str (z : Str) : z.length ≤ 1000 → Low z → Thing H (.str z) (.str z)
  | lst {a : Addr} (zs : List Str) : H a = some (.lst (zs.map V.str)) → zs.length ≤ 8 → (∀ z ∈ zs, z.length ≤ 8 ∧ Low z) → Thing H (.ref a) (.list (zs.map .str))
  | tup {a : Addr} (z : Str) : H a = some (.tup [.str z]) → z.length ≤ 8 → Low z → Thing H (.ref a) (.tuple [.str z])
  | dct {a : Addr} (z : Str) : H a = some (.dK [(.inr z, .int 1)]) → z.length ≤ 8 → Low z → Thing H (.ref a) (.dict [(.str z, .int 1)])
theorem Thing.th {H : Hp} {v : V} {d : PyData} (h : Thing H v d) : Th H v := by
  cases h with
  | non => exact .non
  | bl b => exact .bl b
  | int i _ _ => exact .int i
  | str z h l => exact .str z h l
  | lst zs e _ _ => exact .lst e
  | tup z e _ _ => exact .tup e
  | dct z e _ _ => exact .dK e
theorem Thing.mono {H H' : Hp} (s : Same H H') {v : V} {d : PyData} (h : Thing H v d) : Thing H' v d := by
  cases h with
  | non => exact .non
  | bl b => exact .bl b
  | int i h1 h2 => exact .int i h1 h2
  | str z h l => exact .str z h l
  | lst zs e h1 h2 => exact .lst zs (s _ _ e) h1 h2
  | tup z e h1 h2 => exact .tup z (s _ _ e) h1 h2
  | dct z e h1 h2 => exact .dct z (s _ _ e) h1 h2
theorem Thing.monoB {p : Addr} {H H' : Hp} (s : SameB p H H') (hp : Pot H p) {v : V} {d : PyData} (h : Thing H v d) : Thing H' v d := by
  obtain ⟨a, b, ep, _⟩ := hp
  cases h with
  | non => exact .non
  | bl b => exact .bl b
  | int i h1 h2 => exact .int i h1 h2
  | str z h l => exact .str z h l
  | lst zs e h1 h2 =>
    refine .lst zs (s _ _ (ne_of e ep fun q => ?_) e) h1 h2
    cases zs with
    | nil => cases q
    | cons z zs => cases q
  | tup z e h1 h2 => exact .tup z (s _ _ (ne_of e ep nofun) e) h1 h2
  | dct z e h1 h2 => exact .dct z (s _ _ (ne_of e ep nofun) e) h1 h2
theorem dp_txts {K : PySem.W.Frag} {H : Hp} : ∀ l : List Str, DpAll K H (l.map V.str) (l.map PyData.str)
  | [] => .nil
  | _ :: l => .cons (.str _) (dp_txts l)
theorem nod_txts : ∀ l : List Str, PyData.hasDictAll (l.map PyData.str) = false ∧ PyData.showableAll (l.map PyData.str) = true ∧ PyData.depthAll (l.map PyData.str) = 0
  | [] => ⟨rfl, rfl, rfl⟩
  | _ :: l => by
    obtain ⟨h1, h2, h3⟩ := nod_txts l
    refine ⟨?_, ?_, ?_⟩
    · simp [PyData.hasDictAll, PyData.hasDict, h1]
    · simp [PyData.showableAll, PyData.showable, h2]
    · simp [PyData.depthAll, PyData.depth, h3]
theorem Thing.sh {K : PySem.W.Frag} {H : Hp} {v : V} {d : PyData} (h : Thing H v d) : Sh K H v d := by
  cases h with
  | non => exact .dp .non (by simp [PyData.hasDict])
  | bl b => exact .dp (.bl b) (by simp [PyData.hasDict])
  | int i _ _ => exact .dp (.int i) (by simp [PyData.hasDict])
  | str z _ _ => exact .dp (.str z) (by simp [PyData.hasDict])
  | lst zs e _ _ => exact .dp (.lst (SqL.of e) (dp_txts zs)) (by simp [PyData.hasDict, nod_txts])
  | tup z e _ _ => exact .dp (.tup (SqT.of e) (.cons (.str z) .nil)) (by simp [PyData.hasDict, PyData.hasDictAll])
  | dct z e _ _ => exact .one e
theorem rt_le {z : Str} (l : Low z) : (reprText z).length ≤ 10 * z.length + 2 := PySem.StrLaws.reprText_len z fun c hc => Nat.lt_of_lt_of_le (l c hc) (by decide)
theorem sum_rt : ∀ {zs : List Str}, (∀ z ∈ zs, z.length ≤ 8 ∧ Low z) → ((PyData.shownAll (zs.map PyData.str)).map (·.length)).sum ≤ 82 * zs.length ∧ (PyData.shownAll (zs.map PyData.str)).length = zs.length
  | [], _ => ⟨by simp [PyData.shownAll], by simp [PyData.shownAll]⟩
  | z :: zs, h => by
    obtain ⟨h1, h2⟩ := sum_rt (zs := zs) fun y hy => h y (List.mem_cons_of_mem _ hy)
    obtain ⟨a, b⟩ := h z List.mem_cons_self
    have e := rt_le b
    simp only [List.map_cons, PyData.shownAll, PyData.shown, List.sum_cons, List.length_cons, h2]
    refine ⟨?_, trivial⟩
    omega
theorem Low.cut {z : Str} (h : Low z) (lo hi : Option Int) : Low (cutS z lo hi) := fun c hc => by
  refine h c ?_
  have hc' : c ∈ ((z.cps.toList.drop (HT.sIx z.length 0 lo)).take (HT.sIx z.length z.length hi - HT.sIx z.length 0 lo)) := by simpa [cutS] using hc
  exact List.mem_of_mem_drop (List.mem_of_mem_take hc')
theorem Low.app {y z : Str} (hy : Low y) (hz : Low z) : Low (y ++ z) := fun c hc => by
  have e : (y ++ z).cps.toList = y.cps.toList ++ z.cps.toList := Array.toList_append
  rw [e] at hc
  rcases List.mem_append.mp hc with h | h
  · exact hy c h
  · exact hz c h
theorem Low.up {z : Str} (h : Low z) : Low (Txt.upper z) ∧ (Txt.upper z).length = z.length := by
  rw [upper_ascii h]
  refine ⟨fun c hc => ?_, by show (z.cps.map up1).size = z.cps.size; exact Array.size_map⟩
  have hc' : c ∈ z.cps.toList.map up1 := by simpa using hc
  obtain ⟨d, hd, rfl⟩ := List.mem_map.mp hc'
  have := h d hd
  unfold up1
  split <;> omega
theorem Low.rep {z : Str} (h : Low z) (n : Nat) : Low ⟨(List.replicate n z.cps).foldl (· ++ ·) #[]⟩ := fun c hc => by
  have hc' : c ∈ ((List.replicate n z.cps).foldl (· ++ ·) #[]).toList := hc
  rw [rep_list] at hc'
  rw [show (#[] : Array Nat).toList = [] from rfl, List.nil_append] at hc'
  obtain ⟨l, h1, h2⟩ := List.mem_flatten.mp hc'
  rw [(List.mem_replicate.mp h1).2] at h2
  exact h c h2
theorem Thing.size {H : Hp} {v : V} {d : PyData} (h : Thing H v d) : d.showable = true ∧ d.depth ≤ 60 ∧ d.shown.length ≤ sizeLine := by
  rw [sizeLine_eq]
  cases h with
  | non => exact ⟨by simp [PyData.showable], by simp [PyData.depth], by decide +kernel⟩
  | bl b => exact ⟨by simp [PyData.showable], by simp [PyData.depth], by cases b <;> decide +kernel⟩
  | int i h1 h2 => exact ⟨by simpa [PyData.showable] using h1, by simp [PyData.depth], by omega⟩
  | str z h l =>
    refine ⟨by simp [PyData.showable], by simp [PyData.depth], ?_⟩
    have e := rt_le l
    simp only [PyData.shown]
    omega
  | lst zs e h1 h2 =>
    obtain ⟨_, a, b⟩ := nod_txts zs
    obtain ⟨c1, c2⟩ := sum_rt h2
    refine ⟨by simp [PyData.showable, a], by simp [PyData.depth, b], ?_⟩
    have e := listText_len_le (PyData.shownAll (zs.map PyData.str))
    simp only [PyData.shown]
    omega
  | tup z e h1 h2 =>
    refine ⟨by simp [PyData.showable, PyData.showableAll], by simp [PyData.depth, PyData.depthAll], ?_⟩
    have e1 := tupleText_len_le [reprText z]
    have e2 := rt_le h2
    simp only [PyData.shown, PyData.shownAll]
    simp only [List.map_cons, List.map_nil, List.sum_cons, List.sum_nil, List.length_cons, List.length_nil] at e1
    omega
  | dct z e h1 h2 =>
    have es : PyData.shown (.dict [(.str z, .int 1)]) = dictText [reprText z ++ ": " ++ PyData.shown (.int 1)] := by simp only [PyData.shown, PyData.shownKv]
    have e0 : (PyData.shown (.int 1)).length = 1 := by decide +kernel
    have e3 : (reprText z ++ ": " ++ PyData.shown (.int 1) : Str).length = (reprText z).length + 2 + 1 := by
      rw [strLen_append, strLen_append, e0]
      rfl
    refine ⟨?_, by simp [PyData.depth, PyData.depthKv], ?_⟩
    · have h0 : PyData.showable (.int 1) = true := by decide +kernel
      simp only [PyData.showable, PyData.showableKv, Bool.true_and, Bool.and_true] at h0 ⊢
      exact h0
    have e1 := dictText_len_le [reprText z ++ ": " ++ PyData.shown (.int 1)]
    have e2 := rt_le h2
    rw [es]
    simp only [List.map_cons, List.map_nil, List.sum_cons, List.sum_nil, List.length_cons, List.length_nil, e3] at e1
    omega
theorem Pot.mono {H H' : Hp} {p : Addr} (h : Pot H p) (s : Same H H') : Pot H' p := by
  obtain ⟨a, b, e, r⟩ := h
  exact ⟨a, b, s _ _ e, r⟩
theorem ne_of_pot {H : Hp} {p q : Addr} {o : HO} (h : Pot H p) (e : H q = some o) (n : ∀ a b : Int, o ≠ .lst [.int a, .int b] := by intros; nofun) : q ≠ p := by
  obtain ⟨a, b, ep, _⟩ := h
  exact ne_of e ep (n a b)
def menu (z : Str) (a1 a2 a3 a4 a5 : Addr) : List V := [V.non, .int 7, .bl true, .str (Str.ofString ""), .ref a1, .ref a2, .ref a3, .ref a4, .str (Txt.upper z), .str ⟨(List.replicate (Int.toNat 9) z.cps).foldl (· ++ ·) #[]⟩, .int (10 ^ Int.toNat 20), .ref a5]
section
variable {P : Program} {w : World} {K : PySem.W.Frag} {mg : Str → Option Value} {base : Heap} {tS tL : Tok}
def spThing : Sp := fun vs H Q _ => ∃ (p : Addr), vs = [.ref p] ∧ Pot H p ∧
  ∀ (v : V) (d : PyData) (H' : Hp), Thing H' v d → SameB p H H' → Q v H'
structure Has (K : PySem.W.Frag) (mg : Str → Option Value) (x : Str) (ps : List Str) (st : Stmt) (f : Addr) (fd : FuncData) : Prop where
  fn : Fun K x x st f fd
  bd : L2.Binds K fd ps []
  gl : mg x = some (.ref f)
theorem ok_thing {f fT fN fS : Addr} {fd fdT fdN fdS : FuncData} {k : Nat} (F : Fun K "_law_thing" "_law_thing" sThing f fd) (T : Tx mg tS tL) (FT : Has K mg "_law_take" ["_law_pot_here", "_law_room"] sTake fT fdT)
    (FN : Has K mg "_law_name" ["_law_pot_here"] sName fN fdN) (FS : Has K mg "_law_sign" ["_law_pot_here"] sSign fS fdS) :
    FnOk P w K mg base CX0 (k + 3) f fd ["_law_pot_here"] spThing := by
  have GT : FnOk P w K mg base CX0 (k + 1) fT fdT ["_law_pot_here", "_law_room"] spTake := ok_take FT.fn T
  have GN : FnOk P w K mg base CX0 (k + 2) fN fdN ["_law_pot_here"] spName := ok_name FN.fn T FT.fn FT.bd FT.gl
  have GS : FnOk P w K mg base CX0 (k + 2) fS fdS ["_law_pot_here"] spSign := ok_sign FS.fn T FT.fn FT.bd FT.gl
  refine F.ok scThing (fun vs H Q E h => ?_) (fun cdv A outer s H vs Q E hr h => ?_)
  · obtain ⟨p, rfl, _⟩ := h
    rfl
  · obtain ⟨p, rfl, hp, q⟩ := h
    have hr1 : Room (k + 1) _ := hr.mono (by omega)
    have nd := scThing.nd
    refine ⟨_, pss_cons (ps_set (i := 1) nd rfl (.inl rfl) (pe_call GT hr1 (by rfl) FT.gl FT.fn.kp FT.bd .nil pass0 (pa_cons (pv 0) (pa_cons pe_int pa_nil))))
      (pss_cons (ps_set (i := 2) nd rfl (.inl rfl) (pe_call GN hr (by rfl) FN.gl FN.fn.kp FN.bd .nil pass0 (pa_cons (pv 0) pa_nil)))
      (pss_cons (ps_if (pt_cmpR op_eq (pv 1) pe_int (nomark _)) (pss_one (ps_ret (pv 2))) pss_nil)
      (pss_cons (ps_if (pt_cmpR op_eq (pv 1) pe_int (nomark _))
        (pss_cons (ps_set (i := 3) nd rfl (.inl rfl) (pe_lst (pa_cons pe_non (pa_cons pe_int (pa_cons pe_bl (pa_cons pe_str (pa_cons (pe_lst (pa_cons (pv 2) pa_nil)) (pa_cons (pe_tup (pa_cons (pv 2) pa_nil))
            (pa_cons (pe_disp (pps_cons (pv 2) pe_int pps_nil) (by rfl) (by rfl) (fun z => by cases z) (by decide)) (pa_cons (pe_lst pa_nil) (pa_cons (pe_upper (pv 2)) (pa_cons (pe_op op_mul_str (pv 2) pe_int)
            (pa_cons (pe_op op_pow pe_int pe_int) (pa_cons (pe_callTy (call_list_txt rfl) (by rfl) T.list (by decide +kernel) (pa_cons (pv 2) pa_nil)) pa_nil))))))))))))))
          (pss_one (ps_ret (pe_ix ix_list (pv 3) (pe_call GT hr1 (by rfl) FT.gl FT.fn.kp FT.bd .nil pass0 (pa_cons (pv 0) (pa_cons (pe_callB call_len_seq (by rfl) T.len PySem.boot_len (pa_cons (pv 3) pa_nil)) pa_nil))) (fun _ _ => rfl))))) pss_nil)
      (pss_cons (ps_set (i := 4) nd rfl (.inl rfl) (pe_call GT hr1 (by rfl) FT.gl FT.fn.kp FT.bd .nil pass0 (pa_cons (pv 0) (pa_cons (pe_op op_add (pe_callB call_len_str (by rfl) T.len PySem.boot_len (pa_cons (pv 2) pa_nil))
          (pe_callTy call_int1 (by rfl) T.int (by decide +kernel) (pa_cons (pe_cmpR op_eq (pv 1) pe_int (nomark _)) pa_nil))) pa_nil))))
      (pss_cons (ps_if (pt_cmpR op_eq (pv 1) pe_int (nomark _))
        (pss_one (ps_ret (pe_op op_add_str (pe_op op_add_str (pe_slice sl_str (pv 2) po_none (po_some (pv 4))) (pe_call GS hr (by rfl) FS.gl FS.fn.kp FS.bd .nil pass0 (pa_cons (pv 0) pa_nil))) (pe_slice sl_str (pv 2) (po_some (pv 4)) po_none)))) pss_nil)
      (pss_cons (ps_if (pt_cmpR op_eq (pv 1) pe_int (nomark _))
        (pss_one (ps_ret (pe_op op_add_str (pe_op op_add_str (pe_slice sl_str (pv 2) po_none (po_some (pv 4))) (pe_call GS hr (by rfl) FS.gl FS.fn.kp FS.bd .nil pass0 (pa_cons (pv 0) pa_nil))) (pe_slice sl_str (pv 2) (po_some (pe_op op_add (pv 4) pe_int)) po_none)))) pss_nil)
      (pss_one (ps_ret (pe_op op_add_str (pe_slice sl_str (pv 2) po_none (po_some (pv 4))) (pe_slice sl_str (pv 2) (po_some (pe_op op_add (pv 4) pe_int)) po_none)))))))))), ?_⟩
    refine ⟨_, rfl, p, 5, rfl, hp, by decide, by decide, fun way H1 w0 w5 hp1 sm1 => ?_⟩
    refine ⟨_, rfl, p, rfl, hp1, fun z H2 z1 z8 lz hp2 sm2 => ?_⟩
    refine ⟨_, rfl, rfl, _, rfl, ite2 (fun _ => ?_) (fun n0 => ?_)⟩
    · exact ⟨_, rfl, q _ _ H2 (.str z (by omega) lz) (sm1.trans sm2)⟩
    refine ⟨_, rfl, rfl, _, rfl, ite2 (fun _ => ?_) (fun n1 => ?_)⟩
    · refine ⟨_, rfl, by show 1 ≤ sizeLine; decide, fun a1 na1 => ?_⟩
      refine ⟨_, rfl, by show 1 ≤ sizeLine; decide, fun a2 na2 => fun a3 na3 => ?_⟩
      refine ⟨_, rfl, upd_same, [(.inr z, .int 1)], rfl, by show 1 ≤ 15; decide, by show 0 ≤ sizeLine; decide, fun a4 na4 => ?_⟩
      refine ⟨_, rfl, ⟨_, rfl⟩, z, rfl, rfl, by omega, _, rfl, z, 9, rfl, rfl, by decide, by decide, z1, by omega, _, _, rfl, rfl, ⟨by decide, by decide, by decide⟩, _, rfl, z, rfl, Nat.le_of_lt (small1000 (by omega)), fun a5 na5 => ?_⟩
      refine ⟨by show 12 ≤ sizeLine; decide, fun S nS => ?_⟩
      have s1 := same_upd (o := .lst [V.str z]) na1
      have s2 := same_upd (o := .tup [V.str z]) na2
      have s3 := same_app (o := .dK (mergeK [] [(Sum.inr z, V.int 1)])) na3 (same_upd (o := .dK []) na3)
      have s4 := same_upd (o := .lst []) na4
      have s5 := same_upd (o := .lst (z.cps.toList.map fun c => V.str ⟨#[c]⟩)) na5
      have s6 := same_upd (o := .lst [.non, .int 7, .bl true, .str (Str.ofString ""), .ref a1, .ref a2, .ref a3, .ref a4, .str (Txt.upper z), .str ⟨(List.replicate (Int.toNat 9) z.cps).foldl (· ++ ·) #[]⟩, .int (10 ^ Int.toNat 20), .ref a5]) nS
      have e1 := (s2.trans (s3.trans (s4.trans (s5.trans s6)))) _ _ (upd_same (H := H2) (a := a1) (o := .lst [V.str z]))
      have e2 := (s3.trans (s4.trans (s5.trans s6))) _ _ (upd_same (a := a2) (o := .tup [V.str z]))
      have e3 := (s4.trans (s5.trans s6)) _ _ (upd_same (a := a3) (o := .dK (mergeK [] [(Sum.inr z, V.int 1)])))
      have e4 := (s5.trans s6) _ _ (upd_same (a := a4) (o := .lst []))
      have e5 := s6 _ _ (upd_same (a := a5) (o := .lst (z.cps.toList.map fun c => V.str ⟨#[c]⟩)))
      have sA := s1.trans (s2.trans (s3.trans (s4.trans (s5.trans s6))))
      have hpS := hp2.mono sA
      have nSp := ne_of_pot hpS upd_same
      generalize hHs : upd _ S _ = Hs at e1 e2 e3 e4 e5 sA hpS nSp ⊢
      have key : ∀ j : Nat, j < 12 → ∃ v d, [V.non, .int 7, .bl true, .str (Str.ofString ""), .ref a1, .ref a2, .ref a3, .ref a4, .str (Txt.upper z), .str ⟨(List.replicate (Int.toNat 9) z.cps).foldl (· ++ ·) #[]⟩, .int (10 ^ Int.toNat 20), .ref a5][j]? = some v ∧ Thing Hs v d := by
        intro j hj
        match j, hj with
        | 0, _ => exact ⟨_, _, rfl, .non⟩
        | 1, _ => exact ⟨_, _, rfl, .int 7 (by decide +kernel) (by decide +kernel)⟩
        | 2, _ => exact ⟨_, _, rfl, .bl true⟩
        | 3, _ => exact ⟨_, _, rfl, .str _ (by decide +kernel) (by unfold Low; decide +kernel)⟩
        | 4, _ => exact ⟨_, _, rfl, .lst [z] e1 (by show 1 ≤ 8; decide) fun y hy => by rw [List.mem_singleton.mp hy]; exact ⟨z8, lz⟩⟩
        | 5, _ => exact ⟨_, _, rfl, .tup z e2 z8 lz⟩
        | 6, _ => exact ⟨_, _, rfl, .dct z e3 z8 lz⟩
        | 7, _ => exact ⟨_, _, rfl, .lst [] e4 (by decide) fun y hy => absurd hy List.not_mem_nil⟩
        | 8, _ => exact ⟨_, _, rfl, .str _ (by rw [lz.up.2]; omega) lz.up.1⟩
        | 9, _ => exact ⟨_, _, rfl, .str _ (by rw [rep_len, show Int.toNat 9 = 9 from rfl]; omega) (lz.rep _)⟩
        | 10, _ => exact ⟨_, _, rfl, .int (10 ^ Int.toNat 20) (by decide +kernel) (by decide +kernel)⟩
        | 11, _ =>
          refine ⟨_, _, rfl, .lst (z.cps.toList.map fun c => ⟨#[c]⟩) (by rw [e5, List.map_map]; rfl) ?_ fun y hy => ?_⟩
          · rw [List.length_map, Array.length_toList]
            exact z8
          · obtain ⟨c, hc, rfl⟩ := List.mem_map.mp hy
            exact ⟨by show 1 ≤ 8; decide, Low.one (lz c hc)⟩
        | n + 12, h => omega
      have eS : Hs S = some (.lst (menu z a1 a2 a3 a4 a5)) := by
        rw [← hHs]
        exact upd_same
      refine ⟨_, rfl, _, rfl, _, rfl, S, _, rfl, .inl (SqL.of eS), p, 12, rfl, hpS, by decide, by decide, fun e H5 e0 e12 hp5 sm5 => ?_⟩
      obtain ⟨j, rfl⟩ := Int.eq_ofNat_of_zero_le e0
      obtain ⟨v, d, hv, th⟩ := key j (by omega)
      exact ⟨S, _, _, v, rfl, rfl, SqL.of (sm5 S _ nSp eS), atI_nat hv, q v d H5 (th.monoB sm5 hpS) ((sm1.trans sm2).trans ((SameB.of sA).trans sm5))⟩
    have lin : z.length ≤ sizeLine := Nat.le_of_lt (small1000 (by omega))
    refine ⟨_, rfl, _, rfl, z, rfl, lin, _, rfl, rfl, .inr ⟨_, rfl, _, _, rfl, rfl, p, _, rfl, hp2, ?_, ?_, fun at_ H3 t0 t1 hp3 sm3 => ?_⟩⟩
    · show 0 < ((z.length : Nat) : Int) + _
      split <;> omega
    · show ((z.length : Nat) : Int) + _ ≤ _
      split <;> omega
    have c1 := cutS_length z none (some at_)
    refine ⟨_, rfl, rfl, _, rfl, ite2 (fun _ => ?_) (fun n2 => ?_)⟩
    · refine ⟨_, rfl, _, rfl, _, rfl, z, rfl, lin, _, rfl, p, rfl, hp3, fun y H4 y1 ly hp4 sm4 => ?_⟩
      have c2 := cutS_length z (some at_) none
      refine ⟨_, _, rfl, rfl, ?_, _, rfl, _, rfl, _, rfl, z, rfl, lin, _, _, rfl, rfl, ?_, q _ _ H4 (.str _ ?_ ((Low.app (lz.cut _ _) ly).app (lz.cut _ _))) (((sm1.trans sm2).trans sm3).trans sm4)⟩
      · rw [sizeLine_eq]
        omega
      · rw [sizeLine_eq, strLen_append]
        omega
      · rw [strLen_append, strLen_append]
        omega
    have c3 := cutS_length z (some (at_ + 1)) none
    refine ⟨_, rfl, rfl, _, rfl, ite2 (fun _ => ?_) (fun n3 => ?_)⟩
    · refine ⟨_, rfl, _, rfl, _, rfl, z, rfl, lin, _, rfl, p, rfl, hp3, fun y H4 y1 ly hp4 sm4 => ?_⟩
      refine ⟨_, _, rfl, rfl, ?_, _, rfl, _, rfl, _, _, rfl, rfl, _, rfl, z, rfl, lin, _, _, rfl, rfl, ?_, q _ _ H4 (.str _ ?_ ((Low.app (lz.cut _ _) ly).app (lz.cut _ _))) (((sm1.trans sm2).trans sm3).trans sm4)⟩
      · rw [sizeLine_eq]
        omega
      · rw [sizeLine_eq, strLen_append]
        omega
      · rw [strLen_append, strLen_append]
        omega
    · refine ⟨_, rfl, _, rfl, _, rfl, z, rfl, lin, _, rfl, _, rfl, _, _, rfl, rfl, _, rfl, z, rfl, lin, _, _, rfl, rfl, ?_, q _ _ H3 (.str _ ?_ (Low.app (lz.cut _ _) (lz.cut _ _))) ((sm1.trans sm2).trans sm3)⟩
      · rw [sizeLine_eq]
        omega
      · rw [strLen_append]
        omega
end
end K11

set_option Elab.async false
set_option linter.all false
set_option maxRecDepth 100000
namespace K11
open PySem PySem.Spec PyProof.Rows L2 LT
theorem scLaw : FnScope ["_law_script", "_law_k", "_law_one", "_law_kept", "_law_turn", "_law_told"] ["_law_script"] (defScope sLaw) := ⟨rfl, rfl, rfl, by decide +kernel, rfl, by decide +kernel, by decide +kernel⟩
theorem sameB_new {p : Addr} {H H1 H2 : Hp} (n : H p = none) (s : Same H H1) (b : SameB p H1 H2) : Same H H2 := fun c o e => b c o (ne_of_none e n) (s c o e)
section
variable {P : Program} {w : World} {K : PySem.W.Frag} {mg : Str → Option Value} {base : Heap} {tS tL : Tok}
def spLaw (K : PySem.W.Frag) : Sp := fun vs H Q _ => ∃ (a : Addr) (ns : List Int), vs = [.ref a] ∧ SqL K H a (ns.map V.int) ∧ ns.length ≤ 63 ∧ ∀ H', Q (.bl true) H'
theorem ok_law {f fI fC fP fT fN fS fH fL : Addr} {fd fdI fdC fdP fdT fdN fdS fdH fdL : FuncData} (F : Fun K "law" "law" sLaw f fd) (T : Tx mg tS tL) (FI : Has K mg "is_name" ["thing"] sIs fI fdI)
    (kbI : KBinds K fdI ["thing"] ["thing"] (· ++ ·) (· ++ ·))
    (FC : Has K mg "_law_cell" ["_law_script", "_law_k"] sCell fC fdC) (FP : Has K mg "_law_pot" ["_law_script", "_law_k"] sPot fP fdP)
    (FT : Has K mg "_law_take" ["_law_pot_here", "_law_room"] sTake fT fdT) (FN : Has K mg "_law_name" ["_law_pot_here"] sName fN fdN) (FS : Has K mg "_law_sign" ["_law_pot_here"] sSign fS fdS)
    (FH : Has K mg "_law_thing" ["_law_pot_here"] sThing fH fdH) (FL : Has K mg "_law_is_name" ["_law_one"] sLis fL fdL) :
    FnG P w K mg base CX0 4 f fd ["_law_script"] (spLaw K) := by
  have GI : FnOk P w K mg base CX0 1 fI fdI ["thing"] spIs := ok_is FI.fn T
  have GL : FnOk P w K mg base CX0 1 fL fdL ["_law_one"] spLis := ok_lis FL.fn T
  have GP : FnOk P w K mg base CX0 2 fP fdP ["_law_script", "_law_k"] (spPot K) := ok_pot FP.fn T FC.fn FC.bd FC.gl
  have GH : FnOk P w K mg base CX0 3 fH fdH ["_law_pot_here"] spThing := ok_thing FH.fn T FT FN FS
  refine okG F scLaw (fun h => ?_) (fun cdv A outer s H vs Q E hG hr h => ?_)
  · obtain ⟨a, ns, rfl, _⟩ := h
    rfl
  · obtain ⟨a, ns, rfl, hS, hlen, q⟩ := h
    have hr1 : Room 1 _ := hr.mono (by decide)
    have hr2 : Room 2 _ := hr.mono (by decide)
    have nd := scLaw.nd
    have hG2 : (cxOf CX0 P w K mg base ["_law_script", "_law_k", "_law_one", "_law_kept", "_law_turn", "_law_told"] "law" (defScope sLaw) f cdv A outer s H E).nox.A.guards = some [] := hG
    refine ⟨_, pss_cons (ps_for PassesOwn.never rfl (pi_range1 (by rfl) T.range (pa_cons (pe_callB (call_max2 rfl) (by rfl) T.max (by decide +kernel) (pa_cons pe_int (pa_cons
          (pe_callB (call_min2 rfl) (by rfl) T.min (by decide +kernel) (pa_cons (pe_callB call_len_seq (by rfl) T.len PySem.boot_len (pa_cons (pv 0) pa_nil)) (pa_cons pe_int pa_nil))) pa_nil))) pa_nil)) (pg_name (i := 1) nd rfl (.inl rfl))
        (pss_cons (ps_set (i := 2) nd rfl (.inl rfl) (pe_call GH hr (by rfl) FH.gl FH.fn.kp FH.bd .nil pass0 (pa_cons (pe_call GP hr2 (by rfl) FP.gl FP.fn.kp FP.bd .nil pass0 (pa_cons (pv 0) (pa_cons (pv 1) pa_nil))) pa_nil)))
        (pss_cons (ps_set (i := 3) nd rfl (.inl rfl) (pe_callB (call_reprSh hG2 hr.units) (by rfl) T.repr (by decide +kernel) (pa_cons (pv 2) pa_nil)))
        (pss_one (ps_for PassesOwn.never rfl (pi_range1 (by rfl) T.range (pa_cons pe_int pa_nil)) (pg_name (i := 4) nd rfl (.inl rfl))
          (pss_cons (ps_set (i := 5) nd rfl (.inl rfl) (pe_ix ix_list (pe_lst (pa_cons (pe_call GI hr1 (by rfl) FI.gl FI.fn.kp FI.bd .nil pass0 (pa_cons (pv 2) pa_nil))
              (pa_cons (pe_callKw GI hr1 (by rfl) FI.gl FI.fn.kp kbI pass0 (pk_cons (pv 2) pk_nil)) pa_nil))) (pv 4) (fun _ _ => rfl)))
          (pss_one (ps_if (PW.pt (pw_or (pt_not (pt_val (pe_callB call_isi (by rfl) T.isi (by decide +kernel) (pa_cons (pv 5) (pa_cons (pe_bltn (v := .ty "bool") (by rfl) T.bool (by decide +kernel) rfl) pa_nil)))))
              (pw_or (pt_cmpR op_ne (pv 5) (pe_call GL hr1 (by rfl) FL.gl FL.fn.kp FL.bd .nil pass0 (pa_cons (pv 2) pa_nil)) (nomark _))
              (pw_or1 (pt_cmpR op_ne (pe_callB (call_reprSh hG2 hr.units) (by rfl) T.repr (by decide +kernel) (pa_cons (pv 2) pa_nil)) (pv 3) (nomark _)))))) (pss_one (ps_ret pe_bl)) pss_nil))))))))
      (pss_one (ps_ret (pe_and (pe_cmpR op_isBl (pe_call GI hr1 (by rfl) FI.gl FI.fn.kp FI.bd .nil pass0 (pa_cons pe_str pa_nil)) pe_bl (nomark _))
        (pe_and (pe_cmpR op_isBl (pe_call GI hr1 (by rfl) FI.gl FI.fn.kp FI.bd .nil pass0 (pa_cons pe_str pa_nil)) pe_bl (nomark _))
        (pe_one (pe_cmpR op_isBl (pe_call GI hr1 (by rfl) FI.gl FI.fn.kp FI.bd .nil pass0 (pa_cons pe_str pa_nil)) pe_bl (nomark _))))))), ?_⟩
    refine ⟨_, rfl, a, _, rfl, .inl hS, _, _, rfl, _, _, rfl, ?_⟩
    generalize hN : (if (if (40 : Int) < ((ns.map V.int).length : Nat) then (40 : Int) else ((ns.map V.int).length : Nat)) > 1 then (if (40 : Int) < ((ns.map V.int).length : Nat) then (40 : Int) else ((ns.map V.int).length : Nat)) else 1) = N
    have hN1 : 1 ≤ N ∧ N ≤ 40 := by
      rw [← hN]
      split <;> (try split) <;> omega
    refine ⟨N, rfl, by omega, by omega, for_range (lo := 0) (n := N.toNat) (fun i σ H' => ∃ x1 x2 x3 x4 x5, σ = [some (.ref a), x1, x2, x3, x4, x5] ∧ Same H H') ⟨none, none, none, none, none, rfl, Same.refl H⟩ ?_ ?_⟩
    · rintro i σ H1 hi ⟨x1, x2, x3, x4, x5, rfl, sm⟩
      refine ⟨_, rfl, _, rfl, a, ns, i, ?_, sm.seq hS, by omega, fun p H2 np s2 hp => ?_⟩
      · rw [Int.zero_add]
        rfl
      refine ⟨p, rfl, hp, fun v d H3 th sb => ?_⟩
      have sm3 : Same H H3 := sm.trans (sameB_new np s2 sb)
      obtain ⟨z1, z2, z3⟩ := th.size
      refine ⟨_, rfl, v, d, rfl, th.sh, z1, z2, z3, ?_⟩
      refine ⟨2, rfl, by decide, by decide, for_range (lo := 0) (n := 2) (fun j σ H' => ∃ x4 x5, σ = [some (.ref a), some (.int (0 + (i : Nat))), some v, some (.str d.shown), x4, x5] ∧ Same H H' ∧ Thing H' v d) ⟨x4, x5, rfl, sm3, th⟩ ?_ ?_⟩
      · rintro j σ H4 hj ⟨x4, x5, rfl, sm4, th4⟩
        refine ⟨_, rfl, v, rfl, th4.th, fun H5 s5 => ?_⟩
        refine ⟨_, rfl, v, rfl, (th4.mono s5).th, fun H6 s6 => ?_⟩
        refine ⟨by show 2 ≤ sizeLine; decide, fun l nl => ?_⟩
        have s7 := same_upd (o := .lst [.bl (nameB v), .bl (nameB v)]) nl
        have th7 := ((th4.mono s5).mono s6).mono s7
        have sm7 : Same H _ := ((sm4.trans s5).trans s6).trans s7
        have hv : [V.bl (nameB v), V.bl (nameB v)][j]? = some (.bl (nameB v)) := by
          match j, hj with
          | 0, _ => rfl
          | 1, _ => rfl
        refine ⟨_, rfl, l, _, _, _, rfl, (by rw [Int.zero_add]), SqL.of upd_same, atI_nat hv, ?_⟩
        refine ⟨_, rfl, .bl (nameB v), .ty "bool", _, _, true, rfl, .ty _, .base (.bl _), kit_ty (by decide +kernel), _, rfl, ?_⟩
        refine ⟨_, rfl, _, rfl, v, rfl, th7.th, fun H8 s8 => ?_⟩
        refine ⟨rfl, _, rfl, ?_⟩
        rw [decide_eq_true rfl]
        have th8 := th7.mono s8
        refine ⟨_, rfl, v, d, rfl, th8.sh, z1, z2, z3, _, rfl, rfl, _, rfl, ?_⟩
        rw [decide_eq_true rfl]
        exact ⟨_, _, rfl, sm7.trans s8, th8⟩
      · rintro σ H4 ⟨x4, x5, rfl, sm4, th4⟩
        exact ⟨_, _, _, _, _, rfl, sm4⟩
    · rintro σ H1 ⟨x1, x2, x3, x4, x5, rfl, sm⟩
      have l1 : Low (Str.ofString "a") := by unfold Low; decide +kernel
      have l2 : Low (Str.ofString "abcdefgh") := by unfold Low; decide +kernel
      have l3 : Low (Str.ofString "abcdefghi") := by unfold Low; decide +kernel
      have b1 : nameB (.str (Str.ofString "a")) = true := by decide +kernel
      have b2 : nameB (.str (Str.ofString "abcdefgh")) = true := by decide +kernel
      have b3 : nameB (.str (Str.ofString "abcdefghi")) = false := by decide +kernel
      refine ⟨_, rfl, .str _ (by decide +kernel) l1, fun H2 s2 => ?_⟩
      refine ⟨_, _, rfl, rfl, _, rfl, ?_⟩
      rw [b1, decide_eq_true rfl]
      refine ⟨_, rfl, .str _ (by decide +kernel) l2, fun H3 s3 => ?_⟩
      refine ⟨_, _, rfl, rfl, _, rfl, ?_⟩
      rw [b2, decide_eq_true rfl]
      refine ⟨_, rfl, .str _ (by decide +kernel) l3, fun H4 s4 => ?_⟩
      refine ⟨_, _, rfl, rfl, ?_⟩
      rw [b3, decide_eq_true rfl]
      exact q _
end
end K11

set_option Elab.async false
set_option linter.all false
set_option maxRecDepth 100000
namespace K11
open PySem PySem.Spec PyProof.Rows L2 LT
/-- what the top has left of a def -/
structure Left (K : PySem.W.Frag) (x : Str) (st : Stmt) (f : Addr) (oc : Value) (od an : Option Addr) (kV dc pm cd ct : Value) (sl : Array (Option Value)) : Prop where
  ns : PySem.W.nsIn K mainGlobals x = some (some (.ref f))
  lk : K.lookup f = some ⟨oc, od, .func (PySem.W.fnOf x x (defArgs st) (defBody st) (defScope st) .none kV dc pm an cd ct), sl⟩
  cd : PySem.W.codeIn K cd x = true
  kp : PySem.W.keepIn K (.ref f) = true
theorem Left.fn {K : PySem.W.Frag} {x : Str} {st : Stmt} {f : Addr} {oc : Value} {od an : Option Addr} {kV dc pm cd ct : Value} {sl : Array (Option Value)} (h : Left K x st f oc od an kV dc pm cd ct sl) :
    Fun K x x st f (PySem.W.fnOf x x (defArgs st) (defBody st) (defScope st) .none kV dc pm an cd ct) := fun_mk h.lk h.cd h.kp
theorem all_mk {l : PySem.W.OpenLaw} {w : World} {K : PySem.W.Frag} {h : Heap} {mg : Str → Option Value} {fa : Addr} (X : K.In h) (G : h.Ns mainGlobals mg) (hfa : mg "law" = some (.ref fa))
    {fI : Addr} {ocI : Value} {odI anI : Option Addr} {kVI dcI pmI cdI ctI : Value} {slI : Array (Option Value)}
    (FI : Left K "is_name" sIs fI ocI odI anI kVI dcI pmI cdI ctI slI)
    {fC : Addr} {ocC : Value} {odC anC : Option Addr} {kVC dcC pmC cdC ctC : Value} {slC : Array (Option Value)}
    (FC : Left K "_law_cell" sCell fC ocC odC anC kVC dcC pmC cdC ctC slC)
    {fP : Addr} {ocP : Value} {odP anP : Option Addr} {kVP dcP pmP cdP ctP : Value} {slP : Array (Option Value)}
    (FP : Left K "_law_pot" sPot fP ocP odP anP kVP dcP pmP cdP ctP slP)
    {fT : Addr} {ocT : Value} {odT anT : Option Addr} {kVT dcT pmT cdT ctT : Value} {slT : Array (Option Value)}
    (FT : Left K "_law_take" sTake fT ocT odT anT kVT dcT pmT cdT ctT slT)
    {fN : Addr} {ocN : Value} {odN anN : Option Addr} {kVN dcN pmN cdN ctN : Value} {slN : Array (Option Value)}
    (FN : Left K "_law_name" sName fN ocN odN anN kVN dcN pmN cdN ctN slN)
    {fS : Addr} {ocS : Value} {odS anS : Option Addr} {kVS dcS pmS cdS ctS : Value} {slS : Array (Option Value)}
    (FS : Left K "_law_sign" sSign fS ocS odS anS kVS dcS pmS cdS ctS slS)
    {fH : Addr} {ocH : Value} {odH anH : Option Addr} {kVH dcH pmH cdH ctH : Value} {slH : Array (Option Value)}
    (FH : Left K "_law_thing" sThing fH ocH odH anH kVH dcH pmH cdH ctH slH)
    {fL : Addr} {ocL : Value} {odL anL : Option Addr} {kVL dcL pmL cdL ctL : Value} {slL : Array (Option Value)}
    (FL : Left K "_law_is_name" sLis fL ocL odL anL kVL dcL pmL cdL ctL slL)
    {fW : Addr} {ocW : Value} {odW anW : Option Addr} {kVW dcW pmW cdW ctW : Value} {slW : Array (Option Value)}
    (FW : Left K "law" sLaw fW ocW odW anW kVW dcW pmW cdW ctW slW)
    {tS tL : Tok} (cS : PySem.W.nsIn K mainGlobals "SMALL_LETTERS" = some (some (.str "abcdefghijklmnopqrstuvwxyz" tS))) (cL : PySem.W.nsIn K mainGlobals "LONGEST_NAME" = some (some (.int 8 tL)))
    (z_isinstance : PySem.W.nsIn K mainGlobals "isinstance" = some none)
    (z_str : PySem.W.nsIn K mainGlobals "str" = some none)
    (z_len : PySem.W.nsIn K mainGlobals "len" = some none)
    (z_all : PySem.W.nsIn K mainGlobals "all" = some none)
    (z_abs : PySem.W.nsIn K mainGlobals "abs" = some none)
    (z_max : PySem.W.nsIn K mainGlobals "max" = some none)
    (z_min : PySem.W.nsIn K mainGlobals "min" = some none)
    (z_divmod : PySem.W.nsIn K mainGlobals "divmod" = some none)
    (z_range : PySem.W.nsIn K mainGlobals "range" = some none)
    (z_list : PySem.W.nsIn K mainGlobals "list" = some none)
    (z_int : PySem.W.nsIn K mainGlobals "int" = some none)
    (z_repr : PySem.W.nsIn K mainGlobals "repr" = some none)
    (z_bool : PySem.W.nsIn K mainGlobals "bool" = some none)
    : ∃ fd : FuncData, (∀ (s : Shared) (v : Value), BindsTo s fd ⟨[v], []⟩ [("_law_script", v)]) ∧
      ∀ base : Heap, K.In base → base.Ns mainGlobals mg → FnG l.prog w K mg base CX0 4 fa fd ["_law_script"] (spLaw K) := by
  have e := hfa.symm.trans (PySem.W.mg_of X G FW.ns)
  cases e
  have N : ∀ {x : Str}, PySem.W.nsIn K mainGlobals x = some none → mg x = none := fun z => PySem.W.mg_none_of X G z
  have T : Tx mg tS tL := ⟨N z_isinstance, N z_str, N z_len, N z_all, PySem.W.mg_of X G cS, PySem.W.mg_of X G cL, N z_abs, N z_max, N z_min, N z_divmod, N z_range, N z_list, N z_int, N z_repr, N z_bool⟩
  have BI : Has K mg "is_name" ["thing"] sIs _ _ := ⟨FI.fn, FI.fn.binds fun _ _ _ _ _ _ us hl => match us, hl with | [_], _ => rfl, PySem.W.mg_of X G FI.ns⟩
  have BC : Has K mg "_law_cell" ["_law_script", "_law_k"] sCell _ _ := ⟨FC.fn, FC.fn.binds fun _ _ _ _ _ _ us hl => match us, hl with | [_, _], _ => rfl, PySem.W.mg_of X G FC.ns⟩
  have BP : Has K mg "_law_pot" ["_law_script", "_law_k"] sPot _ _ := ⟨FP.fn, FP.fn.binds fun _ _ _ _ _ _ us hl => match us, hl with | [_, _], _ => rfl, PySem.W.mg_of X G FP.ns⟩
  have BT : Has K mg "_law_take" ["_law_pot_here", "_law_room"] sTake _ _ := ⟨FT.fn, FT.fn.binds fun _ _ _ _ _ _ us hl => match us, hl with | [_, _], _ => rfl, PySem.W.mg_of X G FT.ns⟩
  have BN : Has K mg "_law_name" ["_law_pot_here"] sName _ _ := ⟨FN.fn, FN.fn.binds fun _ _ _ _ _ _ us hl => match us, hl with | [_], _ => rfl, PySem.W.mg_of X G FN.ns⟩
  have BS : Has K mg "_law_sign" ["_law_pot_here"] sSign _ _ := ⟨FS.fn, FS.fn.binds fun _ _ _ _ _ _ us hl => match us, hl with | [_], _ => rfl, PySem.W.mg_of X G FS.ns⟩
  have BH : Has K mg "_law_thing" ["_law_pot_here"] sThing _ _ := ⟨FH.fn, FH.fn.binds fun _ _ _ _ _ _ us hl => match us, hl with | [_], _ => rfl, PySem.W.mg_of X G FH.ns⟩
  have BL : Has K mg "_law_is_name" ["_law_one"] sLis _ _ := ⟨FL.fn, FL.fn.binds fun _ _ _ _ _ _ us hl => match us, hl with | [_], _ => rfl, PySem.W.mg_of X G FL.ns⟩
  have kb : KBinds K _ ["thing"] ["thing"] (· ++ ·) (· ++ ·) := kb_of FI.fn fun _ _ _ _ _ _ us ws hl => match us, ws, hl with
    | [], [_], _ => rfl
    | [_], [], _ => rfl
    | [], _ :: _ :: _, h => by simp at h
    | [_], _ :: _, h => by simp at h
    | _ :: _ :: _, _, h => by simp at h
  exact ⟨_, fun s v => .of_eq rfl, fun base _ _ => ok_law FW.fn T BI kb BC BP BT BN BS BH BL⟩
end K11
open PySem PySem.W PyProof.Rows
set_option maxHeartbeats 0 in
theorem PySem.Challenge.cw_lightturns_k11_names_holds : PySem.Challenge.rw_lightturns_k11_names.Holds := by
  w_on; o_law; k_head; (case hw => w_witness2)
  k_fill
  refine LT.end_of (l := PySem.Challenge.rw_lightturns_k11_names) (n := 63) (k := 4) (x := "_law_script") (CX := fun _ => L2.CX0) (sp := fun w => K11.spLaw _) rfl (by decide) rfl ⟨rfl, by decide, by decide⟩ (fun w h Y => PySem.W.kIn_of Y) ?F (fun _ _ a ns hl _ _ hS => ⟨a, ns, rfl, hS, hl, fun _ => rfl⟩) (fun _ _ _ _ _ h => h)
  case F =>
    intro w mg fa h KX G hmg
    refine' K11.all_mk KX G hmg ⟨?aI, ?lI, ?cI, ?kI⟩ ⟨?aC, ?lC, ?cC, ?kC⟩ ⟨?aP, ?lP, ?cP, ?kP⟩ ⟨?aT, ?lT, ?cT, ?kT⟩ ⟨?aN, ?lN, ?cN, ?kN⟩ ⟨?aS, ?lS, ?cS, ?kS⟩ ⟨?aH, ?lH, ?cH, ?kH⟩ ⟨?aL, ?lL, ?cL, ?kL⟩ ⟨?aW, ?lW, ?cW, ?kW⟩ ?gS ?gL ?z_isinstance ?z_str ?z_len ?z_all ?z_abs ?z_max ?z_min ?z_divmod ?z_range ?z_list ?z_int ?z_repr ?z_bool
    (case aI => k_is)
    (case lI => k_is)
    (case cI => k_is)
    (case kI => k_is)
    (case aC => k_is)
    (case lC => k_is)
    (case cC => k_is)
    (case kC => k_is)
    (case aP => k_is)
    (case lP => k_is)
    (case cP => k_is)
    (case kP => k_is)
    (case aT => k_is)
    (case lT => k_is)
    (case cT => k_is)
    (case kT => k_is)
    (case aN => k_is)
    (case lN => k_is)
    (case cN => k_is)
    (case kN => k_is)
    (case aS => k_is)
    (case lS => k_is)
    (case cS => k_is)
    (case kS => k_is)
    (case aH => k_is)
    (case lH => k_is)
    (case cH => k_is)
    (case kH => k_is)
    (case aL => k_is)
    (case lL => k_is)
    (case cL => k_is)
    (case kL => k_is)
    (case aW => k_is)
    (case lW => k_is)
    (case cW => k_is)
    (case kW => k_is)
    (case gS => k_is)
    (case gL => k_is)
    (case z_isinstance => k_is)
    (case z_str => k_is)
    (case z_len => k_is)
    (case z_all => k_is)
    (case z_abs => k_is)
    (case z_max => k_is)
    (case z_min => k_is)
    (case z_divmod => k_is)
    (case z_range => k_is)
    (case z_list => k_is)
    (case z_int => k_is)
    (case z_repr => k_is)
    (case z_bool => k_is)

