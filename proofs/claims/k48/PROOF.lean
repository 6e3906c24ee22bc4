import PyProof.Rows.All
import Wide.All
import OpenK.AllK
import Wide.FinOn
import HandS.ForMost
import HandS.IsInst
import HandS.Wide
import HandS.WideBits
import HandS.EndBits
import HandS.Style
import HandS.RaiseMore
import PyProof.ReprRoads
import PyProof.ListStr
import HandS.ForExc
import HandS.Exc
import HandS.ExcIs
import HandS.CallSlots
import HandS.HotCalls
import HandS.Defaults
import HandS.MakeKw
import HandS.MakeKwOnly
import HandS.Nested
import HandS.ExcInit
import KE.KExcSuper
import HandS.ExcField
import HandS.FStr
import HandS.Words
import KE.KExcIs
import HandS.Walk
import HandS.Flow
import HandS.Zip
import PySem.Challenge.RW_lightturns_k48_even_and_keeping_refused
set_option Elab.async false
set_option linter.all false
set_option maxRecDepth 100000
/-! Own layer: defs called where no repr is under way (FnG), repr of data, the end of a law by such a def. -/
namespace LT
open PySem PySem.Spec PyProof.Rows L2

structure FnG (P : Program) (w : World) (K : PySem.W.Frag) (mg : Str → Option Value) (base : Heap)
    (CX : CXT) (k : Nat) (f : Addr) (fd : FuncData) (ps : List Str) (sp : Sp) : Prop where
  argc : ∀ {vs : List V} {H : Hp} {Q : VK} {E : XK}, sp vs H Q E → vs.length = ps.length
  go : ∀ {A : Around} {outer : List Env} {s : Shared} {H : Hp} {args : Args} {us : List Value} {vs : List V}
    {Q : VK} {E : XK}, A.guards = some [] → Room k A → Env0 P w K mg base A outer s H →
    BindsTo s fd args (ps.zip us) → Vals vs us → sp vs H Q E →
    codeAny (model P w) A (.call (.ref f) args) (CR CX outer P w H s Q E) s

section
variable {P : Program} {w : World} {K : PySem.W.Frag} {mg : Str → Option Value} {base : Heap}
theorem FnG.of {CX : CXT} {k : Nat} {f : Addr} {fd : FuncData} {ps : List Str} {sp : Sp}
    (F : FnOk P w K mg base CX k f fd ps sp) : FnG P w K mg base CX k f fd ps sp :=
  ⟨fun h => F.len _ _ _ _ h, fun _ hr e b v h => F.run _ _ _ _ _ _ _ _ _ hr e b v h⟩

theorem okG {x qual : Str} {st : Stmt} {f : Addr} {fd : FuncData} {N ps : List Str} {k : Nat} {sp : Sp}
    (F : Fun K x qual st f fd) (S : FnScope N ps (defScope st))
    (argc : ∀ {vs : List V} {H : Hp} {Q : VK} {E : XK}, sp vs H Q E → vs.length = ps.length)
    (body : ∀ (cdv : Value) (A : Around) (outer : List Env) (s : Shared) (H : Hp) (vs : List V) (Q : VK) (E : XK),
      A.guards = some [] → Room k (A.deeper (envOfC qual (defScope st) s.heap.objs.size f cdv)) → sp vs H Q E →
      ∃ t, PSs (cxOf CX0 P w K mg base N qual (defScope st) f cdv A outer s H E).nox (defBody st) t ∧
        t { nx := fun _ H' => Q .non H', rt := Q } (start N vs) H) :
    FnG P w K mg base CX0 (k + 1) f fd ps sp := by
  obtain ⟨oc, od, kV, doc, pm, an, cdv, ct, osl, rfl, lk, hcd⟩ := F.ex
  refine ⟨argc, ?_⟩
  intro A outer s H args us vs Q E hg hr e0 hb r hsp
  have inS : ∀ b o, base.get? b = some o → s.heap.get? b = some o := fun b o e => (e0.bs b o e).1
  have KX : K.In s.heap := e0.mod.kin.keeps inS
  have hkind : ∀ y ∈ ps.zip us, (defScope st).names.lookup y.1 = some .local ∨
      ((defScope st).names.lookup y.1 = some .cell ∧
        ((cellsFrom (s.heap.objs.size + 1) (defScope st).names []).lookup y.1).isSome = true) := by
    rintro ⟨n, v⟩ hy
    rcases S.par n (List.of_mem_zip hy).1 with q | q
    · exact Or.inl q
    · exact Or.inr ⟨q, PySem.W.cellsFrom_some _ _ _ (Or.inl q)⟩
  refine codeAny_call_function hr.depth (KX _ _ lk) rfl S.co S.gen rfl (PySem.W.codeRec_of KX hcd)
    (hb _ _ _ _ (wpAny_newFunctionEnv_cells S.kind hkind fun env he s1 x => ?_))
  subst he
  refine ⟨(e0.mod.nolimit.keeps inS).keeps x.toInCall.keep, codeAny_func ?_⟩
  obtain ⟨t, ht, hq⟩ := body cdv A outer s H vs Q E hg (hr.deeper _) hsp
  have I := inv_start (CX := CX0) (N := N) (qual := qual) (f := f) (cd := cdv) (E := E) S hr.hd e0 (argc hsp) r x
  refine wpAny_mono (ht.nox.run [] s1 (start N vs) H _ I hq) (fun fl s' hs => ?_) (fun e s' hs => hs)
  cases fl with
  | brk => obtain ⟨_, _, _, q⟩ := hs; exact q.elim
  | cont => obtain ⟨_, _, _, q⟩ := hs; exact q.elim
  | next =>
    obtain ⟨σ', H', J, q⟩ := hs
    exact ⟨V.non, H', J.os, J.bare, J.base, J.hok, rfl, q⟩
  | ret u =>
    obtain ⟨v, σ', H', J, rv, q⟩ := hs
    exact ⟨v, H', J.os, J.bare, J.base, J.hok, rv, q⟩
end

/-! ### the call of such a def -/
section
variable {X : Cx} {CX : CXT} {k : Nat} {f : Addr} {fd : FuncData} {ps : List Str} {sp : Sp} {dvs : List V}
  {ds : List Value} {E : XK} {x : Str} {p pos : Pos} {e : Expr} {es : List Expr} {t : TA}
theorem runG {pins : List (Addr × Obj)} {σ : L2.St} {H : Hp} {s : Shared} {Q : VK} {us : List Value} {vs : List V}
    (F : FnG X.prog X.w X.K X.mg X.base CX k f fd ps sp) (hg : X.A.guards = some []) (hr : Room k X.A)
    (hb : Binds X.K fd ps ds) (hd : Vals dvs ds) (hx : Passes CX X E)
    (I : Inv X pins σ H s) (r : Vals vs us) (h : sp (vs ++ dvs) H Q E) :
    wpAny (model X.prog X.w) X.A (call (.ref f) us) (EP X pins σ Q) X.xe s := by
  have r2 : Vals (vs ++ dvs) (us ++ ds) := r.append hd
  have hl : (us ++ ds).length = ps.length := r2.length.symm.trans (F.argc h)
  refine wpAny_call (codeAny_mono (F.go hg hr I.env0 (hb s us I.kIn hl) r2 h) fun r s' hq => ?_)
  match r, hq with
  | .error e, hq => exact hx pins σ H s e s' I hq
  | .ok (.ret u), hq => exact I.after hq
  | .ok .next, hq => exact hq.elim
  | .ok .brk, hq => exact hq.elim
  | .ok .cont, hq => exact hq.elim
theorem pe_callG (F : FnG X.prog X.w X.K X.mg X.base CX k f fd ps sp) (hG : X.A.guards = some []) (hr : Room k X.A)
    (hg : Gl X x) (hm : X.mg x = some (.ref f)) (hk : PySem.W.keepIn X.K (.ref f) = true) (hb : Binds X.K fd ps ds)
    (hd : Vals dvs ds) (hx : Passes CX X E) (ha : PA X (e :: es) t)
    (hdb : (x == ("__debug__" : Str)) = false := by decide)
    (he : starEach (e :: es) X.env = (false, eval e X.env) :: starEach es X.env := by rfl)
    (hpl : (backTo pos (starEach es X.env)).any (·.1) = false := by rfl) :
    PE X (.Call (.Name x p) (e :: es) [] pos) (tCall sp dvs E t) := by
  refine ⟨fun pins s σ H Q I h => wpAny_Call_Name_kw (ld_glob I hg hm ?_ hdb)⟩
  refine PySem.W.callWith_K (h₀ := X.base) I.ok.mod.kin hk ?_ he hpl
  exact thn (ha.run pos pins s σ H _ I h) fun us s1 ⟨vs, H1, I1, r, q⟩ => ⟨I1.kIn, runG F hG hr hb hd hx I1 r q⟩

/-- f(k = v, ..), keywords alone -/
theorem pe_callKw {ks : List Str} {kws : List Keyword} {tk : TA} {g : List Value → List Value → List Value} {gV : List V → List V → List V}
    (F : FnOk X.prog X.w X.K X.mg X.base CX k f fd ps sp) (hr : Room k X.A) (hg : Gl X x) (hm : X.mg x = some (.ref f))
    (hk : PySem.W.keepIn X.K (.ref f) = true) (hb : KBinds X.K fd ps ks g gV) (hx : Passes CX X E) (hkw : PK X kws tk)
    (hall : (backToKw pos (keywordEach kws X.env)).all (·.1.isSome) = true := by rfl)
    (hks : (backToKw pos (keywordEach kws X.env)).filterMap (·.1) = ks := by rfl)
    (hdb : (x == ("__debug__" : Str)) = false := by decide)
    (hpl : ((backTo pos (starEach [] X.env)).any (·.1) || (backToKw pos (keywordEach kws X.env)).any (·.1.isNone)) = false := by rfl) :
    PE X (.Call (.Name x p) [] kws pos) (tCallK sp gV E tNil tk) := by
  refine ⟨fun pins s σ H Q I h => wpAny_Call_Name_kw (ld_glob I hg hm ?_ hdb)⟩
  refine PySem.W.callWith_KW0 (h₀ := X.base) I.ok.mod.kin hk hall ?_ hpl
  refine thn (hkw.run pos pins s σ H _ I h) fun ws s2 ⟨zs, H2, I2, rz, q2⟩ => ⟨I2.kIn, ?_⟩
  rw [hks]
  exact run_fnk (us := []) F hr hb hx I2 .nil rz q2
/-- positional values, then those of keywords, in the order of the parameters -/
theorem kb_of {K : PySem.W.Frag} {y qual : Str} {st : Stmt} {f : Addr} {fd : FuncData} {ps ks : List Str} (F : Fun K y qual st f fd)
    (h : ∀ (kV doc pm : Value) (an : Option Addr) (cdv ct : Value) (us ws : List Value), (us ++ ws).length = ps.length →
      bindArgs (PySem.W.fnOf y qual (defArgs st) (defBody st) (defScope st) .none kV doc pm an cdv ct) ⟨us, ks.zip ws⟩ = pure (ps.zip (us ++ ws))) :
    KBinds K fd ps ks (· ++ ·) (· ++ ·) := by
  obtain ⟨oc, od, kV, doc, pm, an, cdv, ct, osl, rfl, lk, hcd⟩ := F.ex
  exact ⟨fun s us ws _ hl => .of_eq (h kV doc pm an cdv ct us ws hl), fun r z => r.append z⟩
end

/-! ### repr of data -/
inductive Sh (K : PySem.W.Frag) (H : Hp) : V → PyData → Prop
  | dp {v : V} {d : PyData} : Dp K H v d → d.hasDict = false → Sh K H v d
  | one {a : Addr} {k : Str} {i : Int} : H a = some (.dK [(.inr k, .int i)]) → Sh K H (.ref a) (.dict [(.str k, .int i)])
section
variable {X : Cx} {pins : List (Addr × Obj)} {σ : L2.St} {H : Hp} {s : Shared}
theorem Sh.reads (I : Inv X pins σ H s) {v : V} {d : PyData} {u : Value} (h : Sh X.K H v d) (r : RelV v u) :
    ∃ as, Reads s.heap u d as ∧ (d.hasDict = true → sysModules ∉ as) := by
  cases h with
  | dp h hd =>
    obtain ⟨as, q⟩ := Dp.reads I d v u h r
    exact ⟨as, q, PyData.noDict_hsm hd⟩
  | one h =>
    rename_i a k i
    cases r
    obtain ⟨_, hs, vs, rel, o, es, ep, ho, hx, hd, hko, hp, hn⟩ := I.hok a _ h
    cases rel with
    | cons r1 r2 =>
      cases r2
      rename_i kv
      obtain ⟨kk, uu⟩ := kv
      obtain ⟨e1, t, e2⟩ := r1
      cases e1
      cases e2
      generalize hes : es.toList = l at hp
      cases hp with
      | cons k1 k2 k3 =>
        cases k3
        rename_i e
        have k0 : keyIs (Sum.inr k) e.key = true := k1
        obtain ⟨_, _, z, _⟩ | ⟨y, t', z, e3⟩ := keyIs_shape k0
        · cases z
        · cases z
          refine ⟨_, Reads.dict (as := []) (bs := []) ho hx.1 hd ?_ ?_, fun _ z => ?_⟩
          · rw [hes, List.map_cons, List.map_nil, e3]
            exact ReadsAll.cons (Reads.str _ _) .nil
          · rw [hes, List.map_cons, List.map_nil, k2]
            exact ReadsAll.cons (Reads.int _ _) .nil
          · have z2 : sysModules = a := by simpa using z
            rw [z2] at hs
            simp at hs
theorem call_reprSh (hG : X.A.guards = some []) (hu : X.A.units + 64 < cLine) : CallR X (.builtin "repr")
    (fun xs H Q => ∃ x d, xs = [x] ∧ Sh X.K H x d ∧ d.showable = true ∧ d.depth ≤ 60 ∧ d.shown.length ≤ sizeLine ∧
      Q (.str d.shown) H) := by
  intro pins s σ H xs us Q I r h
  obtain ⟨x, d, rfl, hs, sh, dp, sz, q⟩ := h
  obtain ⟨u, rfl, ru⟩ := vals1 r
  obtain ⟨as, rd, hm⟩ := hs.reads I ru
  cases rd with
  | none => exact PySem.P.repr_of_none ⟨.str _, H, I.tok _, ⟨_, rfl⟩, q⟩
  | bool b => exact PySem.P.repr_of_bool ⟨.str _, H, I.tok _, ⟨_, rfl⟩, q⟩
  | int i t => exact PySem.P.repr_of_int (of_decide_eq_true sh) ⟨.str _, H, I.tok _, ⟨_, rfl⟩, q⟩
  | str y t => exact PySem.P.repr_of_str ⟨.str _, H, I.tok _, ⟨_, rfl⟩, q⟩ sz
  | list h1 h2 h3 h4 =>
    exact repr_of_reads' (.list h1 h2 h3 h4) sh hm hG (by omega) (fun _ _ e => e) (fun h' u tk hk => ⟨.str _, H, I.kept hk, ⟨_, rfl⟩, q⟩) sz
  | tuple h1 h2 h3 h4 =>
    exact repr_of_reads' (.tuple h1 h2 h3 h4) sh hm hG (by omega) (fun _ _ e => e) (fun h' u tk hk => ⟨.str _, H, I.kept hk, ⟨_, rfl⟩, q⟩) sz
  | dict h1 h2 h3 h4 h5 =>
    exact repr_of_reads' (.dict h1 h2 h3 h4 h5) sh hm hG (by omega) (fun _ _ e => e) (fun h' u tk hk => ⟨.str _, H, I.kept hk, ⟨_, rfl⟩, q⟩) sz
end

/-! ### text * number, list(text) -/
section
variable {X : Cx}
theorem rep_list (a : Array Nat) : ∀ (n : Nat) (acc : Array Nat),
    ((List.replicate n a).foldl (· ++ ·) acc).toList = acc.toList ++ (List.replicate n a.toList).flatten
  | 0, acc => by simp
  | n + 1, acc => by
    rw [List.replicate_succ, List.foldl_cons, rep_list a n, List.replicate_succ, List.flatten_cons, Array.toList_append, List.append_assoc]
theorem rep_len (a : Str) (n : Nat) : (Str.mk ((List.replicate n a.cps).foldl (· ++ ·) #[])).length = n * a.length := by
  show Array.size _ = n * a.cps.size
  rw [← Array.length_toList, rep_list]
  simp [List.sum_replicate_nat]
theorem op_mul_str : OpR X (binaryOp .Mult) (fun x y H Q => ∃ (a : Str) (n : Int), x = .str a ∧ y = .int n ∧ 2 ≤ n ∧ n ≤ 1000 ∧ 1 ≤ a.length ∧ a.length ≤ 1000 ∧
    Q (.str ⟨(List.replicate n.toNat a.cps).foldl (· ++ ·) #[]⟩) H) := by
  intro pins s σ H x y v u Q I rx ry h
  obtain ⟨a, n, rfl, rfl, h2, hn, h1, ha, q⟩ := h
  obtain ⟨t, rfl⟩ := rx
  obtain ⟨t', rfl⟩ := ry
  have hz : a.length * n.toNat ≤ 1000000 := Nat.le_trans (Nat.mul_le_mul ha (show n.toNat ≤ 1000 by omega)) (by decide)
  refine PySem.P.mul_str ?_ (fun _ _ => ?_) (fun _ _ => ?_) ?_
  · rw [decide_eq_false (by omega), decide_eq_false (by omega)]
    rfl
  · have h3 : (1000 : Int) ≤ (2 ^ 63 - 1) / n := by
      rw [Int.le_ediv_iff_mul_le (by omega)]
      omega
    omega
  · exact decide_eq_false (by rw [sizeLine_eq]; omega)
  · rw [if_neg (by omega), if_neg]
    · refine ⟨?_, .str _, H, I.tok _, ⟨_, rfl⟩, q⟩
      rw [rep_len, sizeLine_eq, Nat.mul_comm]
      omega
    · rw [Bool.or_eq_true, beq_iff_eq, beq_iff_eq]
      omega
theorem paired_of {α β : Type} {R : α → β → Prop} : ∀ {xs : List α} {ys : List β}, xs.length = ys.length →
    (∀ (j : Nat) x y, xs[j]? = some x → ys[j]? = some y → R x y) → Paired R xs ys
  | [], [], _, _ => .nil
  | [], _ :: _, h, _ => by cases h
  | _ :: _, [], h, _ => by cases h
  | x :: xs, y :: ys, h, f => .cons (f 0 x y rfl rfl) (paired_of (Nat.succ.inj h) fun j a b h1 h2 => f (j + 1) a b h1 h2)
theorem call_list_txt (hc : X.calm = true) : CallR X (.type "list") (fun xs H Q => ∃ (a : Str), xs = [.str a] ∧ a.length ≤ sizeLine ∧
    ∀ l, H l = none → Q (.ref l) (upd H l (.lst (a.cps.toList.map fun c => V.str ⟨#[c]⟩)))) := by
  intro pins s σ H xs us Q I r h
  obtain ⟨a, rfl, hl, q⟩ := h
  obtain ⟨u, rfl, t, rfl⟩ := vals1 r
  refine call_list_str (I.ok.hd hc) a t (hn := hl) fun h' tk acc c hk ho hit => ?_
  have hn : H s.heap.objs.size = none := I.hok.fresh (Nat.le_refl _)
  refine ⟨.ref s.heap.objs.size, _, I.laid (t' := tk) hk (Nat.le_refl _) ?_, rfl, q _ hn⟩
  refine ⟨?_, acc.toList, c, ?_, by simpa using ho⟩
  · rw [List.length_map, Array.length_toList]
    exact hl
  · refine paired_of (by rw [List.length_map, Array.length_toList, Array.length_toList, hit.1]) fun j v u h1 h2 => ?_
    rw [List.getElem?_map, Array.getElem?_toList] at h1
    obtain ⟨d, t', h3, rfl⟩ := hit.2 j u (by rw [← Array.getElem?_toList]; exact h2)
    rw [h3] at h1
    cases h1
    exact ⟨t', rfl⟩
end

/-! ### the end of a law whose def wants that no repr is under way -/
theorem end_call {P : Program} {w : World} {K : PySem.W.Frag} {mg mb : Str → Option Value} {CX : CXT} {k : Nat} {fa a : Addr}
    {fd : FuncData} {x : Str} {sp : Sp} {s₁ : Shared} {vs : List Value} {ns : List Int}
    (KX : K.In s₁.heap) (hns : s₁.heap.Ns mainGlobals mg) (hb : s₁.heap.Ns builtinsNs mb)
    (hbb : ∀ x : Str, x ≠ "__name__" → mb x = bootBuiltins x) (hlim : s₁.heap.NoLimit) (hg : s₁.gens = #[])
    (ha : s₁.heap.get? a = some { cls := .type "list", data := .seq vs.toArray }) (hi : IntsAre vs ns)
    (hl : ns.length ≤ sizeLine) (hr : Room k callerA)
    (F : ∀ base : Heap, K.In base → base.Ns mainGlobals mg → FnG P w K mg base CX k fa fd [x] sp)
    (hbind : ∀ (s : Shared) (u : Value), BindsTo s fd ⟨[u], []⟩ [(x, u)])
    (hsp : ∀ H : Hp, Only H → SqL K H a (ns.map V.int) → sp [.ref a] H (fun v _ => v = .bl true) fun _ _ _ => False)
    (hCX : ∀ H e s', CX [] H s₁ (fun _ _ _ => False) e s' → False) :
    codeAny (model P w) callerA (.call (.ref fa) ⟨[.ref a], []⟩)
      (fun r s' => r = .ok (.ret (.bool true)) ∧ OldK s₁.heap s'.heap ∧ s'.os = s₁.os ∧ AllBare s'.gens) s₁ := by
  have lenV := hi.length
  have start : ∀ H : Hp, Only H → SqL K H a (ns.map V.int) → HOk P w H s₁.heap → (∀ b, H b ≠ none → b = a) →
      (H a ≠ none → K.lookup a = none) → codeAny (model P w) callerA (.call (.ref fa) ⟨[.ref a], []⟩)
        (fun r s' => r = .ok (.ret (.bool true)) ∧ OldK s₁.heap s'.heap ∧ s'.os = s₁.os ∧ AllBare s'.gens) s₁ := by
    intro H hO hS hok hA hK
    have free : ∀ {b : Addr}, (b = a → False) → H b = none := fun {b} hne => by
      cases q : H b with
      | none => rfl
      | some u => exact (hne (hA b (by rw [q]; exact Option.some_ne_none u))).elim
    have nsK : ∀ {b : Addr} {m : Str → Option Value}, s₁.heap.Ns b m → (hidT s₁.heap H).Ns b m := by
      rintro b m ⟨o, es, ep, e, d, r⟩
      refine ⟨o, es, ep, hidT_get e (free fun z => ?_), d, r⟩
      subst z
      rw [ha] at e
      cases e
      cases d
    have inK : K.In (hidT s₁.heap H) := fun b o e => hidT_get (KX b o e) (by
      cases q : H b with
      | none => rfl
      | some u =>
        obtain rfl : b = a := hA b (by rw [q]; exact Option.some_ne_none u)
        have z := hK (by rw [q]; exact Option.some_ne_none u)
        rw [z] at e
        cases e)
    have hM : Mod K mg (hidT s₁.heap H) := ⟨inK, nsK hns, ⟨mb, nsK hb, hbb⟩, hlim.imp fun _ z => ⟨nsK z.1, z.2⟩⟩
    have e0 : Env0 P w K mg (hidT s₁.heap H) callerA [] s₁ H :=
      ⟨rfl, hM, fun b o e => of_hidT e, Nat.le_of_eq (hidT_size _ _), trivial,
        fun b z => absurd (show b ∈ ([] : List Addr) from z) List.not_mem_nil, hok, .of_eq hg⟩
    refine codeAny_mono ((F _ inK (nsK hns)).go (us := [.ref a]) (vs := [.ref a]) rfl hr e0 (hbind s₁ (.ref a)) (.cons rfl .nil) (hsp H hO hS)) fun r s' h => ?_
    match r, h with
    | .error e, h => exact (hCX H e s' h).elim
    | .ok .next, h => exact h.elim
    | .ok .brk, h => exact h.elim
    | .ok .cont, h => exact h.elim
    | .ok (.ret u), h =>
      obtain ⟨v, H', os, bare, un, hok', r', rfl⟩ := h
      obtain rfl : u = Value.bool true := r'
      refine ⟨rfl, OldK.of_keep fun b o e => ?_, os, bare⟩
      rcases hO b with z | ⟨ob, xs, z⟩
      · exact un.keep b o e z (fun y => absurd (show b ∈ ([] : List Addr) from y) List.not_mem_nil) List.not_mem_nil
      · have z1 := (hok b _ z).1
        rw [e] at z1
        cases z1
        exact (hok' b _ (un.frzs b _ _ z)).1
  cases hk : K.lookup a with
  | some o =>
    have e := KX a o hk
    rw [ha] at e
    cases e
    refine start (fun _ => none) (fun _ => .inl rfl) (.inr ⟨_, vs.toArray, _, hk, rfl, rfl, rfl, ?_, by simpa using vals_ints hi⟩)
      (fun b u z => nomatch z) (fun b z => absurd rfl z) fun z => absurd rfl z
    rw [List.size_toArray, lenV]
    exact hl
  | none =>
    refine start (upd (fun _ => none) a (.frz { cls := .type "list", data := .seq vs.toArray } (.lst (ns.map V.int))))
      (fun b => ?_) (.inl (.inr ⟨_, upd_same⟩)) (fun b u z => ?_) (fun b z => ?_) fun _ => hk
    · by_cases q : b = a
      · exact .inr ⟨_, _, by rw [q]; exact upd_same⟩
      · exact .inl (upd_ne q)
    · by_cases q : b = a
      · subst q
        rw [upd_same] at z
        cases z
        exact ⟨ha, by rw [List.length_map]; exact hl, vs, _, vals_ints hi, ha⟩
      · rw [upd_ne q] at z
        cases z
    · by_cases q : b = a
      · exact q
      · exact absurd (upd_ne q) z

theorem end_of {l : PySem.W.OpenLaw} {n k : Nat} {q : Program} {loose : List Str} {XP : (Str → Option Value) → Heap → Prop}
    {YP : World → Heap → Prop} {d : DefRec} {K : Params → PySem.W.Frag} {CX : World → CXT} {sp : World → Sp} {x : Str}
    (hn : l.most = some n) (hn2 : n ≤ sizeLine) (hdf : d.params.defaults = []) (hr : Room k callerA)
    (hY : ∀ (w : World) (h : Heap), YP w h → (K w.params).In h)
    (F : ∀ (w : World) (mg : Str → Option Value) (fa : Addr) (h : Heap), (K w.params).In h → h.Ns mainGlobals mg →
      mg d.name = some (.ref fa) → ∃ fd : FuncData, (∀ (s : Shared) (u : Value), BindsTo s fd ⟨[u], []⟩ [(x, u)]) ∧
        ∀ base : Heap, (K w.params).In base → base.Ns mainGlobals mg →
          FnG l.prog w (K w.params) mg base (CX w) k fa fd [x] (sp w))
    (hsp : ∀ (w : World) (H : Hp) (a : Addr) (ns : List Int), ns.length ≤ n →
      (∀ z ∈ ns, Builtin.Int.intBits z ≤ 1048576) → Only H → SqL (K w.params) H a (ns.map V.int) →
      sp w [.ref a] H (fun v _ => v = .bl true) fun _ _ _ => False)
    (hCX : ∀ (w : World) (H : Hp) (s : Shared) (e : Value) (s' : Shared), CX w [] H s (fun _ _ _ => False) e s' → False) :
    PySem.W.WalkO q loose XP YP l.row.toRowW d [] (fun f vs => PySem.call f vs) :=
  Att.attach_callB hn hdf fun w _ s₁ mg mb fa o pm cd doc a vs ns G Y ho hd hcd hmg hobj hints hlen hbits hg => by
    obtain ⟨fd, hb, hF⟩ := F w mg fa _ (hY w _ Y) G.T.g hmg
    exact end_call (hY w _ Y) G.T.g G.T.b G.T.builtins G.T.nolimit hg hobj hints (Nat.le_trans hlen hn2) hr hF hb
      (fun H hO hS => hsp w H a ns hlen hbits hO hS) fun H e s' => hCX w H s₁ e s'
end LT

set_option Elab.async false
set_option linter.all false
set_option maxRecDepth 100000
/-! Own layer: a def to which the caught error is handed; isinstance of it there. -/
namespace LT
open PySem PySem.Spec PyProof.Rows L2
/-- as FnOk, called within an except suite; p is the caught error, which the promise may name -/
structure FnE (P : Program) (w : World) (K : PySem.W.Frag) (mg : Str → Option Value) (base : Heap)
    (k : Nat) (f : Addr) (fd : FuncData) (ps : List Str) (sp : Addr × Obj → Sp) : Prop where
  argc : ∀ {p : Addr × Obj} {vs : List V} {H : Hp} {Q : VK} {E : XK}, sp p vs H Q E → vs.length = ps.length
  go : ∀ {A : Around} {outer : List Env} {s : Shared} {H : Hp} {args : Args} {us : List Value} {vs : List V}
    {Q : VK} {E : XK} {p : Addr × Obj}, L2H.RoomH k A → L2H.PinOk outer H s p → Env0 P w K mg base A outer s H →
    BindsTo s fd args (ps.zip us) → Vals vs us → sp p vs H Q E →
    codeAny (model P w) A (.call (.ref f) args) (CR CX0 outer P w H s Q E) s
section
variable {P : Program} {w : World} {K : PySem.W.Frag} {mg : Str → Option Value} {base : Heap}
theorem okE {x qual : Str} {st : Stmt} {f : Addr} {fd : FuncData} {N ps : List Str} {k : Nat} {sp : Addr × Obj → Sp}
    (F : Fun K x qual st f fd) (S : FnScope N ps (defScope st))
    (argc : ∀ {p : Addr × Obj} {vs : List V} {H : Hp} {Q : VK} {E : XK}, sp p vs H Q E → vs.length = ps.length)
    (body : ∀ (cdv : Value) (A : Around) (outer : List Env) (s : Shared) (H : Hp) (vs : List V) (Q : VK) (E : XK) (p : Addr × Obj),
      L2H.RoomH k (A.deeper (envOfC qual (defScope st) s.heap.objs.size f cdv)) → sp p vs H Q E →
      ∃ t, PSs (L2H.cxH CX0 P w K mg base N qual (defScope st) f cdv A outer s H E p).nox (defBody st) t ∧
        t { nx := fun _ H' => Q .non H', rt := Q } (start N vs) H) :
    FnE P w K mg base (k + 1) f fd ps sp := by
  obtain ⟨oc, od, kV, doc, pm, an, cdv, ct, osl, rfl, lk, hcd⟩ := F.ex
  refine ⟨argc, ?_⟩
  intro A outer s H args us vs Q E p hr hpin e0 hb r hsp
  have inS : ∀ b o, base.get? b = some o → s.heap.get? b = some o := fun b o e => (e0.bs b o e).1
  have KX : K.In s.heap := e0.mod.kin.keeps inS
  have hkind : ∀ y ∈ ps.zip us, (defScope st).names.lookup y.1 = some .local ∨
      ((defScope st).names.lookup y.1 = some .cell ∧
        ((cellsFrom (s.heap.objs.size + 1) (defScope st).names []).lookup y.1).isSome = true) := by
    rintro ⟨n, v⟩ hy
    rcases S.par n (List.of_mem_zip hy).1 with q | q
    · exact Or.inl q
    · exact Or.inr ⟨q, PySem.W.cellsFrom_some _ _ _ (Or.inl q)⟩
  refine codeAny_call_function hr.depth (KX _ _ lk) rfl S.co S.gen rfl (PySem.W.codeRec_of KX hcd)
    (hb _ _ _ _ (wpAny_newFunctionEnv_cells S.kind hkind fun env he s1 x => ?_))
  subst he
  refine ⟨(e0.mod.nolimit.keeps inS).keeps x.toInCall.keep, codeAny_func ?_⟩
  obtain ⟨t, ht, hq⟩ := body cdv A outer s H vs Q E p (hr.deeper _) hsp
  have I := L2H.inv_startH (CX := CX0) (N := N) (qual := qual) (f := f) (cd := cdv) (E := E) S hpin e0 (argc hsp) r x
  refine wpAny_mono (ht.nox.run [] s1 (start N vs) H _ I hq) (fun fl s' hs => ?_) (fun e s' hs => hs)
  cases fl with
  | brk => obtain ⟨_, _, _, q⟩ := hs; exact q.elim
  | cont => obtain ⟨_, _, _, q⟩ := hs; exact q.elim
  | next =>
    obtain ⟨σ', H', J, q⟩ := hs
    exact ⟨V.non, H', J.os, J.bare, J.base, J.hok, rfl, q⟩
  | ret u =>
    obtain ⟨v, σ', H', J, rv, q⟩ := hs
    exact ⟨v, H', J.os, J.bare, J.base, J.hok, rv, q⟩
end
section
variable {X : Cx} {k : Nat} {f : Addr} {fd : FuncData} {ps : List Str} {sp : Addr × Obj → Sp} {x : Str} {q pos : Pos} {e : Expr}
  {es : List Expr} {t : TA} {p : Addr × Obj}
/-- the call of such a def, where p is pinned -/
def tCallE (p : Addr × Obj) (sp : Addr × Obj → Sp) (t : TA) : TE := fun σ H Q => t σ H fun vs H1 => sp p vs H1 Q E0
theorem pe_callE (F : FnE X.prog X.w X.K X.mg X.base k f fd ps sp) (hr : L2H.RoomH k X.A) (hp : p ∈ X.pn) (hg : Gl X x)
    (hm : X.mg x = some (.ref f)) (hk : PySem.W.keepIn X.K (.ref f) = true) (hb : L2.Binds X.K fd ps []) (ha : PA X (e :: es) t)
    (hdb : (x == ("__debug__" : Str)) = false := by decide)
    (he : starEach (e :: es) X.env = (false, eval e X.env) :: starEach es X.env := by rfl)
    (hpl : (backTo pos (starEach es X.env)).any (·.1) = false := by rfl) :
    PE X (.Call (.Name x q) (e :: es) [] pos) (tCallE p sp t) := by
  refine ⟨fun pins s σ H Q I h => wpAny_Call_Name_kw (ld_glob I hg hm ?_ hdb)⟩
  refine PySem.W.callWith_K (h₀ := X.base) I.ok.mod.kin hk ?_ he hpl
  refine thn (ha.run pos pins s σ H _ I h) fun us s1 ⟨vs, H1, I1, r, h1⟩ => ⟨I1.kIn, ?_⟩
  have hl : (us ++ []).length = ps.length := by
    rw [List.append_nil, ← r.length]
    exact F.argc h1
  have b := hb s1 us I1.kIn hl
  rw [List.append_nil] at b
  obtain ⟨p1, p2, p3, p4, p5⟩ := I1.pin p (List.mem_append_left _ hp)
  have pin : L2H.PinOk X.stack H1 s1 p := ⟨p1, p2, fun z => (List.mem_cons.mp (I1.stkSub p.1 z)).elim p3 p4, p5⟩
  refine wpAny_call (codeAny_mono (F.go hr pin I1.env0 b r h1) fun r s' hq => ?_)
  match r, hq with
  | .error _, hq => exact hq.elim
  | .ok (.ret u), hq => exact I1.after hq
  | .ok .next, hq => exact hq.elim
  | .ok .brk, hq => exact hq.elim
  | .ok .cont, hq => exact hq.elim
end
section
variable {X : Cx} {k : Nat} {f a : Addr} {oe : Obj} {cls : Value} {d : Option Addr} {fd : FuncData} {ps : List Str} {sp : Addr × Obj → Sp} {x : Str} {q pos : Pos} {e : Expr}
  {es : List Expr} {t : TA} {pn : List (Addr × Obj)}
/-- .. in an except suite; its reading names the error by its class and dict alone -/
def tCallZ (a : Addr) (cls : Value) (d : Option Addr) (sp : Addr × Obj → Sp) (t : TA) : TE := fun σ H Q => t σ H fun vs H1 =>
  ∀ oe : Obj, Zc cls d oe → (∃ vs, oe.data = .fields vs) → sp (a, oe) vs H1 Q E0
theorem pe_callZ (F : FnE X.prog X.w X.K X.mg X.base k f fd ps sp) (hr : Room k X.A) (hz : Zc cls d oe) (hf : ∃ vs, oe.data = .fields vs) (hg : Gl X x)
    (hm : X.mg x = some (.ref f)) (hk : PySem.W.keepIn X.K (.ref f) = true) (hb : L2.Binds X.K fd ps []) (ha : PA (X.suite a ((a, oe) :: pn)) (e :: es) t)
    (hdb : (x == ("__debug__" : Str)) = false := by decide)
    (he : starEach (e :: es) X.env = (false, eval e X.env) :: starEach es X.env := by rfl)
    (hpl : (backTo pos (starEach es X.env)).any (·.1) = false := by rfl) :
    PE (X.suite a ((a, oe) :: pn)) (.Call (.Name x q) (e :: es) [] pos) (tCallZ a cls d sp t) := by
  refine ⟨fun pins s σ H Q I h => ?_⟩
  have h2 : t σ H fun vs H1 => (fun vs H1 => ∀ oe : Obj, Zc cls d oe → (∃ vs, oe.data = .fields vs) → sp (a, oe) vs H1 Q E0) vs H1 := h
  refine (wpAny_Call_Name_kw (ld_glob (X := X.suite a ((a, oe) :: pn)) I hg hm ?_ hdb))
  refine PySem.W.callWith_K (h₀ := X.base) I.ok.mod.kin hk ?_ he hpl
  refine thn (ha.run pos pins s σ H _ I h2) fun us s1 ⟨vs, H1, I1, r, h1⟩ => ⟨I1.kIn, ?_⟩
  have h1 := h1 oe hz hf
  have hl : (us ++ []).length = ps.length := by
    rw [List.append_nil, ← r.length]
    exact F.argc h1
  have b := hb s1 us I1.kIn hl
  rw [List.append_nil] at b
  obtain ⟨p1, p2, p3, p4, p5⟩ := I1.pin (a, oe) (List.mem_append_left _ List.mem_cons_self)
  have pin : L2H.PinOk X.stack H1 s1 (a, oe) := ⟨p1, p2, fun z => (List.mem_cons.mp (I1.stkSub a z)).elim p3 p4, p5⟩
  refine wpAny_call (codeAny_mono (F.go (A := X.A.mark (some (.ref a))) ⟨hr.dp, hr.un⟩ pin I1.env0 b r h1) fun r s' hq => ?_)
  match r, hq with
  | .error _, hq => exact hq.elim
  | .ok (.ret u), hq => exact I1.after hq
  | .ok .next, hq => exact hq.elim
  | .ok .brk, hq => exact hq.elim
  | .ok .cont, hq => exact hq.elim
end
/-! ### isinstance of the pinned error -/
section
variable {X : Cx} {a D : Addr} {oe : Obj}
theorem pinned_at {pins : List (Addr × Obj)} {σ : L2.St} {H : Hp} {s : Shared} (I : Inv X pins σ H s) (hp : (a, oe) ∈ X.pn) (hz : Zc (.ref D) none oe)
    (hf : ∃ vs, oe.data = .fields vs) : PySem.W.InstAt s.heap a oe D none := by
  obtain ⟨hget, _⟩ := I.pin (a, oe) (List.mem_append_left _ hp)
  obtain ⟨vs, hv⟩ := hf
  obtain ⟨oc, od, oda, osl⟩ := oe
  obtain ⟨h1, h2⟩ := hz
  dsimp only at h1 h2 hv
  subst h1 h2 hv
  exact ⟨hget, rfl, rfl, trivial⟩
theorem call_isP (hp : (a, oe) ∈ X.pn) (C : ExcC X.K D) (hz : Zc (.ref D) none oe) (hf : ∃ vs, oe.data = .fields vs) :
    CallR X (.builtin "isinstance") (fun xs H Q => ∃ (c : V) (cv : Value) (b : Bool), xs = [.ref a, c] ∧ ClsV c cv ∧ PySem.W.kitOne X.K (.ref D) cv = some b ∧ Q (.bl b) H) := by
  intro pins s σ H xs us Q I r h
  obtain ⟨c, cv, b, rfl, hc, e, q⟩ := h
  obtain ⟨u1, u2, rfl, r1, r2⟩ := vals2 r
  have e2 := hc.eq r2
  subst e2
  cases r1
  exact PySem.W.kia_one (PySem.W.handS_kitx_exc C.hg C.hk C.hs C.hd C.ha C.hn C.ht C.hm) I.kIn (pinned_at I hp hz hf) e (fun z => nomatch z)
    fun tk => ⟨.bl b, H, I.tok tk, rfl, q⟩
theorem call_isPT (hp : (a, oe) ∈ X.pn) (C : ExcC X.K D) (hz : Zc (.ref D) none oe) (hf : ∃ vs, oe.data = .fields vs) :
    CallR X (.builtin "isinstance") (fun xs H Q => ∃ (tp : Addr) (cs : List V) (us : List Value) (b : Bool), xs = [.ref a, .ref tp] ∧ H tp = some (.tup cs) ∧ Paired ClsV cs us ∧
      PySem.W.kitAny X.K (.ref D) us = some b ∧ Q (.bl b) H) := by
  intro pins s σ H xs us Q I r h
  obtain ⟨tp, cs, ws, b, rfl, hT, k, e, q⟩ := h
  obtain ⟨u1, u2, rfl, r1, r2⟩ := vals2 r
  cases r1
  cases (show u2 = Value.ref tp from r2)
  obtain ⟨_, its, rv, o, h1, h2, n, h3⟩ := (show ObjOk X.prog X.w H s.heap tp (.tup cs) from I.hok tp _ hT)
  have e3 := ClsV.all k rv
  subst e3
  obtain ⟨oc, od, dt, sl⟩ := o
  simp only at h2 h3
  subst h2 h3
  exact PySem.W.kia_tup (PySem.W.handS_kitx_exc C.hg C.hk C.hs C.hd C.ha C.hn C.ht C.hm) I.kIn (pinned_at I hp hz hf) h1 e (fun z => nomatch z)
    fun tk => ⟨.bl b, H, I.tok tk, rfl, q⟩
end
end LT

set_option Elab.async false
set_option linter.all false
set_option maxRecDepth 100000
set_option maxHeartbeats 1600000
/-! an own error whose __init__ begins with super().__init__(..): the def by its body -/
namespace LT
open PySem PySem.Spec PyProof.Rows L2 NdefX
/-- what the written part says of it -/
structure SupC (K : PySem.W.Frag) (prog : Program) (mg : Str → Option Value) (C cc : Addr) (F : NF) (ar : Arg) : Prop where
  oex : OexC K C
  cl : F.cl = [(("__class__" : Str), cc)]
  cell : ∃ a b c, K.lookup cc = some ⟨a, b, .cell (some (.ref C)), c⟩
  file : ∃ (a : Value) (b : Option Addr) (vs : Array Value) (c : Array (Option Value)) (fl : Str) (tf : Tok), K.lookup F.c = some ⟨a, b, .fields vs, c⟩ ∧ vs[2]? = some (.str fl tf) ∧ ((prog.main.file : Str) == fl) = true
  hsub : PySem.W.mroIn K C (.ref C) = some true
  sup : PySem.W.ks_superIn K C C "__init__" = some (some (.builtin "ValueError.__init__"))
  sB : PySem.W.subIn K (.ref C) (.type "ValueError") = some true
  op : PySem.W.nsIn K cStatics "thirdparty.any" = some none
  hp : (F.params.posonlyargs ++ F.params.args).head? = some ar
  cd : PySem.W.codeIn K (.ref F.c) F.qual = true
  ks : F.scope.names.lookup ("super" : Str) = some .globalImplicit
  top : (prog.main.scope.names.lookup ("super" : Str)).isSome = false
  ms : mg "super" = none
section
variable {X : Cx} {pins : List (Addr × Obj)} {σ : L2.St} {H : Hp} {s : Shared} {a C u : Addr} {E : Value → Shared → Prop} {A : Around}
/-- the bound ValueError.__init__ called -/
theorem mw_ok {us : List Value} {Q : Value → Shared → Prop} (T : OexC X.K C) (I : Inv X pins σ H s) (e : H a = some (exo a C none)) (hu : s.heap.get? u = some (PySem.W.kxs_mw "ValueError.__init__" a)) (hl : us.length ≤ sizeLine) (h : ∀ s', Inv X pins σ H s' → Q .none s') :
    wpAny (model X.prog X.w) A (call (.ref u) us) Q E s := by
  obtain ⟨nm, q, N, bs, bm, sn, sub, ab, col, dd, k0, k1, k2, k3, k5, hC, hbm⟩ := T.cls
  obtain ⟨t1, ho⟩ := exo_at I.hok e
  have hCh := I.kIn _ _ hC
  have fin : ∀ h', (∀ b o, b ≠ a → s.heap.get? b = some o → h'.get? b = some o) → h'.get? a = some (PySem.W.excObj C s.heap.objs.size none .none) → Q .none { s with heap := h' } := fun h' k hx => by
    have J := I.write (t' := s.toks) (x := a) (e := a) (o := exo a C none) (by rw [e]; exact True.intro) (.inl rfl) k ⟨_, hx⟩ (exo_ok hx)
    have eu : upd H a (exo a C none) = H := by
      funext b
      by_cases hb : b = a
      · rw [hb, upd_same, e]
      · rw [upd_ne hb]
    rw [eu] at J
    exact h _ J
  obtain ⟨hh, g, d, tk, os⟩ := s
  refine wpAny_call (codeAny_of_tree ?_)
  show wpAny _ A.in1 (callAny (.ref u) ⟨us, []⟩) _ _ _
  simp only [callAny]
  refine wpAny_bind (wpAny_load hu ?_)
  simp only [PySem.W.kxs_mw, show (Value.type "method-wrapper" == Value.type "method" || Value.type "method-wrapper" == Value.type "builtin_function_or_method" || Value.type "method-wrapper" == Value.type "method-wrapper") = true by decide, if_true]
  refine PySem.W.KFB.if_so (by decide) ?_
  refine wpAny_bind (PySem.W.check_bound_init F.excBase_ValueError.toExcCallFacts hCh ho rfl ?_)
  refine wpAny_bind (wpAny_pure (wpAny_pure ?_))
  refine ⟨plainId_quiet F.excBase_ValueError.init.plain _, codeAny_builtin F.excBase_ValueError.initEntry ?_⟩
  exact PySem.W.exc_init_tree (cls := .ref C) (t0 := t1) (dv := none) (c2 := .none) (c3 := .none) (b4 := .bool false) ho hl fun h' k hx _ => fin h' k hx
end
section
variable {CX : CXT} {P : Program} {w : World} {K : PySem.W.Frag} {mg : Str → Option Value} {base : Heap} {N ps pr : List Str} {F : NF} {f : Addr} {fd : FuncData} {C cc : Addr} {ar : Arg} {k : Nat} {sp : Sp}
/-- THE RULE -/
theorem sup_of {e : Expr} {es : List Expr} {rest : List Stmt} {p0 p1 p2 pos pos' : Pos} {pl : Env → Sem Bool} (D : SupC K P mg C cc F ar)
    (lk : ∃ (oc : Value) (od : Option Addr) (dV kV doc pm : Value) (an : Option Addr) (ct : Value) (osl : Array (Option Value)), fd = PySem.W.fnX F.name F.qual F.params F.body F.scope F.cl dV kV doc pm an (.ref F.c) ct ∧ K.lookup f = some ⟨oc, od, .func fd, osl⟩)
    (S : NScope N ps ["__class__"] F.scope) (hps : ps = ar.arg :: pr) (hB : F.body = .Expr (.Call (.Attribute (.Call (.Name "super" p0) [] [] p1) "__init__" p2) (e :: es) [] pos) pos' :: rest)
    (len : ∀ vs H Q E, sp vs H Q E → vs.length = ps.length)
    (hc : ∀ env, eval (.Call (.Attribute (.Call (.Name "super" p0) [] [] p1) "__init__" p2) (e :: es) [] pos) env = (do
      let ov ← attributeBase (.Call (.Name "super" p0) [] [] p1) "__init__" env (eval (.Call (.Name "super" p0) [] [] p1) env)
      standAt p2.atName
      let (f, first) ← holding [ov] (getMethod ov "__init__" (pl env))
      callWith pos f first (backTo pos (starEach (e :: es) env)) []))
    (he : ∀ env, starEach (e :: es) env = (false, eval e env) :: starEach es env) (hpl : ∀ env, (backTo pos (starEach es env)).any (·.1) = false)
    (hi : ∀ env : Env, env.scope = F.scope → interactive env = false) (hs : ∀ env, swapsWith (.Call (.Attribute (.Call (.Name "super" p0) [] [] p1) "__init__" p2) (e :: es) [] pos) none pos'.line env = pure false)
    (hbody : ∀ (A : Around) (outer : List Env) (s : Shared) (H : Hp) (vs : List V) (Q : VK) (E : XK), Room k (A.deeper (envF F f s.heap.objs.size)) → sp vs H Q E →
      ∃ (a : Addr) (vr : List V) (ta : TA) (t : TS), vs = .ref a :: vr ∧ H a = some (exo a C none) ∧ PA (ncx CX P w K mg base N F f A outer s H E) (e :: es) ta ∧ PSs (ncx CX P w K mg base N F f A outer s H E) rest t ∧
        ta (startF N vs [some (.ref C)]) H (fun ws H1 => ws.length ≤ 1000 ∧ H1 a = some (exo a C none) ∧ t { nx := fun _ H' => Q .non H', rt := Q } (startF N vs [some (.ref C)]) H1)) :
    FnOk P w K mg base CX (k + 1) f fd ps sp := by
  obtain ⟨oc, od, dV, kV, doc, pm, an, ct, osl, rfl, lk⟩ := lk
  refine ⟨len, fun A outer s H args us vs Q E hr e0 hb r hsp => ?_⟩
  have KB : K.In base := e0.mod.kin
  have KX : K.In s.heap := e0.mod.kin.keeps fun b o e => (e0.bs b o e).1
  have hl := len _ _ _ _ hsp
  have lim : s.heap.NoLimit := e0.mod.nolimit.keeps fun b o e => (e0.bs b o e).1
  obtain ⟨c1, c2, c3, hcell⟩ := D.cell
  obtain ⟨f1, f2, fvs, f3, fl, tf, hfc, hfv, hfl⟩ := D.file
  refine codeAny_call_function hr.depth (KX _ _ lk) rfl S.co S.gen rfl (PySem.W.codeRec_of KX D.cd) (hb _ _ _ _ ?_)
  refine wpAny_newFunctionEnv S.nocell (fun ⟨n, _⟩ hy => S.par n (List.of_mem_zip hy).1) (fun h₁ hns hsb => ⟨lim.fresh _ hsb, ?_⟩) S.kind
  show codeAny _ _ (.func F.body (envF F f s.heap.objs.size)) _ _
  have kp : ∀ b o, s.heap.get? b = some o → h₁.get? b = some o := fun b o e => hsb.extBut b o (Nat.ne_of_lt (Heap.lt_size e)) (Heap.get?_push_of_some _ e)
  obtain ⟨a, vr, ta, t, rfl, ha, hA, hT, hq⟩ := hbody A outer s H vs Q E (hr.deeper _) hsp
  have CA : CellsAt F.cl ["__class__"] [some (.ref C)] s.heap H := by
    rw [D.cl]
    refine ⟨rfl, fun y c e => ?_, fun x y c h1 h2 => ?_, fun i y hi => ?_⟩
    · have e' : c = cc := by
        simp only [List.lookup] at e
        split at e
        · exact (Option.some.inj e).symm
        · cases e
      subst e'
      exact ⟨(e0.bs _ _ (KB _ _ hcell)).2, _, _, KX _ _ hcell, rfl⟩
    · have one : ∀ {z : Str} {c : Addr}, ([(("__class__" : Str), cc)] : List (Str × Addr)).lookup z = some c → z = "__class__" := fun {z c} e => by
        simp only [List.lookup] at e
        split at e
        · rename_i h
          exact eq_of_beq h
        · cases e
      rw [one h1, one h2]
    · cases i with
      | zero =>
        cases hi
        exact ⟨cc, by simp [List.lookup], fun v hv => by cases hv; exact ⟨.ref C, rfl, _, KX _ _ hcell, rfl⟩⟩
      | succ i => cases hi
  have I : Inv (ncx CX P w K mg base N F f A outer s H E) [] (startF N (.ref a :: vr) [some (.ref C)]) H { s with heap := h₁, toks := s.toks + (ps.zip us).length } := inv_startN S hr.hd e0 hl r CA hns kp
  refine PySem.ks_codeAny_funcAt ?_
  have fin : ∀ {σ' : L2.St} {H' : Hp} {v : V} {u : Value} {s' : Shared}, Inv (ncx CX P w K mg base N F f A outer s H E) [] σ' H' s' → L2.RelV v u → Q v H' → CE outer P w H s Q u s' :=
    fun {σ' H' v u s'} J rv q => ⟨v, H', J.os, J.bare, J.base, J.hok, rv, q⟩
  -- the rest of the body
  have last : ∀ {H1 : Hp} {s1 : Shared}, Inv (ncx CX P w K mg base N F f A outer s H E) [] (startF N (.ref a :: vr) [some (.ref C)]) H1 s1 → t { nx := fun _ H' => Q .non H', rt := Q } (startF N (.ref a :: vr) [some (.ref C)]) H1 →
      PySem.wpAt (model P w) (A.deeper (envF F f s.heap.objs.size)) (.func F.body (envF F f s.heap.objs.size)) (execs rest (envF F f s.heap.objs.size)) (fun fl s' => CR CX outer P w H s Q E (.ok (.ret (match fl with | .ret v => v | _ => .none))) s')
        (fun e s' => wpAny (model P w) (A.deeper (envF F f s.heap.objs.size)) (leaving (envF F f s.heap.objs.size) e) (fun _ s'' => CR CX outer P w H s Q E (.error e) s'') (fun e' s'' => CR CX outer P w H s Q E (.error e') s'') s') s1 := by
    intro H1 s1 J q
    refine PySem.wpAt_of_wpAny (wpAny_mono (hT.run [] s1 _ H1 _ J q) (fun fl s' hs => ?_) fun e s' hs => hs)
    cases fl with
    | ret u =>
      obtain ⟨v, σ', H', J, rv, q⟩ := hs
      exact fin J rv q
    | next =>
      obtain ⟨σ', H', J, q⟩ := hs
      exact fin (v := V.non) (u := Value.none) J rfl q
    | brk =>
      obtain ⟨_, _, _, q⟩ := hs
      exact False.elim q
    | cont =>
      obtain ⟨_, _, _, q⟩ := hs
      exact False.elim q
  rw [hB]
  rw [hB] at last
  obtain ⟨nm, qn, Nn, bs, bm, sn, sub, ab, col, dd, k0, k1, k2, k3, k5, hCk, hbm⟩ := D.oex.cls
  obtain ⟨t1, hx⟩ := exo_at I.hok ha
  obtain ⟨cd, hcl, hal⟩ : ∃ cd, PySem.W.clsIn K C = some cd ∧ PySem.W.alongIn K "__init__" ((cd.mro.dropWhile (· != .ref C)).drop 1) = some (some (.builtin "ValueError.__init__")) := by
    have z := D.sup
    unfold PySem.W.ks_superIn at z
    cases hc : PySem.W.clsIn K C with
    | none => rw [hc] at z; cases z
    | some cd => rw [hc] at z; exact ⟨cd, rfl, z⟩
  have hv : (ps.zip us).reverse.lookup ar.arg = some (.ref a) := by
    have ndP : ps.Nodup := by
      have q := S.nd.sublist (List.take_sublist (ps.length + [("__class__" : Str)].length) N)
      rw [S.pre] at q
      exact (List.nodup_append.mp q).1
    cases r with
    | @cons _ u0 _ ur ra rr =>
      obtain rfl : u0 = Value.ref a := ra
      exact zip_look (i := 0) ndP (by rw [hps]; rfl) rfl
  obtain ⟨mb, b1, b2⟩ := e0.mod.blt
  have K1 : K.In h₁ := KX.keeps kp
  have hcl0 : F.cl.lookup ("__class__" : Str) = some cc := by rw [D.cl]; simp [List.lookup]
  refine PySem.ks_wpAt_execs_cons (PySem.ks_wpAt_Expr_any (PySem.ks_wpAt_MethodCall (pl := pl _) ?_ (hc _)) (hi _ rfl) (hs _))
  refine PySem.ks_wpAt_super_base (ar := ar) D.ks (S.frk _ (.head _)) (by decide) rfl (K1 _ _ lk) rfl D.hp rfl (K1 _ _ hfc) rfl hfv hfl D.top ?_
  refine PySem.W.ks_loadName_global S.kind D.ks (PySem.Calls.loadGlobal_builtin (env := envF F f s.heap.objs.size) (e0.mod.glob.keeps I.bk) D.ms (b1.keeps I.bk) ((b2 "super" (by decide)).trans (show bootBuiltins "super" = some (.type "super") by decide +kernel)) ⟨rfl, ?_⟩)
  refine wpAny_loadName_free S.kind (S.frk _ (.head _)) hcl0 ⟨_, K1 _ _ hcell, rfl⟩ ?_
  refine wpAny_loadName_local S.kind (S.par ar.arg (by rw [hps]; exact .head _)) hns hv ?_
  refine PySem.ks_wpAny_isType_cls (K1 _ _ hCk) rfl ⟨rfl, ?_⟩
  refine PySem.ks_wpAny_call_super (K1 _ _ hCk) rfl hx rfl (fun c e => nomatch e) (PySem.W.looks_mroIn K1 D.hsub) (fun h2 eo k2 => ?_)
  have I2 := I.un (t' := s.toks + (ps.zip us).length) (h' := h2) (Un.kept k2) (I.hok.kept k2)
  have K2 : K.In h2 := K1.keeps k2
  have IA : PySem.W.InstAt h2 a (PySem.W.excObj C t1 none .none) C none := ⟨k2 _ _ hx, rfl, rfl, trivial⟩
  refine PySem.W.kxs_getMethod PySem.W.kxs_ValueError eo (PySem.W.looks_opaque K2 D.op) (l₀ := cd.mro) (fun A Q E s k q => wpAny_bind ((PySem.W.looks_clsIn K2 hcl) A _ E s k (wpAny_pure q))) rfl K2 hal (IA.type.andThen (PySem.W.looks_subIn K2 D.sB)) (PySem.W.ks_ne K2 IA hcl) (by decide) ?_
  have k3 : ∀ b o, h2.get? b = some o → (h2.push (PySem.W.kxs_mw "ValueError.__init__" a)).get? b = some o := fun b o e => Heap.get?_push_of_some _ e
  have I3 := I2.un (t' := s.toks + (ps.zip us).length + 1) (h' := h2.push (PySem.W.kxs_mw "ValueError.__init__" a)) (Un.kept k3) (I2.hok.kept k3)
  have hu3 : (h2.push (PySem.W.kxs_mw "ValueError.__init__" a)).get? h2.objs.size = some (PySem.W.kxs_mw "ValueError.__init__" a) := Heap.get?_push_at rfl rfl
  have I4 : Inv (ncx CX P w K mg base N F f A outer s H E) [(h2.objs.size, PySem.W.kxs_mw "ValueError.__init__" a)] (startF N (.ref a :: vr) [some (.ref C)]) H _ := I3.pins_of fun p hp => by
    rw [List.mem_singleton.mp hp]
    exact ⟨hu3, I2.hok.fresh (Nat.le_refl _), Nat.ne_of_gt I2.lt, I2.nofs (Nat.le_refl _), fun v z => nomatch z⟩
  have args : wpAny (model P w) (A.deeper (envF F f s.heap.objs.size)) (spliced (backTo pos (starEach (e :: es) (envF F f s.heap.objs.size)))) _ _ _ := hA.run pos _ _ _ H _ I4 hq
  rw [he] at args
  show wpAny _ _ (callWith pos (.ref h2.objs.size) [] (backTo pos (starEach (e :: es) (envF F f s.heap.objs.size))) []) _ _ _
  rw [he]
  refine PySem.W.kxs_callWith (i := "ValueError.__init__") (x := a) (by show (false || (backTo pos (starEach es _)).any (·.1)) = false; rw [hpl]; rfl) (PySem.Calls.evalArgs_plain ?_)
  refine wpAny_mono args (fun ws s1 hw => ?_) fun e s' hs => hs
  obtain ⟨vs, H1, J, rv, hlen, e1, q⟩ := hw
  have hu := (J.pin _ (List.mem_append_right _ (.head _))).1
  have J0 : Inv (ncx CX P w K mg base N F f A outer s H E) [] (startF N (.ref a :: vr) [some (.ref C)]) H1 s1 := J.pins_of fun p hp => absurd hp (by simp)
  have hlen' : ws.length ≤ sizeLine := by rw [← rv.length, sizeLine_eq]; omega
  exact ⟨hu, mw_ok (X := ncx CX P w K mg base N F f A outer s H E) D.oex J0 e1 hu hlen' fun s' J' => last J' q⟩
end
end LT

set_option Elab.async false
set_option linter.all false
set_option maxRecDepth 100000
set_option maxHeartbeats 1600000
/-! Own layer: a def to which a caught error with a field is handed: isinstance of it, its field; repr of lists of data; the __init__ of such errors. -/
namespace LT
open PySem PySem.Spec PyProof.Rows L2 NdefX
section
variable {X : Cx} {a D dd : Addr} {oe : Obj} {fs : List (Str × V)}
theorem pinned_dd {pins : List (Addr × Obj)} {σ : L2.St} {H : Hp} {s : Shared} (I : Inv X pins σ H s) (hp : (a, oe) ∈ X.pn) (hz : Zc (.ref D) (some dd) oe)
    (hf : ∃ vs, oe.data = .fields vs) (hd : H dd = some (.xd fs)) : ∃ od, PySem.W.InstAt s.heap a oe D (some od) := by
  obtain ⟨hget, _⟩ := I.pin (a, oe) (List.mem_append_left _ hp)
  obtain ⟨vs, hv⟩ := hf
  have hx : ObjOk X.prog X.w H s.heap dd (.xd fs) := I.hok dd _ hd
  obtain ⟨mA, hns, hr⟩ := hx
  obtain ⟨od, ho, hl⟩ := lookIn_ns hns
  exact ⟨od, hget, hz.1, by unfold PySem.W.notCls; rw [hv] <;> rfl, by rw [hz.2]; exact ho⟩
theorem cls_some {K : PySem.W.Frag} {D : Addr} (h : PySem.W.hasDictIn K D = true) : (PySem.W.clsIn K D).isSome = true := by
  obtain ⟨cd, hc, _⟩ := PySem.W.any_some h
  rw [hc]
  rfl
theorem call_isF (hp : (a, oe) ∈ X.pn) (C : ExcC X.K D) (hz : Zc (.ref D) (some dd) oe) (hf : ∃ vs, oe.data = .fields vs) :
    CallR X (.builtin "isinstance") (fun xs H Q => ∃ (fs : List (Str × V)) (c : V) (cv : Value) (b : Bool), H dd = some (.xd fs) ∧ xs = [.ref a, c] ∧ ClsV c cv ∧ PySem.W.kitOne X.K (.ref D) cv = some b ∧ Q (.bl b) H) := by
  intro pins s σ H xs us Q I r h
  obtain ⟨fs, c, cv, b, hd, rfl, hc, e, q⟩ := h
  obtain ⟨u1, u2, rfl, r1, r2⟩ := vals2 r
  have e2 := hc.eq r2
  subst e2
  cases r1
  obtain ⟨od, J⟩ := pinned_dd I hp hz hf hd
  exact PySem.W.kia_one (PySem.W.kitx_exc (cls_some C.hd) C.hg C.hk C.hs C.ha C.hn C.ht C.hm) I.kIn J e (fun z => nomatch z)
    fun tk => ⟨.bl b, H, I.tok tk, rfl, q⟩
theorem call_isFT (hp : (a, oe) ∈ X.pn) (C : ExcC X.K D) (hz : Zc (.ref D) (some dd) oe) (hf : ∃ vs, oe.data = .fields vs) :
    CallR X (.builtin "isinstance") (fun xs H Q => ∃ (fs : List (Str × V)) (tp : Addr) (cs : List V) (us : List Value) (b : Bool), H dd = some (.xd fs) ∧ xs = [.ref a, .ref tp] ∧ H tp = some (.tup cs) ∧ Paired ClsV cs us ∧
      PySem.W.kitAny X.K (.ref D) us = some b ∧ Q (.bl b) H) := by
  intro pins s σ H xs us Q I r h
  obtain ⟨fs, tp, cs, ws, b, hd, rfl, hT, k, e, q⟩ := h
  obtain ⟨u1, u2, rfl, r1, r2⟩ := vals2 r
  cases r1
  cases (show u2 = Value.ref tp from r2)
  obtain ⟨_, its, rv, o, h1, h2, n, h3⟩ := (show ObjOk X.prog X.w H s.heap tp (.tup cs) from I.hok tp _ hT)
  have e3 := ClsV.all k rv
  subst e3
  obtain ⟨oc, od', dt, sl⟩ := o
  simp only at h2 h3
  subst h2 h3
  obtain ⟨od, J⟩ := pinned_dd I hp hz hf hd
  exact PySem.W.kia_tup (PySem.W.kitx_exc (cls_some C.hd) C.hg C.hk C.hs C.ha C.hn C.ht C.hm) I.kIn J h1 e (fun z => nomatch z)
    fun tk => ⟨.bl b, H, I.tok tk, rfl, q⟩
/-- e.f of the pinned error -/
theorem pe_xfP {e : Expr} {te : TE} {pos : Pos} {n : Str} (hp : (a, oe) ∈ X.pn) (T : XfC X.K D) (hno : PySem.W.findIn X.K (.ref D) n = some none)
    (hz : Zc (.ref D) (some dd) oe) (hf : ∃ vs, oe.data = .fields vs) (he : PE X e te) (hb : attributeBase e n X.env (eval e X.env) = eval e X.env := by rfl) :
    PE X (.Attribute e n pos) (tXf a (.ref D) (some dd) D n te) := by
  refine ⟨fun pins s σ H Q I h => ?_⟩
  refine attr_of hb (thn (he.run pins s σ H _ I h) fun u s1 hh => ?_)
  obtain ⟨x, H1, I1, rx, ex, _, dd', fs, v, ed, ea, l, q⟩ := hh
  subst ex
  obtain rfl : u = Value.ref a := rx
  cases ed
  obtain ⟨ha, _⟩ := I1.pin (a, oe) (List.mem_append_left _ hp)
  obtain ⟨vs, hd⟩ := hf
  have hx : ObjOk X.prog X.w H1 s1.heap dd (.xd fs) := I1.hok dd _ ea
  obtain ⟨mA, hns, hr⟩ := hx
  obtain ⟨od, ho, hl⟩ := lookIn_ns hns
  obtain ⟨u, hu, ru⟩ := RelO.some_of (v := v) (o := mA n) (by rw [← l]; exact hr n)
  have J : PySem.W.InstAt s1.heap a oe D (some od) := ⟨ha, hz.1, by unfold PySem.W.notCls; rw [hd] <;> rfl, by rw [hz.2]; exact ho⟩
  exact HandSPX.exc_get I1.kIn J T.ga T.gg T.exC (PySem.W.findObj_own T.hdC hno rfl (by rw [hl, hu])) (handed_of ru) ⟨v, H1, I1.tok _, ru, q⟩
end

/-! ### an own error's __init__(self, field): super().__init__(f".. {field}"); self.field = field -/
abbrev nfI (st : Stmt) (qual : Str) (cc c : Addr) : NF := ⟨"__init__", qual, defArgs st, defBody st, defScope st, [(("__class__" : Str), cc)], c⟩
abbrev arI (st : Stmt) : Arg := ((defArgs st).posonlyargs ++ (defArgs st).args).head!
abbrev LkI (K : PySem.W.Frag) (F : NF) (f : Addr) (fd : FuncData) : Prop := ∃ (oc : Value) (od : Option Addr) (dV kV doc pm : Value) (an : Option Addr) (ct : Value) (osl : Array (Option Value)), fd = PySem.W.fnX F.name F.qual F.params F.body F.scope F.cl dV kV doc pm an (.ref F.c) ct ∧ K.lookup f = some ⟨oc, od, .func fd, osl⟩
theorem nil_app (x : Str) : Str.empty ++ x = x := by
  cases x with
  | mk a =>
    show Str.mk (#[] ++ a) = Str.mk a
    rw [Array.empty_append]
/-- its promise: the field is kept -/
def spErr (C : Addr) (fld : Str) : Sp := fun vs H Q _ => ∃ (a : Addr) (z : Str), vs = [.ref a, .str z] ∧ z.length ≤ 1000 ∧ H a = some (exo a C none) ∧ ∀ dx, H dx = none → dx ≠ a → Q .non (upd (upd H dx (exd dx [(fld, .str z)])) a (exo a C (some dx)))
/-- raise X("..."), as its maker leaves the heap -/
theorem err_made {H : Hp} {a C : Addr} {fld z : Str} {Q : XK} (na : H a = none) (hz : z.length ≤ 1000) (h : ∀ d H', H d = none → Same H H' → H' d = some (.xd [(fld, .str z)]) → Q (.ref C) (some d) H') :
    spErr C fld (.ref a :: ([.str z] ++ [])) (upd H a (exo a C none))
      (fun v H2 => v = .non ∧ ∃ (d : Addr) (fs : List (Str × V)), H2 a = some (exo a C (some d)) ∧ H2 d = some (exd d fs) ∧ H d = none ∧ Q (.ref C) (some d) (upd (del H2 a) d (.xd fs))) (fun _ _ _ => False) := by
  refine ⟨a, z, rfl, hz, upd_same, fun dx n1 n2 => ⟨rfl, dx, [(fld, .str z)], upd_same, ?_, ?_, ?_⟩⟩
  · rw [upd_ne n2, upd_same]
  · rw [upd_ne n2] at n1
    exact n1
  · rw [upd_ne n2] at n1
    refine h dx _ n1 (fun b o e => ?_) upd_same
    have nb := ne_of_none e na
    have nd := ne_of_none e n1
    rw [upd_ne nd, del_ne nb, upd_ne nb, upd_ne nd, upd_ne nb]
    exact e

/-! ### repr of a list of data, among them dicts without entries -/
inductive Sd (K : PySem.W.Frag) (H : Hp) : V → PyData → Prop
  | dp {v : V} {d : PyData} : Dp K H v d → d.hasDict = false → Sd K H v d
  | ed {a : Addr} : H a = some (.dK []) → Sd K H (.ref a) (.dict [])
theorem Sd.mono {K : PySem.W.Frag} {H H' : Hp} {v : V} {d : PyData} (s : Same H H') (h : Sd K H v d) (hm : Dp K H v d → Dp K H' v d) : Sd K H' v d := by
  cases h with
  | dp h hd => exact .dp (hm h) hd
  | ed h => exact .ed (s _ _ h)
section
variable {X : Cx} {pins : List (Addr × Obj)} {σ : L2.St} {H : Hp} {s : Shared}
theorem Sd.reads (I : Inv X pins σ H s) {v : V} {d : PyData} {u : Value} (h : Sd X.K H v d) (r : RelV v u) :
    ∃ as, Reads s.heap u d as ∧ (d.hasDict = true → sysModules ∉ as) := by
  cases h with
  | dp h hd =>
    obtain ⟨as, q⟩ := Dp.reads I d v u h r
    exact ⟨as, q, PyData.noDict_hsm hd⟩
  | ed h =>
    rename_i a
    cases r
    obtain ⟨_, hs, vs, rel, o, es, ep, ho, hx, hd, hko, hp, hn⟩ := I.hok a _ h
    cases rel
    generalize hes : es.toList = l at hp
    cases hp
    refine ⟨_, Reads.dict (as := []) (bs := []) (kvs := []) ho hx.1 hd ?_ ?_, fun _ z => ?_⟩
    · rw [hes]; exact .nil
    · rw [hes]; exact .nil
    · have z2 : sysModules = a := by simpa using z
      rw [z2] at hs
      simp at hs
theorem Sd.all (I : Inv X pins σ H s) : ∀ {vs : List V} {ds : List PyData} {us : List Value}, Paired (Sd X.K H) vs ds → Vals vs us → PyData.showableAll ds = true → (∀ t ∈ PyData.shownAll ds, t.length ≤ sizeLine) →
    ∃ as bs, ReadsAll s.heap us ds as ∧ ReadAtMost s.heap (PyData.depthAll ds) bs ∧ ReprAllK X.prog X.w bs s.heap (PyData.depthAll ds) us (PyData.shownAll ds)
  | _, _, _, .nil, r, _, _ => by
    cases r
    exact ⟨_, [], .nil, (fun _ h => nomatch h), by simp only [PyData.shownAll]; exact .nil⟩
  | _ :: _, d :: ds, _, .cons h hs, r, sh, hz => by
    cases r with
    | cons r1 r2 =>
      have sh' : d.showable = true ∧ PyData.showableAll ds = true := by simpa [PyData.showableAll] using sh
      obtain ⟨as, q1, n1⟩ := h.reads I r1
      obtain ⟨b1, hb1, k1⟩ := ReprK.of_reads (prog := X.prog) (w := X.w) q1 sh'.1 n1 (hz _ (by simp only [PyData.shownAll]; exact List.mem_cons_self ..))
      obtain ⟨bs, b2, q2, hb2, k2⟩ := Sd.all I hs r2 sh'.2 (fun t ht => hz t (by simp only [PyData.shownAll]; exact List.mem_cons_of_mem _ ht))
      refine ⟨_, b1 ++ b2, .cons q1 q2, ?_, ?_⟩
      · simp only [PyData.depthAll]
        exact (hb1.mono (Nat.le_max_left _ _)).append (hb2.mono (Nat.le_max_right _ _))
      · simp only [PyData.depthAll, PyData.shownAll]
        exact .cons ((k1.more fun b hb => List.mem_append_left _ hb).level_le (Nat.le_max_left _ _)) (k2.more_le (fun b hb => List.mem_append_right _ hb) (Nat.le_max_right _ _))
theorem call_reprSd (hG : X.A.guards = some []) (hu : X.A.units + 64 < cLine) : CallR X (.builtin "repr")
    (fun xs H Q => ∃ l vs ds, xs = [.ref l] ∧ SqL X.K H l vs ∧ Paired (Sd X.K H) vs ds ∧ (PyData.list ds).showable = true ∧ (PyData.list ds).depth ≤ 60 ∧ (PyData.list ds).shown.length ≤ sizeLine ∧
      Q (.str (PyData.list ds).shown) H) := by
  intro pins s σ H xs us Q I r h
  obtain ⟨l, vs, ds, rfl, hl, hs, sh, dp, sz, q⟩ := h
  obtain ⟨u, rfl, ru⟩ := vals1 r
  cases ru
  obtain ⟨its, rv, ⟨o, n, ho, hc, _, hd⟩, _⟩ := I.list hl
  have hz' : (listText (PyData.shownAll ds)).length ≤ sizeLine := by simpa only [PyData.shown] using sz
  obtain ⟨as, bs, rd, hb, hk⟩ := Sd.all I hs rv (by simpa [PyData.showable] using sh) (fun t ht => Nat.le_trans (listText_mem_le ht) hz')
  have hna : l ∉ bs := not_mem_of_deeper (.list ho hc hd rd) (by simp only [PyData.depth]; omega) hb
  have dp2 : PyData.depthAll ds + 1 ≤ 60 := by simpa only [PyData.depth] using dp
  have q2 : Q (.str (listText (PyData.shownAll ds))) H := by simpa only [PyData.shown] using q
  refine call_repr_slot (by omega) (show s.TypeIs (.ref l) "list" from ⟨o, ho, hc⟩) F.slot_list_repr.toG ?_
  cases its with
  | nil =>
    cases rd
    simp only [PyData.shownAll, listText_nil] at q2
    exact call_list_repr_empty ⟨o, ho, hc⟩ ho hd ⟨_, _, rfl, ⟨.str _, H, I.kept fun _ _ e => e, ⟨_, rfl⟩, q2⟩⟩
  | cons x l' =>
    exact call_list_reprK (A := X.A.in1) ho hc hd hna (by simpa using hk.length_eq) (fun i y e => hk.item i y (by simpa using e)) hG (fun b _ => Clear.nil b) (by show X.A.units + 1 + _ < cLine; omega) (fun _ _ e => e)
      (fun h' u tk hk' => ⟨_, _, rfl, ⟨.str _, H, I.kept hk', ⟨_, rfl⟩, q2⟩⟩) hz'
end
/-! ### keywords in any turn, no defaults -/
theorem vals_rev : ∀ {vs : List V} {us : List Value}, Vals vs us → Vals vs.reverse us.reverse
  | _, _, .nil => .nil
  | _, _, .cons h r => by
    rw [List.reverse_cons, List.reverse_cons]
    exact (vals_rev r).append (.cons h .nil)
theorem kbn_of {K : PySem.W.Frag} {y qual : Str} {st : Stmt} {f : Addr} {fd : FuncData} {ps : List Str} (F : Fun K y qual st f fd) (n : Nat) (ks : List Str) (g : {α : Type} → List α → List α → List α)
    (hrel : ∀ {vs zs : List V} {us ws : List Value}, Vals vs us → Vals zs ws → Vals (g vs zs) (g us ws))
    (h : ∀ (kV doc pm : Value) (an : Option Addr) (cdv ct : Value) (us ws : List Value), us.length = n → ws.length = ks.length →
      bindArgs (PySem.W.fnOf y qual (defArgs st) (defBody st) (defScope st) .none kV doc pm an cdv ct) ⟨us, ks.zip ws⟩ = pure (ps.zip (g us ws))) :
    KBn K fd ps n ks (fun us ws => g us ws) (fun vs zs => g vs zs) := by
  obtain ⟨oc, od, kV, doc, pm, an, cdv, ct, osl, rfl, lk, hcd⟩ := F.ex
  exact ⟨fun s us ws _ l1 l2 => .of_eq (h kV doc pm an cdv ct us ws l1 l2), fun r1 r2 => hrel r1 r2⟩
end LT

set_option Elab.async false
set_option linter.all false
set_option maxRecDepth 100000
/-! Own layer: shown texts have signs of the alphabet alone (strOk). -/
namespace LT
open PySem PySem.Spec PyProof.Rows L2
theorem ok_of (s : String) : PyData.strOk (Str.ofString s) = true := by
  rw [Str.ofString_eq_toList]
  show (((s.toList.map Char.toNat).toArray).all fun c => decide (c < 0x110000)) = true
  rw [List.all_toArray, List.all_eq_true]
  intro c hc
  obtain ⟨d, _, rfl⟩ := List.mem_map.mp hc
  have h : d.val.toNat.isValidChar := d.valid
  rcases h with h | h <;> (refine decide_eq_true ?_; show d.val.toNat < _; omega)
theorem ok_app {x y : Str} (hx : PyData.strOk x = true) (hy : PyData.strOk y = true) : PyData.strOk (x ++ y) = true := by
  show ((x.cps ++ y.cps).all fun c => decide (c < 0x110000)) = true
  rw [Array.all_append]
  rw [show (x.cps.all fun c => decide (c < 0x110000)) = true from hx, show (y.cps.all fun c => decide (c < 0x110000)) = true from hy]
  rfl
theorem ok_textFrom : ∀ (ts : List Str) (k : Nat) (acc : Str), PyData.strOk acc = true → (∀ t ∈ ts, PyData.strOk t = true) → PyData.strOk (textFrom k acc ts) = true
  | [], _, _, ha, _ => ha
  | t :: r, k, acc, ha, h => ok_textFrom r (k + 1) _ (ok_app (ok_app ha (by split <;> exact ok_of _)) (h t List.mem_cons_self)) fun u hu => h u (List.mem_cons_of_mem _ hu)
theorem ok_listText {ts : List Str} (h : ∀ t ∈ ts, PyData.strOk t = true) : PyData.strOk (listText ts) = true := ok_app (ok_textFrom ts 0 _ (ok_of "[") h) (ok_of "]")
/-- a tuple of texts beside itself -/
theorem strs_lay {xs : List Str} (h : ∀ x ∈ xs, PyData.strOk x = true) : PyData.canLay0 (.tuple (xs.map .str)) = true ∧ SeqAt.shaped (.tuple (xs.map .str)) = true := by
  have a : ∀ {ys : List Str}, (∀ x ∈ ys, PyData.strOk x = true) → PyData.canLayAll0 (ys.map .str) = true ∧ PyData.depthAll (ys.map .str) = 0 := by
    intro ys
    induction ys with
    | nil => intro _; exact ⟨by simp [PyData.canLayAll0], by simp [PyData.depthAll]⟩
    | cons y ys ih =>
      intro hy
      obtain ⟨i1, i2⟩ := ih fun x hx => hy x (List.mem_cons_of_mem _ hx)
      exact ⟨by simp [PyData.canLayAll0, PyData.canLay0, hy y List.mem_cons_self, i1], by simp [PyData.depthAll, PyData.depth, i2]⟩
  obtain ⟨a1, a2⟩ := a h
  have h0 : PyData.canLay0 (.tuple (xs.map .str)) = true := by simpa [PyData.canLay0] using a1
  refine ⟨h0, ?_⟩
  unfold SeqAt.shaped
  rw [h0]
  simp [PyData.depth, a2]
end LT

set_option Elab.async false
set_option linter.all false
set_option maxRecDepth 100000
set_option maxHeartbeats 1600000
/-! Own layer: what every law of this program wants: names of defs, things handed in, pots, heaps that grow. -/
namespace LT
open PySem PySem.Spec PyProof.Rows L2 NdefX
/-- names that are still the built-in ones -/
structure Tx (mg : Str → Option Value) : Prop where
  isi : mg "isinstance" = none
  int : mg "int" = none
  bool : mg "bool" = none
  len : mg "len" = none
  abs : mg "abs" = none
  max : mg "max" = none
  min : mg "min" = none
  divmod : mg "divmod" = none
  range : mg "range" = none
  repr : mg "repr" = none
  zip : mg "zip" = none
  ve : mg "ValueError" = none
  all : mg "all" = none
  any : mg "any" = none
  sum : mg "sum" = none
  sorted : mg "sorted" = none
  list : mg "list" = none
  tuple : mg "tuple" = none
  dict : mg "dict" = none
  enumerate : mg "enumerate" = none
  reversed : mg "reversed" = none
  str : mg "str" = none
  set : mg "set" = none
/-- a def that stands as a name of the module -/
structure Has (K : PySem.W.Frag) (mg : Str → Option Value) (x : Str) (ps : List Str) (st : Stmt) (f : Addr) (fd : FuncData) : Prop where
  fn : Fun K x x st f fd
  bd : L2.Binds K fd ps []
  gl : mg x = some (.ref f)
/-- a method of the class at C -/
structure Mth (K : PySem.W.Frag) (C : Addr) (m q : Str) (ps : List Str) (st : Stmt) (f : Addr) (fd : FuncData) : Prop where
  fn : Fun K m q st f fd
  bd : L2.Binds K fd ps []
  me : Meth K C m f
/-- what is handed in -/
inductive Odd (H : Hp) : V → Prop
  | non : Odd H .non
  | bl (b : Bool) : Odd H (.bl b)
  | int (i : Int) : Odd H (.int i)
  | str (z : Str) : Odd H (.str z)
  | lst {a : Addr} {xs : List V} : H a = some (.lst xs) → Odd H (.ref a)
  | tup {a : Addr} {xs : List V} : H a = some (.tup xs) → Odd H (.ref a)
  | dK {a : Addr} {kvs : List (Key × V)} : H a = some (.dK kvs) → Odd H (.ref a)
theorem Odd.mono {H H' : Hp} (s : Same H H') {v : V} (h : Odd H v) : Odd H' v := by
  cases h with
  | non => exact .non
  | bl b => exact .bl b
  | int i => exact .int i
  | str z => exact .str z
  | lst e => exact .lst (s _ _ e)
  | tup e => exact .tup (s _ _ e)
  | dK e => exact .dK (s _ _ e)
def isInt : V → Bool
  | .int _ => true
  | .bl _ => true
  | _ => false
def isBl : V → Bool
  | .bl _ => true
  | _ => false
theorem Odd.ty {K : PySem.W.Frag} {H : Hp} {v : V} (h : Odd H v) : ∃ t, TyX K H v t ∧ PySem.W.kitOne K t (.type "int") = some (isInt v) ∧ PySem.W.kitOne K t (.type "bool") = some (isBl v) := by
  cases h with
  | non => exact ⟨_, .base .non, kit_ty (show kitB "NoneType" "int" = some false by decide +kernel), kit_ty (show kitB "NoneType" "bool" = some false by decide +kernel)⟩
  | bl b => exact ⟨_, .base (.bl b), kit_ty (show kitB "bool" "int" = some true by decide +kernel), kit_ty (show kitB "bool" "bool" = some true by decide +kernel)⟩
  | int i => exact ⟨_, .base (.int i), kit_ty (show kitB "int" "int" = some true by decide +kernel), kit_ty (show kitB "int" "bool" = some false by decide +kernel)⟩
  | str z => exact ⟨_, .base (.str z), kit_ty (show kitB "str" "int" = some false by decide +kernel), kit_ty (show kitB "str" "bool" = some false by decide +kernel)⟩
  | lst e => exact ⟨_, .base (.lst e), kit_ty (show kitB "list" "int" = some false by decide +kernel), kit_ty (show kitB "list" "bool" = some false by decide +kernel)⟩
  | tup e => exact ⟨_, .base (.tup e), kit_ty (show kitB "tuple" "int" = some false by decide +kernel), kit_ty (show kitB "tuple" "bool" = some false by decide +kernel)⟩
  | dK e => exact ⟨_, .base (.dK e), kit_ty (show kitB "dict" "int" = some false by decide +kernel), kit_ty (show kitB "dict" "bool" = some false by decide +kernel)⟩
def wholeB : V → Bool
  | .int _ => true
  | _ => false
theorem whole_eq (v : V) : (isInt v && !isBl v) = wholeB v := by cases v <;> rfl
def fromB : V → Int → Bool
  | .int i, l => decide (l ≤ i)
  | _, _ => false
def withinB : V → Int → Int → Bool
  | .int i, l, m => decide (l ≤ i) && decide (i ≤ m)
  | _, _, _ => false
theorem from_int {v : V} {l : Int} (h : fromB v l = true) : ∃ i, v = .int i ∧ l ≤ i := by
  cases v <;> first | exact ⟨_, rfl, of_decide_eq_true h⟩ | cases h
theorem bool_false {b : Bool} (h : ¬ b = true) : b = false := by cases b <;> first | rfl | exact absurd rfl h
theorem same_upd {H : Hp} {p : Addr} {o : HO} (h : H p = none) : Same H (upd H p o) := fun b x e => by
  rw [upd_ne (ne_of_none e h)]
  exact e
theorem same_app {H H1 : Hp} {p : Addr} {o : HO} (h : H p = none) (s : Same H H1) : Same H (upd H1 p o) := fun b x e => by
  rw [upd_ne (ne_of_none e h)]
  exact s _ _ e
/-- a pot: two numbers -/
def Pot (H : Hp) (p : Addr) : Prop := ∃ a b : Int, H p = some (.lst [.int a, .int b]) ∧ 0 ≤ a ∧ 0 ≤ b ∧ b < 2147483647
/-- all but what stands at p is as it was -/
def SameB (p : Addr) (H H' : Hp) : Prop := ∀ b o, b ≠ p → H b = some o → H' b = some o
theorem SameB.trans {p : Addr} {H H1 H2 : Hp} (a : SameB p H H1) (b : SameB p H1 H2) : SameB p H H2 := fun c o n h => b c o n (a c o n h)
theorem SameB.of {p : Addr} {H H' : Hp} (s : Same H H') : SameB p H H' := fun b o _ e => s b o e
theorem SameB.upd {p : Addr} {H H' : Hp} {o : HO} (s : SameB p H H') : SameB p H (upd H' p o) := fun b x n e => by
  rw [upd_ne n]
  exact s b x n e
theorem SameB.new {p q : Addr} {H H' : Hp} {o : HO} (h : H q = none) (s : SameB p H H') : SameB p H (L2.upd H' q o) := fun b x n e => by
  rw [upd_ne (ne_of_none e h)]
  exact s b x n e
theorem Pot.ne {H : Hp} {p q : Addr} (h : Pot H p) (n : H q = none) : q ≠ p := fun e => by
  obtain ⟨a, b, e1, _⟩ := h
  rw [← e, n] at e1
  cases e1
theorem SameB.none {p q : Addr} {H H1 : Hp} (s : SameB p H H1) (h : Pot H1 p) (n : H1 q = none) : H q = none := by
  cases e : H q with
  | none => rfl
  | some o =>
    rw [s q o (h.ne n) e] at n
    cases n
theorem Pot.upd {H : Hp} {p q : Addr} {o : HO} (h : Pot H p) (n : q ≠ p) : Pot (L2.upd H q o) p := by
  obtain ⟨a, b, e, r⟩ := h
  exact ⟨a, b, by rw [upd_ne n.symm]; exact e, r⟩
theorem Pot.mono {H H' : Hp} {p : Addr} (h : Pot H p) (s : Same H H') : Pot H' p := by
  obtain ⟨a, b, e, r⟩ := h
  exact ⟨a, b, s _ _ e, r⟩
theorem ne_of_pot {H : Hp} {p q : Addr} {o : HO} (h : Pot H p) (e : H q = some o) (n : ∀ a b : Int, o ≠ .lst [.int a, .int b] := by intros; nofun) : q ≠ p := by
  obtain ⟨a, b, ep, _⟩ := h
  exact ne_of e ep (n a b)
theorem sameB_new {p : Addr} {H H1 H2 : Hp} (n : H p = none) (s : Same H H1) (b : SameB p H1 H2) : Same H H2 := fun c o e => b c o (ne_of_none e n) (s c o e)

theorem lg_of {i : Int} (h : i.natAbs ≤ 10 ^ 60) : i.natAbs.log2 < 1920 := by
  rcases Nat.eq_zero_or_pos i.natAbs with z | z
  · rw [z]; decide
  · rw [Nat.log2_lt (by omega)]
    exact Nat.lt_of_le_of_lt h (by decide)
theorem tlen {i : Int} (h : i.natAbs.log2 < 1920) : (Str.ofString (toString i)).length ≤ 1921 := by
  rw [PySem.ofString_length]
  exact int_text_length_le (by decide) h
theorem same_made {H : Hp} {x dx C : Addr} {o : HO} (nx : H x = none) (nd : H dx = none) : Same H (upd (upd H dx (.own x)) x o) := fun b z e => by
  rw [upd_ne (ne_of_none e nx), upd_ne (ne_of_none e nd)]
  exact e

/-- a list of one own error with its field: facts of the class and its __init__ -/
structure Nx (K : PySem.W.Frag) (P : Program) (mg : Str → Option Value) (st : Stmt) (nm q fld : Str) (CN fN cc c : Addr) (fdN : FuncData) : Prop where
  sup : SupC K P mg CN cc (nfI st q cc c) (arI st)
  lk : LkI K (nfI st q cc c) fN fdN
  hno : PySem.W.findIn K (.ref CN) fld = some none
  ini : PySem.W.findIn K (.ref CN) "__init__" = some (some (.ref fN))
  tI : PySem.W.typeIn K (.ref fN) = some (.type "function")
  bd : L2.Binds K fdN ["self", fld] []
  gl : mg nm = some (.ref CN)
/-! ### isinstance, in an except suite, of an error of any class -/
section
variable {X : Cx} {a : Addr} {oe : Obj} {cls : Value} {d : Option Addr}
/-- the error's dict stands -/
def HasD (d : Option Addr) (H : Hp) : Prop := d = none ∨ ∃ (dd : Addr) (fs : List (Str × V)), d = some dd ∧ H dd = some (.xd fs)
theorem HasD.mono {H H' : Hp} (h : HasD d H) (s : Same H H') : HasD d H' := by
  rcases h with h | ⟨dd, fs, e, h⟩
  · exact .inl h
  · exact .inr ⟨dd, fs, e, s _ _ h⟩
theorem pinned_any {pins : List (Addr × Obj)} {σ : L2.St} {H : Hp} {s : Shared} {D : Addr} (I : Inv X pins σ H s) (hp : (a, oe) ∈ X.pn) (hz : Zc (.ref D) d oe)
    (hf : ∃ vs, oe.data = .fields vs) (hd : HasD d H) : ∃ od, PySem.W.InstAt s.heap a oe D od := by
  rcases hd with rfl | ⟨dd, fs, rfl, hd⟩
  · exact ⟨none, pinned_at I hp hz hf⟩
  · obtain ⟨od, h⟩ := pinned_dd I hp hz hf hd
    exact ⟨some od, h⟩
theorem call_isX (hp : (a, oe) ∈ X.pn) (hz : Zc cls d oe) (hf : ∃ vs, oe.data = .fields vs) :
    CallR X (.builtin "isinstance") (fun xs H Q => ∃ (D : Addr) (c : V) (cv : Value) (b : Bool), cls = .ref D ∧ ExcC X.K D ∧ HasD d H ∧ xs = [.ref a, c] ∧ ClsV c cv ∧ PySem.W.kitOne X.K (.ref D) cv = some b ∧ Q (.bl b) H) := by
  intro pins s σ H xs us Q I r h
  obtain ⟨D, c, cv, b, rfl, C, hd, rfl, hc, e, q⟩ := h
  obtain ⟨u1, u2, rfl, r1, r2⟩ := vals2 r
  have e2 := hc.eq r2
  subst e2
  cases r1
  obtain ⟨od, J⟩ := pinned_any I hp hz hf hd
  exact PySem.W.kia_one (PySem.W.kitx_exc (cls_some C.hd) C.hg C.hk C.hs C.ha C.hn C.ht C.hm) I.kIn J e (fun z => nomatch z)
    fun tk => ⟨.bl b, H, I.tok tk, rfl, q⟩
theorem call_isXT (hp : (a, oe) ∈ X.pn) (hz : Zc cls d oe) (hf : ∃ vs, oe.data = .fields vs) :
    CallR X (.builtin "isinstance") (fun xs H Q => ∃ (D : Addr) (tp : Addr) (cs : List V) (us : List Value) (b : Bool), cls = .ref D ∧ ExcC X.K D ∧ HasD d H ∧ xs = [.ref a, .ref tp] ∧ H tp = some (.tup cs) ∧ Paired ClsV cs us ∧
      PySem.W.kitAny X.K (.ref D) us = some b ∧ Q (.bl b) H) := by
  intro pins s σ H xs us Q I r h
  obtain ⟨D, tp, cs, ws, b, rfl, C, hd, rfl, hT, k, e, q⟩ := h
  obtain ⟨u1, u2, rfl, r1, r2⟩ := vals2 r
  cases r1
  cases (show u2 = Value.ref tp from r2)
  obtain ⟨_, its, rv, o, h1, h2, n, h3⟩ := (show ObjOk X.prog X.w H s.heap tp (.tup cs) from I.hok tp _ hT)
  have e3 := ClsV.all k rv
  subst e3
  obtain ⟨oc, od', dt, sl⟩ := o
  simp only at h2 h3
  subst h2 h3
  obtain ⟨od, J⟩ := pinned_any I hp hz hf hd
  exact PySem.W.kia_tup (PySem.W.kitx_exc (cls_some C.hd) C.hg C.hk C.hs C.ha C.hn C.ht C.hm) I.kIn J h1 e (fun z => nomatch z)
    fun tk => ⟨.bl b, H, I.tok tk, rfl, q⟩
end
section
variable {X : Cx} {a : Addr} {oe : Obj} {cls : Value} {d : Option Addr} {pn : List (Addr × Obj)}
def rIsX (K : PySem.W.Frag) (a : Addr) (cls : Value) (d : Option Addr) : List V → Hp → VK → Prop := fun xs H Q => ∃ (D : Addr) (c : V) (cv : Value) (b : Bool), cls = .ref D ∧ ExcC K D ∧ HasD d H ∧ xs = [.ref a, c] ∧ ClsV c cv ∧ PySem.W.kitOne K (.ref D) cv = some b ∧ Q (.bl b) H
def rIsXT (K : PySem.W.Frag) (a : Addr) (cls : Value) (d : Option Addr) : List V → Hp → VK → Prop := fun xs H Q => ∃ (D : Addr) (tp : Addr) (cs : List V) (us : List Value) (b : Bool), cls = .ref D ∧ ExcC K D ∧ HasD d H ∧ xs = [.ref a, .ref tp] ∧ H tp = some (.tup cs) ∧ Paired ClsV cs us ∧
      PySem.W.kitAny K (.ref D) us = some b ∧ Q (.bl b) H
theorem call_isS (hz : Zc cls d oe) (hf : ∃ vs, oe.data = .fields vs) : CallR (X.suite a ((a, oe) :: pn)) (.builtin "isinstance") (rIsX X.K a cls d) := call_isX (X := X.suite a ((a, oe) :: pn)) (a := a) (oe := oe) List.mem_cons_self hz hf
theorem call_isST (hz : Zc cls d oe) (hf : ∃ vs, oe.data = .fields vs) : CallR (X.suite a ((a, oe) :: pn)) (.builtin "isinstance") (rIsXT X.K a cls d) := call_isXT (X := X.suite a ((a, oe) :: pn)) (a := a) (oe := oe) List.mem_cons_self hz hf
end
/-! ### things of all sorts, with their data -/
inductive Th (H : Hp) : V → PyData → Prop
  | non : Th H .non .none
  | bl (b : Bool) : Th H (.bl b) (.bool b)
  | int (i : Int) : i.natAbs ≤ 10 ^ 61 → Th H (.int i) (.int i)
  | str (z : Str) : (PyData.str z).showable = true → (PyData.str z).shown.length ≤ 1921 → PyData.strOk (PyData.str z).shown = true → Th H (.str z) (.str z)
  | lst {a : Addr} (n : Int) : n.natAbs ≤ 10 ^ 61 → H a = some (.lst [.int n]) → Th H (.ref a) (.list [.int n])
  | tup {a : Addr} (n : Int) : n.natAbs ≤ 10 ^ 61 → H a = some (.tup [.int n]) → Th H (.ref a) (.tuple [.int n])
  | dk {a : Addr} : H a = some (.dK []) → Th H (.ref a) (.dict [])
theorem lg61 {i : Int} (h : i.natAbs ≤ 10 ^ 61) : i.natAbs.log2 < 1920 := by
  rcases Nat.eq_zero_or_pos i.natAbs with z | z
  · rw [z]; decide
  · rw [Nat.log2_lt (by omega)]
    exact Nat.lt_of_le_of_lt h (by decide)
theorem tlen61 {i : Int} (h : i.natAbs ≤ 10 ^ 61) : (Str.ofString (toString i)).length ≤ 204 := by
  rw [PySem.ofString_length]
  rcases Nat.eq_zero_or_pos i.natAbs with z | z
  · rw [show i = 0 by omega]; decide
  · have : i.natAbs.log2 < 203 := by
      rw [Nat.log2_lt (by omega)]
      exact Nat.lt_of_le_of_lt h (by decide)
    exact Nat.le_trans (int_text_length_le (k := 203) (by decide) this) (by decide)
theorem Th.monoB {H H' : Hp} {p : Addr} {v : V} {d : PyData} (h : Th H v d) (hp : Pot H p) (s : SameB p H H') : Th H' v d := by
  cases h with
  | non => exact .non
  | bl b => exact .bl b
  | int i hi => exact .int i hi
  | str z a b c => exact .str z a b c
  | lst n hn e => exact .lst n hn (s _ _ (ne_of_pot hp e) e)
  | tup n hn e => exact .tup n hn (s _ _ (ne_of_pot hp e) e)
  | dk e => exact .dk (s _ _ (ne_of_pot hp e) e)
theorem Th.mono {H H' : Hp} {v : V} {d : PyData} (h : Th H v d) (s : Same H H') : Th H' v d := by
  cases h with
  | non => exact .non
  | bl b => exact .bl b
  | int i hi => exact .int i hi
  | str z a b c => exact .str z a b c
  | lst n hn e => exact .lst n hn (s _ _ e)
  | tup n hn e => exact .tup n hn (s _ _ e)
  | dk e => exact .dk (s _ _ e)
theorem Th.upd {H : Hp} {th : Addr} {v : V} {d : PyData} {xs : List V} {o : HO} (h : Th H v d) (ht : H th = some (.lst xs)) (hl : xs.length ≠ 1) : Th (L2.upd H th o) v d := by
  cases h with
  | non => exact .non
  | bl b => exact .bl b
  | int i hi => exact .int i hi
  | str z a b c => exact .str z a b c
  | lst n hn e => exact .lst n hn (by rw [upd_ne (ne_of e ht (by intro z; cases z; exact hl rfl))]; exact e)
  | tup n hn e => exact .tup n hn (by rw [upd_ne (ne_of e ht (by intro z; cases z))]; exact e)
  | dk e => exact .dk (by rw [upd_ne (ne_of e ht (by intro z; cases z))]; exact e)
theorem Th.odd {H : Hp} {v : V} {d : PyData} (h : Th H v d) : Odd H v := by
  cases h with
  | non => exact .non
  | bl b => exact .bl b
  | int i hi => exact .int i
  | str z a b c => exact .str _
  | lst n hn e => exact .lst e
  | tup n hn e => exact .tup e
  | dk e => exact .dK e
theorem Th.sd {K : PySem.W.Frag} {H : Hp} {v : V} {d : PyData} (h : Th H v d) : Sd K H v d := by
  cases h with
  | non => exact .dp .non (by simp [PyData.hasDict])
  | bl b => exact .dp (.bl b) (by simp [PyData.hasDict])
  | int i hi => exact .dp (.int i) (by simp [PyData.hasDict])
  | str z a b c => exact .dp (.str _) (by simp [PyData.hasDict])
  | lst n hn e => exact .dp (.lst (SqL.of e) (.cons (.int n) .nil)) (by simp [PyData.hasDict, PyData.hasDictAll])
  | tup n hn e => exact .dp (.tup (SqT.of e) (.cons (.int n) .nil)) (by simp [PyData.hasDict, PyData.hasDictAll])
  | dk e => exact .ed e
theorem shown_one (n : Int) : (PyData.list [.int n]).shown = listText [Str.ofString (toString n)] ∧ (PyData.tuple [.int n]).shown = tupleText [Str.ofString (toString n)] := by
  constructor
  · simp only [PyData.shown, PyData.shownAll]
  · simp only [PyData.shown, PyData.shownAll]
theorem Th.fit {H : Hp} {v : V} {d : PyData} (h : Th H v d) : d.showable = true ∧ d.depth ≤ 1 ∧ d.shown.length ≤ 1921 := by
  cases h with
  | non => exact ⟨by simp [PyData.showable], by simp [PyData.depth], by decide +kernel⟩
  | bl b => cases b <;> exact ⟨by simp [PyData.showable], by simp [PyData.depth], by decide +kernel⟩
  | int i hi => exact ⟨by simpa [PyData.showable] using lg61 hi, by simp [PyData.depth], by simp only [PyData.shown]; exact Nat.le_trans (tlen61 hi) (by decide)⟩
  | str z a b c => exact ⟨a, by simp [PyData.depth], b⟩
  | lst n hn e =>
    refine ⟨by simpa [PyData.showable, PyData.showableAll] using lg61 hn, by simp [PyData.depth, PyData.depthAll], ?_⟩
    rw [(shown_one n).1]
    have := listText_len_le [Str.ofString (toString n)]
    have := tlen61 hn
    simp only [List.map_cons, List.map_nil, List.sum_cons, List.sum_nil, List.length_cons, List.length_nil] at *
    omega
  | tup n hn e =>
    refine ⟨by simpa [PyData.showable, PyData.showableAll] using lg61 hn, by simp [PyData.depth, PyData.depthAll], ?_⟩
    rw [(shown_one n).2]
    have := tupleText_len_le [Str.ofString (toString n)]
    have := tlen61 hn
    simp only [List.map_cons, List.map_nil, List.sum_cons, List.sum_nil, List.length_cons, List.length_nil] at *
    omega
  | dk e => exact ⟨by decide +kernel, by decide +kernel, by decide +kernel⟩
/-- three of them in a list -/
theorem fit3 {H : Hp} {a b c : V} {da db dc : PyData} (ha : Th H a da) (hb : Th H b db) (hc : Th H c dc) : (PyData.list [da, db, dc]).showable = true ∧ (PyData.list [da, db, dc]).depth ≤ 60 ∧ (PyData.list [da, db, dc]).shown.length ≤ sizeLine := by
  obtain ⟨a1, a2, a3⟩ := ha.fit
  obtain ⟨b1, b2, b3⟩ := hb.fit
  obtain ⟨c1, c2, c3⟩ := hc.fit
  refine ⟨by simp [PyData.showable, PyData.showableAll, a1, b1, c1], by simp only [PyData.depth, PyData.depthAll]; omega, ?_⟩
  have e := listText_len_le [da.shown, db.shown, dc.shown]
  simp only [List.map_cons, List.map_nil, List.sum_cons, List.sum_nil, List.length_cons, List.length_nil] at e
  have e2 : PyData.shown (.list [da, db, dc]) = listText [da.shown, db.shown, dc.shown] := by simp only [PyData.shown, PyData.shownAll]
  rw [e2, sizeLine_eq]
  omega
/-! ### xs.count(y), flat things -/
theorem count_eqU {x : V} : ∀ {xs : List V} {us : List Value}, Vals xs us → xs.all flatV = true → us.countP (eqU x) = xs.countP fun y => eqV y x
  | _, _, .nil, _ => rfl
  | y :: xs, u :: us, .cons r t, f => by
    rw [List.all_cons, Bool.and_eq_true] at f
    rw [List.countP_cons, List.countP_cons, eqU_of r f.1, count_eqU t f.2]
def rCntV (K : PySem.W.Frag) : V → List V → Hp → VK → Prop := fun x xs H Q => ∃ (p : Addr) (ys : List V) (y : V), x = .ref p ∧ xs = [y] ∧ SqL K H p ys ∧ flatV y = true ∧ ys.all flatV = true ∧ Q (.int (ys.countP fun z => eqV z y : Nat)) H
theorem mt_countV {X : Cx} : MtR X "list.count" (rCntV X.K) := by
  intro pins s σ H x xs v us Q I rx rxs h
  obtain ⟨p, ys, y, rfl, rfl, hs, fy, fs, q⟩ := h
  cases rx
  obtain ⟨u, rfl, ru⟩ := rxs.one
  obtain ⟨its, rv, ⟨⟨cls, dd, data, sl⟩, n, ho, hc, hdn, hd⟩, hlen⟩ := I.list hs
  simp only at hc hd
  subst hc hd
  refine call_meets PySem.F.slot_list_count ⟨_, ho, rfl⟩ PySem.F.entry_list_count (PySem.F.args_list_count_2 _ _)
    (SeqAt.list_countAt p its.toArray n dd sl u (eqU y)) ⟨ho, fun z hz => mem_eqAt ru fy rv fs z (by simpa using hz), ?_⟩
  have ec : its.toArray.toList.countP (eqU y) = ys.countP fun z => eqV z y := count_eqU rv fs
  refine ⟨.int (ys.countP fun z => eqV z y : Nat), H, I.tok _, ⟨s.toks, ?_⟩, q⟩
  show Value.int ((its.toArray.toList.countP (eqU y) : Nat) : Int) s.toks = _
  rw [ec]
/-- xs.count(y) in an except suite -/
theorem pe_countS {X : Cx} {a : Addr} {oe : Obj} {pn : List (Addr × Obj)} {o e : Expr} {to : TE} {t : TA} {apos cpos : Pos} (ho : PE (X.suite a ((a, oe) :: pn)) o to) (ha : PA (X.suite a ((a, oe) :: pn)) [e] t)
    (hbase : attributeBase o "count" X.env (eval o X.env) = eval o X.env := by rfl)
    (hfew : ((backTo cpos (starEach [e] X.env)).all (fun x => !x.1) && (backToKw cpos (keywordEach [] X.env)).all (fun x => x.1.isSome)
      && decide (([e] : List Expr).length + ([] : List Keyword).length + (if ([] : List Keyword).isEmpty then 0 else 1) < 30)) = true := by rfl)
    (hline : (apos.endLine == cpos.line) = true := by rfl) (hs : starEach [e] X.env = (false, eval e X.env) :: starEach [] X.env := by rfl) (hplain : (backTo cpos (starEach [] X.env)).any (·.1) = false := by rfl) :
    PE (X.suite a ((a, oe) :: pn)) (.Call (.Attribute o "count" apos) [e] [] cpos) (tBM X.K "list" (rCntV X.K) to t) :=
  pe_bm (X := X.suite a ((a, oe) :: pn)) PySem.F.plainAttrs_list PySem.F.slot_list_count PySem.F.type_list_count (mt_countV (X := X.suite a ((a, oe) :: pn))) ho ha hbase hfew hline hs hplain
theorem ix_listS {X : Cx} {a : Addr} {oe : Obj} {pn : List (Addr × Obj)} : IxR (X.suite a ((a, oe) :: pn)) (rIxL X.K) := ix_list (X := X.suite a ((a, oe) :: pn))
end LT

set_option Elab.async false
set_option linter.all false
set_option maxRecDepth 100000
namespace K48
open PySem PySem.Spec PyProof.Rows L2 LT
def topS (i : Nat) : Stmt := PySem.Challenge.pw_lightturns_k48_even_and_keeping_refused.main.body.getD i (.Pass ⟨0, 0, 0, 0⟩)
abbrev s__wall : Stmt := topS 0
abbrev s_NoBoat___init__ : Stmt := inClass (topS 7) 0
abbrev s_NoRound___init__ : Stmt := inClass (topS 8) 0
abbrev s_is_whole : Stmt := topS 12
abbrev s_is_from : Stmt := topS 13
abbrev s_is_within : Stmt := topS 14
abbrev s_parts_for : Stmt := topS 15
abbrev s_Round___init__ : Stmt := inClass (topS 18) 0
abbrev s_Round_on : Stmt := inClass (topS 18) 1
abbrev s_Round_off : Stmt := inClass (topS 18) 2
abbrev s_Round_begins : Stmt := inClass (topS 18) 3
abbrev s_Round_on_in : Stmt := inClass (topS 18) 4
abbrev s_Round_least : Stmt := inClass (topS 18) 5
abbrev s_Round_moved : Stmt := inClass (topS 18) 6
abbrev s_Round___eq__ : Stmt := inClass (topS 18) 7
abbrev s_Round___len__ : Stmt := inClass (topS 18) 8
abbrev s_Round___repr__ : Stmt := inClass (topS 18) 9
abbrev s_even_round : Stmt := topS 19
abbrev s_keeping : Stmt := topS 20
abbrev s_check_turns : Stmt := topS 21
abbrev s_are_begins : Stmt := topS 22
abbrev s__law_cell : Stmt := topS 24
abbrev s__law_pot : Stmt := topS 25
abbrev s__law_take : Stmt := topS 26
abbrev s__law_none : Stmt := topS 27
abbrev s__law_told : Stmt := topS 28
abbrev s__law_due : Stmt := topS 29
abbrev s__law_truths_right : Stmt := topS 30
abbrev s_law : Stmt := topS 31
end K48

set_option Elab.async false
set_option linter.all false
set_option maxRecDepth 100000
set_option maxHeartbeats 1600000
namespace K48
open PySem PySem.Spec PyProof.Rows L2 LT NdefX
theorem scWhole : FnScope ["thing"] ["thing"] (defScope s_is_whole) := ⟨rfl, rfl, rfl, by decide +kernel, rfl, by decide +kernel, by decide +kernel⟩
theorem scFrom : FnScope ["thing", "least"] ["thing", "least"] (defScope s_is_from) := ⟨rfl, rfl, rfl, by decide +kernel, rfl, by decide +kernel, by decide +kernel⟩
theorem scWithin : FnScope ["thing", "least", "most"] ["thing", "least", "most"] (defScope s_is_within) := ⟨rfl, rfl, rfl, by decide +kernel, rfl, by decide +kernel, by decide +kernel⟩
theorem scErr : NScope ["self", "field", "__class__"] ["self", "field"] ["__class__"] (defScope s_NoRound___init__) := nscope_by (by decide +kernel)
theorem scCheck : FnScope ["on", "off"] ["on", "off"] (defScope s_check_turns) := ⟨rfl, rfl, rfl, by decide +kernel, rfl, by decide +kernel, by decide +kernel⟩
theorem scBegins : FnScope ["thing", "whole", "begin"] ["thing", "whole"] (defScope s_are_begins) := ⟨rfl, rfl, rfl, by decide +kernel, rfl, by decide +kernel, by decide +kernel⟩
theorem scInit : FnScope ["self", "on", "off", "begins"] ["self", "on", "off", "begins"] (defScope s_Round___init__) := ⟨rfl, rfl, rfl, by decide +kernel, rfl, by decide +kernel, by decide +kernel⟩
def spWhole : Sp := fun vs H Q _ => ∃ v, vs = [v] ∧ Odd H v ∧ Q (.bl (wholeB v)) H
def spFrom : Sp := fun vs H Q _ => ∃ v l, vs = [v, .int l] ∧ Odd H v ∧ Q (.bl (fromB v l)) H
def spWithin : Sp := fun vs H Q _ => ∃ v l m, vs = [v, .int l, .int m] ∧ Odd H v ∧ Q (.bl (withinB v l m)) H
section
variable {P : Program} {w : World} {K : PySem.W.Frag} {mg : Str → Option Value} {base : Heap}
theorem ok_whole {f : Addr} {fd : FuncData} {k : Nat} (F : Fun K "is_whole" "is_whole" s_is_whole f fd) (T : Tx mg) : FnOk P w K mg base CX0 (k + 1) f fd ["thing"] spWhole := by
  refine F.ok scWhole (fun vs H Q E h => ?_) (fun cdv A outer s H vs Q E hr h => ?_)
  · obtain ⟨v, rfl, _⟩ := h
    rfl
  · obtain ⟨v, rfl, hv, q⟩ := h
    refine ⟨_, pss_one (ps_ret (pe_and (pe_callB call_isi (by rfl) T.isi (by decide +kernel) (pa_cons (pv 0) (pa_cons (pe_bltn (v := .ty "int") (by rfl) T.int (by decide +kernel) rfl) pa_nil)))
      (pe_one (pe_not (pe_callB call_isi (by rfl) T.isi (by decide +kernel) (pa_cons (pv 0) (pa_cons (pe_bltn (v := .ty "bool") (by rfl) T.bool (by decide +kernel) rfl) pa_nil))))))), ?_⟩
    obtain ⟨t, ty, k1, k2⟩ := hv.ty (K := K)
    refine ⟨_, rfl, v, .ty "int", t, _, isInt v, rfl, .ty _, ty, k1, _, rfl, ?_⟩
    rw [← whole_eq v] at q
    cases hb : isInt v with
    | false =>
      rw [hb] at q
      exact q
    | true =>
      rw [hb] at q
      exact ⟨_, rfl, v, .ty "bool", t, _, isBl v, rfl, .ty _, ty, k2, _, rfl, q⟩
theorem ok_from {f fW : Addr} {fd fdW : FuncData} {k : Nat} (F : Fun K "is_from" "is_from" s_is_from f fd) (T : Tx mg) (FW : Has K mg "is_whole" ["thing"] s_is_whole fW fdW) : FnOk P w K mg base CX0 (k + 2) f fd ["thing", "least"] spFrom := by
  have GW : FnOk P w K mg base CX0 (k + 1) fW fdW ["thing"] spWhole := ok_whole FW.fn T
  refine F.ok scFrom (fun vs H Q E h => ?_) (fun cdv A outer s H vs Q E hr h => ?_)
  · obtain ⟨v, l, rfl, _⟩ := h
    rfl
  · obtain ⟨v, l, rfl, hv, q⟩ := h
    refine ⟨_, pss_one (ps_ret (pe_and (pe_call GW hr (by rfl) FW.gl FW.fn.kp FW.bd .nil pass0 (pa_cons (pv 0) pa_nil)) (pe_one (pe_cmpR op_ge (pv 0) (pv 1) (nomark _))))), ?_⟩
    refine ⟨_, rfl, v, rfl, hv, _, rfl, ?_⟩
    cases hv with
    | int i => exact ⟨_, rfl, _, rfl, i, l, rfl, rfl, q⟩
    | _ => exact q
theorem ok_within {f fW : Addr} {fd fdW : FuncData} {k : Nat} (F : Fun K "is_within" "is_within" s_is_within f fd) (T : Tx mg) (FW : Has K mg "is_whole" ["thing"] s_is_whole fW fdW) : FnOk P w K mg base CX0 (k + 2) f fd ["thing", "least", "most"] spWithin := by
  have GW : FnOk P w K mg base CX0 (k + 1) fW fdW ["thing"] spWhole := ok_whole FW.fn T
  refine F.ok scWithin (fun vs H Q E h => ?_) (fun cdv A outer s H vs Q E hr h => ?_)
  · obtain ⟨v, l, m, rfl, _⟩ := h
    rfl
  · obtain ⟨v, l, m, rfl, hv, q⟩ := h
    refine ⟨_, pss_one (ps_ret (pe_and (pe_call GW hr (by rfl) FW.gl FW.fn.kp FW.bd .nil pass0 (pa_cons (pv 0) pa_nil)) (pe_one (pe_chain op_le op_le (pv 1) (pv 0) (pv 2))))), ?_⟩
    refine ⟨_, rfl, v, rfl, hv, _, rfl, ?_⟩
    cases hv with
    | int i =>
      refine ⟨_, rfl, _, rfl, l, i, rfl, rfl, _, rfl, ?_⟩
      have q' : Q (.bl (decide (l ≤ i) && decide (i ≤ m))) H := q
      cases h : decide (l ≤ i) with
      | true =>
        rw [h] at q'
        exact ⟨_, rfl, i, m, rfl, rfl, q'⟩
      | false =>
        rw [h] at q'
        exact q'
    | _ => exact q
/-! ### NoRound -/
abbrev Nr (K : PySem.W.Frag) (P : Program) (mg : Str → Option Value) (CN fN cc c : Addr) (fdN : FuncData) : Prop := Nx K P mg s_NoRound___init__ "NoRound" "NoRound.__init__" "field" CN fN cc c fdN
theorem ok_err {C fN cc c : Addr} {fdN : FuncData} (N : Nr K P mg C fN cc c fdN) : FnOk P w K mg base CX0 1 fN fdN ["self", "field"] (spErr C "field") := by
  refine sup_of (pr := ["field"]) (pl := fun _ => _) N.sup N.lk scErr rfl rfl (fun vs H Q E h => ?_) (fun _ => rfl) (fun _ => rfl) (fun _ => rfl) (fun _ e => ?_) (fun _ => rfl) (fun A outer s H vs Q E hr h => ?_)
  · obtain ⟨a, z, rfl, _⟩ := h
    rfl
  · unfold interactive
    rw [e]
    rfl
  · obtain ⟨a, z, rfl, hz, ha, q⟩ := h
    refine ⟨a, [.str z], _, _, rfl, ha, pa_cons (pe_joined (.cons pe_str (.cons (pe_fmt (pv 1)) .nil))) pa_nil, pss_one (ps_ost (pv 0) (pv 1)), ?_⟩
    refine ⟨_, rfl, ?_, _, rfl, .inl ⟨z, rfl, by rw [sizeLine_eq]; omega, _, rfl, ?_, ?_⟩⟩
    · rw [nil_app]; decide +kernel
    · rw [nil_app, strLen_append, sizeLine_eq, show (Str.ofString "no round by its ").length = 16 by decide +kernel]
      omega
    · exact ⟨by show 1 ≤ 1000; decide, ha, _, rfl, _, rfl, a, C, rfl, N.sup.oex, N.hno, .inl ⟨ha, fun dx n1 n2 => q dx n1 n2⟩⟩
/-! ### on and off -/
def turnF (a b : V) : Option Str := if fromB a 1 = true then (if fromB b 0 = true then none else some "off") else some "on"
def Bad (CN : Addr) (H : Hp) (E : XK) (z : Str) : Prop := ∀ d H', H d = none → Same H H' → H' d = some (.xd [("field", .str z)]) → E (.ref CN) (some d) H'
theorem Bad.mono {CN : Addr} {H H1 : Hp} {E : XK} {z : Str} (h : Bad CN H E z) (s : Same H H1) : Bad CN H1 E z := fun d H' nd sm hd => h d H' (s.free nd) (s.trans sm) hd
def spCheck (CN : Addr) : Sp := fun vs H Q E => ∃ a b, vs = [a, b] ∧ Odd H a ∧ Odd H b ∧ (turnF a b = none → Q .non H) ∧ (∀ z, turnF a b = some z → Bad CN H E z)
theorem ok_check {f fF fW CN fN cc c : Addr} {fd fdF fdW fdN : FuncData} {k : Nat} (F : Fun K "check_turns" "check_turns" s_check_turns f fd) (T : Tx mg) (N : Nr K P mg CN fN cc c fdN)
    (FF : Has K mg "is_from" ["thing", "least"] s_is_from fF fdF) (FW : Has K mg "is_whole" ["thing"] s_is_whole fW fdW) : FnOk P w K mg base (L2.CX P w) (k + 3) f fd ["on", "off"] (spCheck CN) := by
  have GF : FnOk P w K mg base CX0 (k + 2) fF fdF ["thing", "least"] spFrom := ok_from FF.fn T FW
  have GN : FnOk P w K mg base CX0 1 fN fdN ["self", "field"] (spErr CN "field") := ok_err N
  refine F.okX scCheck (fun vs H Q E h => ?_) (fun cdv A outer s H vs Q E hr h => ?_)
  · obtain ⟨a, b, rfl, _⟩ := h
    rfl
  · obtain ⟨a, b, rfl, oa, ob, q1, q2⟩ := h
    have hr2 : Room 2 _ := hr.mono (by omega)
    refine ⟨_, pss_cons (ps_if (pt_not (pt_val (pe_call GF hr (by rfl) FF.gl FF.fn.kp FF.bd .nil pass0 (pa_cons (pv 0) (pa_cons pe_int pa_nil)))))
        (pss_one (ps_raise rfl (takes_of rfl rfl rfl rfl) (pmk_oex N.sup.oex N.ini N.tI GN hr2 N.bd .nil pass0 (by rfl) N.gl (pa_cons pe_str pa_nil)))) pss_nil)
      (pss_one (ps_if (pt_not (pt_val (pe_call GF hr (by rfl) FF.gl FF.fn.kp FF.bd .nil pass0 (pa_cons (pv 1) (pa_cons pe_int pa_nil)))))
        (pss_one (ps_raise rfl (takes_of rfl rfl rfl rfl) (pmk_oex N.sup.oex N.ini N.tI GN hr2 N.bd .nil pass0 (by rfl) N.gl (pa_cons pe_str pa_nil)))) pss_nil)), ?_⟩
    have bad : ∀ z : Str, z.length ≤ 1000 → turnF a b = some z → ∀ x, H x = none → spErr CN "field" (.ref x :: ([.str z] ++ [])) (upd H x (exo x CN none))
        (fun v H2 => v = .non ∧ ∃ (d : Addr) (fs : List (Str × V)), H2 x = some (exo x CN (some d)) ∧ H2 d = some (exd d fs) ∧ H d = none ∧ E (.ref CN) (some d) (upd (del H2 x) d (.xd fs))) (fun _ _ _ => False) :=
      fun z hz hb x nx => err_made nx hz (fun d H' nd sm hd => q2 z hb d H' nd sm hd)
    refine ⟨_, rfl, a, 1, rfl, oa, _, rfl, ?_⟩
    by_cases h1 : fromB a 1 = true
    · rw [h1]
      refine ⟨_, rfl, b, 0, rfl, ob, _, rfl, ?_⟩
      by_cases h2 : fromB b 0 = true
      · rw [h2]
        exact q1 (by unfold turnF; rw [if_pos h1, if_pos h2])
      · rw [bool_false h2]
        exact ⟨by show 1 ≤ 1000; decide, bad "off" (by decide +kernel) (by unfold turnF; rw [if_pos h1, if_neg h2])⟩
    · rw [bool_false h1]
      exact ⟨by show 1 ≤ 1000; decide, bad "on" (by decide +kernel) (by unfold turnF; rw [if_neg h1])⟩
/-! ### begins, where they are -/
theorem ps_no {X : Cx} {st : Stmt} : PS X st (fun _ _ _ => False) := ⟨fun _ _ _ _ _ _ h => h.elim⟩
theorem kit_lt (x : String) (h : x = "list" ∨ x = "tuple") : PySem.W.kitAny K (.type x) [.type "list", .type "tuple"] = some true := by
  rcases h with rfl | rfl
  · exact kitAny_cons (b := true) (kit_ty (show kitB "list" "list" = some true by decide +kernel)) nofun (fun _ => rfl)
  · exact kitAny_cons (b := false) (kit_ty (show kitB "tuple" "list" = some false by decide +kernel)) (fun _ => kitAny_cons (b := true) (kit_ty (show kitB "tuple" "tuple" = some true by decide +kernel)) nofun (fun _ => rfl)) nofun
theorem all_true (bs : List Bool) (h : ∀ b ∈ bs, b = true) : bs.all id = true := by
  rw [List.all_eq_true]
  exact fun b hb => h b hb
theorem small1000 {n : Nat} (h : n ≤ 1000) : n < sizeLine := by rw [sizeLine_eq]; omega
def Most (mg : Str → Option Value) : Prop := ∃ t, mg "MOST_KEEPERS" = some (.int 40 t)
def spBegins : Sp := fun vs H Q _ => ∃ (a : Addr) (wh : Int) (ns : List Int), vs = [.ref a, .int wh] ∧ H a = some (.lst (ns.map V.int)) ∧ ns.length ≤ 40 ∧ (∀ n ∈ ns, 0 ≤ n ∧ n < wh) ∧ ∀ H', Same H H' → Q (.bl true) H'
theorem ok_begins {f fI fW : Addr} {fd fdI fdW : FuncData} {k : Nat} (F : Fun K "are_begins" "are_begins" s_are_begins f fd) (T : Tx mg) (hM : Most mg)
    (FI : Has K mg "is_within" ["thing", "least", "most"] s_is_within fI fdI) (FW : Has K mg "is_whole" ["thing"] s_is_whole fW fdW) : FnOk P w K mg base CX0 (k + 3) f fd ["thing", "whole"] spBegins := by
  have GI : FnOk P w K mg base CX0 (k + 2) fI fdI ["thing", "least", "most"] spWithin := ok_within FI.fn T FW
  obtain ⟨tM, gM⟩ := hM
  refine F.ok scBegins (fun vs H Q E h => ?_) (fun cdv A outer s H vs Q E hr h => ?_)
  · obtain ⟨a, wh, ns, rfl, _⟩ := h
    rfl
  · obtain ⟨a, wh, ns, rfl, hS, hl, hb, q⟩ := h
    have nd := scBegins.nd
    refine ⟨_, pss_cons (ps_if (PW.pt (pw_or (pt_not (pt_val (pe_callB call_isiT (by rfl) T.isi (by decide +kernel) (pa_cons (pv 0) (pa_cons (pe_tup (pa_cons (pe_bltn (v := .ty "list") (by rfl) T.list (by decide +kernel) rfl)
          (pa_cons (pe_bltn (v := .ty "tuple") (by rfl) T.tuple (by decide +kernel) rfl) pa_nil))) pa_nil)))))
        (pw_or1 (pt_cmpR op_gt (pe_callB call_len_seq (by rfl) T.len PySem.boot_len (pa_cons (pv 0) pa_nil)) (pe_glob (v := .int 40) (by rfl) gM ⟨_, rfl⟩) (nomark _))))) (pss_one (ps_ret pe_bl)) pss_nil)
      (pss_one (ps_ret (pe_callB (cr_all rfl) (by rfl) T.all (by decide +kernel) (pa_cons (pe_lc (own := [("begin", 2)]) (g := gName 2) (tt := tYes) rfl nd (pi_list (pv 0)) (blkOk_by (N := ["thing", "whole", "begin"]) (sc := defScope s_are_begins) (by decide +kernel))
          (fun _ _ _ _ _ => pg_name (i := 2) nd rfl (Or.inl rfl)) (fun _ _ _ _ _ => pts_nil)
          (fun _ _ _ _ _ => pe_call GI hr (by rfl) FI.gl FI.fn.kp FI.bd .nil pass0 (pa_cons (pv 2) (pa_cons pe_int (pa_cons (pe_op op_sub (pv 1) pe_int) pa_nil))))) pa_nil)))), ?_⟩
    refine ⟨_, rfl, by show 2 ≤ sizeLine; decide, fun tp ntp => ?_⟩
    have s1 := same_upd (o := .tup [V.ty "list", V.ty "tuple"]) ntp
    have e1 := upd_same (H := H) (a := tp) (o := .tup [V.ty "list", V.ty "tuple"])
    generalize upd H tp (.tup [V.ty "list", V.ty "tuple"]) = H1 at *
    have hS0 := s1 _ _ hS
    have hS1 : SqL K H1 a (ns.map V.int) := SqL.of hS0
    refine ⟨_, tp, _, _, [.type "list", .type "tuple"], true, rfl, e1, .cons (.ty _) (.cons (.ty _) .nil), .base (.lst hS0), kit_lt "list" (.inl rfl), _, rfl, ?_⟩
    refine ⟨_, rfl, a, _, rfl, .inl hS1, _, _, rfl, rfl, _, rfl, ?_⟩
    rw [decide_eq_false (show ¬ ((ns.map V.int).length : Int) > 40 by rw [List.length_map]; omega)]
    refine ⟨_, rfl, a, rfl, ⟨_, hS1⟩, fun D nD => ?_⟩
    refine lc_list (K := K) (a := a) (xs := ns.map V.int) (fun i H' => Same H1 H' ∧ H' D = some (.lst (List.replicate i (.bl true)))) ⟨same_upd nD, upd_same⟩ (fun i H' _ h => h.1.seq hS1) ?_ ?_
    · rintro i y H2 hy ⟨sm, eD⟩
      obtain ⟨n, hn, rfl⟩ : ∃ n, n ∈ ns ∧ y = .int n := by
        have := List.mem_of_getElem? hy
        obtain ⟨n, hn, e⟩ := List.mem_map.mp this
        exact ⟨n, hn, e.symm⟩
      have hi : i < ns.length := by
        have := (List.getElem?_eq_some_iff.mp hy).1
        rwa [List.length_map] at this
      obtain ⟨b0, b1⟩ := hb n hn
      refine ⟨rfl, _, rfl, _, rfl, _, _, rfl, rfl, .int n, 0, wh - 1, rfl, .int n, ?_⟩
      rw [show withinB (.int n) 0 (wh - 1) = true by
        show (decide (0 ≤ n) && decide (n ≤ wh - 1)) = true
        rw [decide_eq_true b0, decide_eq_true (by omega)]
        rfl]
      refine ⟨_, eD, ?_, same_app nD sm, ?_⟩
      · rw [List.length_replicate]
        exact small1000 (by omega)
      · rw [upd_same, List.replicate_succ']
    · rintro H2 ⟨sm, eD⟩
      refine ⟨D, List.replicate (ns.map V.int).length true, rfl, SqL.of (by rw [List.map_replicate]; exact eD), ?_⟩
      rw [all_true _ fun b hb => List.eq_of_mem_replicate hb]
      exact q H2 (s1.trans sm)
/-! ### Round -/
structure Rc (K : PySem.W.Frag) (mg : Str → Option Value) (C : Addr) : Prop where
  cl : Cls K C
  n1 : PySem.W.findIn K (.ref C) "slots_on" = some none
  n2 : PySem.W.findIn K (.ref C) "slots_off" = some none
  n3 : PySem.W.findIn K (.ref C) "first_slots" = some none
  mgC : mg "Round" = some (.ref C)
  kC : PySem.W.keepIn K (.ref C) = true
def rf (a b l : V) : List (Str × V) := [("slots_on", a), ("slots_off", b), ("first_slots", l)]
/-- a round stands at x -/
def Rd (C : Addr) (H : Hp) (x : Addr) (a b : Int) (ns : List Int) : Prop := ∃ dx l, H x = some (.ins C dx (rf (.int a) (.int b) (.ref l))) ∧ H l = some (.lst (ns.map V.int))
theorem Rd.mono {C : Addr} {H H' : Hp} {x : Addr} {a b : Int} {ns : List Int} (h : Rd C H x a b ns) (s : Same H H') : Rd C H' x a b ns := by
  obtain ⟨dx, l, h1, h2⟩ := h
  exact ⟨dx, l, s _ _ h1, s _ _ h2⟩
theorem turn_good {a b : Int} (h1 : 1 ≤ a) (h2 : 0 ≤ b) : turnF (.int a) (.int b) = none := by
  unfold turnF
  rw [show fromB (.int a) 1 = true from decide_eq_true h1, show fromB (.int b) 0 = true from decide_eq_true h2]
  rfl
def spInit (C : Addr) : Sp := fun vs H Q _ => ∃ (x dx : Addr) (a b : Int) (l : Addr) (ns : List Int), vs = [.ref x, .int a, .int b, .ref l] ∧ H x = some (.ins C dx []) ∧ 1 ≤ a ∧ 0 ≤ b ∧ H l = some (.lst (ns.map V.int)) ∧ ns.length ≤ 40 ∧ (∀ n ∈ ns, 0 ≤ n ∧ n < a + b) ∧
  ∀ H', SameB x H H' → Rd C H' x a b ns → Q .non H'
theorem ok_init {f fC fB fF fI fW C CN fN cc c : Addr} {fd fdC fdB fdF fdI fdW fdN : FuncData} {k : Nat} (F : Fun K "__init__" "Round.__init__" s_Round___init__ f fd) (T : Tx mg) (hM : Most mg) (Z : Rc K mg C) (N : Nr K P mg CN fN cc c fdN)
    (FC : Has K mg "check_turns" ["on", "off"] s_check_turns fC fdC) (FB : Has K mg "are_begins" ["thing", "whole"] s_are_begins fB fdB) (FF : Has K mg "is_from" ["thing", "least"] s_is_from fF fdF)
    (FI : Has K mg "is_within" ["thing", "least", "most"] s_is_within fI fdI) (FW : Has K mg "is_whole" ["thing"] s_is_whole fW fdW) : FnOk P w K mg base CX0 (k + 4) f fd ["self", "on", "off", "begins"] (spInit C) := by
  have GC : FnOk P w K mg base (L2.CX P w) (k + 3) fC fdC ["on", "off"] (spCheck CN) := ok_check FC.fn T N FF FW
  have GB : FnOk P w K mg base CX0 (k + 3) fB fdB ["thing", "whole"] spBegins := ok_begins FB.fn T hM FI FW
  refine F.ok scInit (fun vs H Q E h => ?_) (fun cdv A outer s H vs Q E hr h => ?_)
  · obtain ⟨x, dx, a, b, l, ns, rfl, _⟩ := h
    rfl
  · obtain ⟨x, dx, a, b, l, ns, rfl, hx, ha, hb, hS, hl, hn, q⟩ := h
    refine ⟨_, pss_cons (ps_expr (pe_call GC hr (by rfl) FC.gl FC.fn.kp FC.bd .nil passL (pa_cons (pv 1) (pa_cons (pv 2) pa_nil))))
      (pss_cons (ps_if (pt_not (pt_val (pe_call GB hr (by rfl) FB.gl FB.fn.kp FB.bd .nil pass0 (pa_cons (pv 3) (pa_cons (pe_op op_add (pv 1) (pv 2)) pa_nil))))) (pss_one ps_no) pss_nil)
      (pss_cons (ps_fld (pv 0) (pv 1) rfl) (pss_cons (ps_fld (pv 0) (pv 2) rfl) (pss_one (ps_fld (pv 0) (pe_callTy call_list_of (by rfl) T.list (by decide +kernel) (pa_cons (pv 3) pa_nil)) rfl))))), ?_⟩
    refine ⟨_, rfl, _, rfl, .int a, .int b, rfl, .int a, .int b, fun _ => ?_, fun z hz => by rw [turn_good ha hb] at hz; cases hz⟩
    refine ⟨_, rfl, _, rfl, _, rfl, _, _, rfl, rfl, l, a + b, ns, rfl, hS, hl, hn, fun H1 s1 => ?_⟩
    refine ⟨_, rfl, ?_⟩
    refine ⟨_, rfl, _, rfl, x, C, dx, _, rfl, s1 _ _ hx, Z.cl, Z.n1, (by decide), ?_⟩
    refine ⟨_, rfl, _, rfl, x, C, dx, _, rfl, upd_same, Z.cl, Z.n2, (by show 1 < 1000; decide), ?_⟩
    rw [upd_upd]
    have hlx : l ≠ x := ne_of hS hx (by intro z; cases z)
    have hl1 : (upd H1 x (.ins C dx (putF ("slots_off" : Str) (.int b) (putF ("slots_on" : Str) (.int a) [])))) l = some (.lst (ns.map V.int)) := by
      rw [upd_ne hlx]
      exact s1 _ _ hS
    refine ⟨_, rfl, l, _, rfl, .inl (SqL.of hl1), fun m nm => ?_⟩
    have nmx : m ≠ x := by
      rintro rfl
      rw [upd_same] at nm
      cases nm
    refine ⟨_, rfl, x, C, dx, _, rfl, (by rw [upd_ne (Ne.symm nmx), upd_same]), Z.cl, Z.n3, (by show 2 < 1000; decide), ?_⟩
    have sB : SameB x H (upd H1 x (.ins C dx (putF ("slots_off" : Str) (.int b) (putF ("slots_on" : Str) (.int a) [])))) := fun c o n e => by
      rw [upd_ne n]
      exact s1 _ _ e
    refine q _ (fun c o n e => ?_) ⟨dx, m, upd_same, by rw [upd_ne nmx, upd_same]⟩
    rw [upd_ne n]
    have e1 := sB c o n e
    rw [upd_ne (ne_of_none e1 nm)]
    exact e1
end
end K48

set_option Elab.async false
set_option linter.all false
set_option maxRecDepth 100000
set_option maxHeartbeats 1600000
namespace K48
open PySem PySem.Spec PyProof.Rows L2 LT NdefX
theorem scParts : FnScope ["many", "most"] ["many", "most"] (defScope s_parts_for) := ⟨rfl, rfl, rfl, by decide +kernel, rfl, by decide +kernel, by decide +kernel⟩
abbrev nEven : List Str := ["on", "off", "many", "keeper"]
theorem scEven : FnScope nEven ["on", "off", "many"] (defScope s_even_round) := ⟨rfl, rfl, rfl, by decide +kernel, rfl, by decide +kernel, by decide +kernel⟩
theorem scKeeping : FnScope ["many", "on", "off", "keepers"] ["many", "on", "off"] (defScope s_keeping) := ⟨rfl, rfl, rfl, by decide +kernel, rfl, by decide +kernel, by decide +kernel⟩
section
variable {P : Program} {w : World} {K : PySem.W.Frag} {mg : Str → Option Value} {base : Heap} {C CN CU CT : Addr}
def spParts : Sp := fun vs H Q _ => ∃ m k : Int, vs = [.int m, .int k] ∧ 0 < k ∧ k.natAbs ≤ 10 ^ 62 ∧ Q (.int ((m + k - 1) / k)) H
theorem ok_parts {f : Addr} {fd : FuncData} {k : Nat} (F : Fun K "parts_for" "parts_for" s_parts_for f fd) : FnOk P w K mg base CX0 (k + 1) f fd ["many", "most"] spParts := by
  refine F.ok scParts (fun vs H Q E h => ?_) (fun cdv A outer s H vs Q E hr h => ?_)
  · obtain ⟨m, k, rfl, _⟩ := h
    rfl
  · obtain ⟨m, k, rfl, k0, k1, q⟩ := h
    refine ⟨_, pss_one (ps_ret (pe_op op_fdivW (pe_op op_sub (pe_op op_add (pv 0) (pv 1)) pe_int) (pv 1))), ?_⟩
    exact ⟨_, rfl, _, rfl, _, _, rfl, rfl, _, _, rfl, rfl, _, rfl, _, _, rfl, rfl, wide_div (b := 210) k0 (Nat.lt_of_le_of_lt k1 (by decide)) (by decide) (by decide), q⟩
/-- an own error without a field -/
structure Ev (K : PySem.W.Frag) (mg : Str → Option Value) (x : Str) (D : Addr) : Prop where
  g : mg x = some (.ref D)
  x : PySem.W.excIn K D [.type "ValueError", .type "Exception", .type "BaseException", .type "object"] "ValueError.__new__" = true
  k : PySem.W.keepIn K (.ref D) = true
  b : PySem.W.subIn K (.ref D) (.type "BaseException") = some true
  t : PySem.W.typeIn K (.ref D) = some (.type "type")
/-- the begins of an even round -/
def evenN (wh m : Int) : List Int := (List.range m.toNat).map fun i => ((i : Nat) : Int) * wh / m
theorem even_len {wh m : Int} (h : m ≤ 40) : (evenN wh m).length ≤ 40 := by
  unfold evenN
  rw [List.length_map, List.length_range]
  omega
theorem even_in {wh m : Int} (hw : 0 < wh) : ∀ n ∈ evenN wh m, 0 ≤ n ∧ n < wh := by
  intro n hn
  unfold evenN at hn
  obtain ⟨i, hi, rfl⟩ := List.mem_map.mp hn
  have hi := List.mem_range.mp hi
  have hm : 0 < m := by omega
  have hi2 : ((i : Nat) : Int) < m := by omega
  refine ⟨Int.ediv_nonneg (Int.mul_nonneg (by omega) (by omega)) (by omega), ?_⟩
  rw [Int.ediv_lt_iff_lt_mul hm, Int.mul_comm wh m]
  exact Int.mul_lt_mul_of_pos_right hi2 hw
def spEven (C CN CU : Addr) : Sp := fun vs H Q E => ∃ a b m : V, vs = [a, b, m] ∧ Odd H a ∧ Odd H b ∧ Odd H m ∧
  (∀ z, turnF a b = some z → Bad CN H E z) ∧ (turnF a b = none → withinB m 0 40 = false → E (.ref CU) none H) ∧
  (∀ i j n : Int, a = .int i → b = .int j → m = .int n → 1 ≤ i → 0 ≤ j → 0 ≤ n → n ≤ 40 → ∀ x H', Same H H' → Rd C H' x i j (evenN (i + j) n) → Q (.ref x) H')
theorem turn_none {a b : V} (h : turnF a b = none) : ∃ i j, a = .int i ∧ b = .int j ∧ 1 ≤ i ∧ 0 ≤ j := by
  unfold turnF at h
  split at h
  · rename_i h1
    split at h
    · rename_i h2
      obtain ⟨i, rfl, hi⟩ := from_int h1
      obtain ⟨j, rfl, hj⟩ := from_int h2
      exact ⟨i, j, rfl, rfl, hi, hj⟩
    · cases h
  · cases h
theorem within_int {v : V} {l m : Int} (h : withinB v l m = true) : ∃ i, v = .int i ∧ l ≤ i ∧ i ≤ m := by
  cases v with
  | int i =>
    have h2 : (decide (l ≤ i) && decide (i ≤ m)) = true := h
    rw [Bool.and_eq_true] at h2
    exact ⟨i, rfl, of_decide_eq_true h2.1, of_decide_eq_true h2.2⟩
  | _ => cases h
theorem ok_even {f fR fC fB fF fI fW fN cc c : Addr} {fd fdR fdC fdB fdF fdI fdW fdN : FuncData} {k : Nat} (F : Fun K "even_round" "even_round" s_even_round f fd) (T : Tx mg) (hM : Most mg) (Z : Rc K mg C) (N : Nr K P mg CN fN cc c fdN) (U : Ev K mg "NoNumber" CU)
    (M : Mk K C fR) (FR : Fun K "__init__" "Round.__init__" s_Round___init__ fR fdR) (bR : L2.Binds K fdR ["self", "on", "off", "begins"] [])
    (FC : Has K mg "check_turns" ["on", "off"] s_check_turns fC fdC) (FB : Has K mg "are_begins" ["thing", "whole"] s_are_begins fB fdB) (FF : Has K mg "is_from" ["thing", "least"] s_is_from fF fdF)
    (FI : Has K mg "is_within" ["thing", "least", "most"] s_is_within fI fdI) (FW : Has K mg "is_whole" ["thing"] s_is_whole fW fdW) : FnOk P w K mg base (L2.CX P w) (k + 6) f fd ["on", "off", "many"] (spEven C CN CU) := by
  have GC : FnOk P w K mg base (L2.CX P w) (k + 3) fC fdC ["on", "off"] (spCheck CN) := ok_check FC.fn T N FF FW
  have GI : FnOk P w K mg base CX0 (k + 2) fI fdI ["thing", "least", "most"] spWithin := ok_within FI.fn T FW
  have GR : FnOk P w K mg base CX0 (k + 4) fR fdR ["self", "on", "off", "begins"] (spInit C) := ok_init FR T hM Z N FC FB FF FI FW
  obtain ⟨tM, gM⟩ := hM
  refine F.okX scEven (fun vs H Q E h => ?_) (fun cdv A outer s H vs Q E hr h => ?_)
  · obtain ⟨a, b, m, rfl, _⟩ := h
    rfl
  · obtain ⟨a, b, m, rfl, oa, ob, om, q1, q2, q3⟩ := h
    have nd := scEven.nd
    have hr3 : Room (k + 3) _ := hr.mono (by omega)
    have hr2 : Room (k + 2) _ := hr.mono (by omega)
    have ps : Passes (L2.CX P w) (cxOf (L2.CX P w) P w K mg base nEven "even_round" (defScope s_even_round) f cdv A outer s H E) E := passes_call (takes_of rfl rfl rfl rfl) (fun _ _ _ _ h => h)
    refine ⟨_, pss_cons (ps_expr (pe_call GC hr3 (by rfl) FC.gl FC.fn.kp FC.bd .nil ps (pa_cons (pv 0) (pa_cons (pv 1) pa_nil))))
      (pss_cons (ps_if (pt_not (pt_val (pe_call GI hr2 (by rfl) FI.gl FI.fn.kp FI.bd .nil pass0 (pa_cons (pv 2) (pa_cons pe_int (pa_cons (pe_glob (v := .int 40) (by rfl) gM ⟨_, rfl⟩) pa_nil))))))
        (pss_one (ps_raise rfl (takes_of rfl rfl rfl rfl) (pmk_own PySem.F.excBase_ValueError U.x U.g U.k (raises_own U.b U.t) (by rfl)))) pss_nil)
      (pss_one (ps_ret (pe_make M GR hr (by rfl) Z.mgC bR .nil pass0 (pa_cons (pv 0) (pa_cons (pv 1) (pa_cons
        (pe_lc (own := [("keeper", 3)]) (g := gName 3) (tt := tYes) rfl nd (pi_range1 (by rfl) T.range (pa_cons (pv 2) pa_nil)) (blkOk_by (N := nEven) (sc := defScope s_even_round) (by decide +kernel))
          (fun _ _ _ _ _ => pg_name (i := 3) nd rfl (Or.inl rfl)) (fun _ _ _ _ _ => pts_nil)
          (fun _ _ _ _ _ => pe_op op_fdiv (pe_op op_mul (pv 3) (pe_op op_add (pv 0) (pv 1))) (pv 2))) pa_nil))))))), ?_⟩
    refine ⟨_, rfl, _, rfl, a, b, rfl, oa, ob, fun ht => ?_, fun z hz => q1 z hz⟩
    obtain ⟨i, j, rfl, rfl, hi, hj⟩ := turn_none ht
    refine ⟨_, rfl, m, 0, 40, rfl, om, _, rfl, ?_⟩
    by_cases hw : withinB m 0 40 = true
    · rw [hw]
      obtain ⟨n, rfl, n0, n1⟩ := within_int hw
      refine ⟨_, rfl, _, rfl, _, rfl, n, rfl, by omega, by omega, fun D nD => ?_⟩
      refine lc_range (lo := 0) (n := n.toNat) (fun t H' => Same H H' ∧ H' D = some (.lst (((List.range t).map fun i' => ((i' : Nat) : Int) * (i + j) / n).map V.int))) ⟨same_upd nD, upd_same⟩ ?_ ?_
      · rintro t H1 ht1 ⟨sm, eD⟩
        refine ⟨rfl, _, rfl, _, rfl, _, rfl, _, _, rfl, rfl, _, _, rfl, rfl, .inl ⟨by omega, by omega⟩, _, rfl, _, _, rfl, rfl, ⟨by omega, by omega⟩, ?_⟩
        refine ⟨_, eD, ?_, same_app nD sm, ?_⟩
        · rw [List.length_map, List.length_map, List.length_range]
          exact small1000 (by omega)
        · rw [upd_same, List.range_succ, List.map_append, List.map_append]
          simp only [List.map_cons, List.map_nil, Int.zero_add]
      · rintro H1 ⟨sm, eD⟩
        refine fun x dx nx ndx nex => ?_
        have s1 : Same H1 (upd (upd H1 dx (.own x)) x (.ins C dx [])) := same_made (C := C) nx ndx
        refine ⟨x, dx, i, j, D, evenN (i + j) n, rfl, upd_same, hi, hj, s1 _ _ eD, even_len n1, even_in (by omega), fun H2 s2 hR => ⟨rfl, ?_⟩⟩
        refine q3 i j n rfl rfl rfl hi hj n0 n1 x H2 (sm.trans fun c o e => ?_) hR
        exact s2 c o (ne_of_none e nx) (s1 _ _ e)
    · rw [bool_false hw]
      exact q2 ht (bool_false hw)
/-! ### keeping -/
def keepN (m i j : Int) : Int := (m * (i + j) + i - 1) / i
def spKeep (C CN CU CT : Addr) : Sp := fun vs H Q E => ∃ m a b : V, vs = [m, a, b] ∧ Odd H m ∧ Odd H a ∧ Odd H b ∧ (∀ i, a = .int i → i.natAbs ≤ 10 ^ 61) ∧ (∀ i, b = .int i → i.natAbs ≤ 10 ^ 61) ∧ (∀ i, m = .int i → i.natAbs ≤ 10 ^ 61) ∧
  (∀ z, turnF a b = some z → Bad CN H E z) ∧ (turnF a b = none → fromB m 0 = false → E (.ref CU) none H) ∧
  (∀ i j n : Int, a = .int i → b = .int j → m = .int n → 1 ≤ i → 0 ≤ j → 0 ≤ n → 40 < keepN n i j → E (.ref CT) none H) ∧
  (∀ i j n : Int, a = .int i → b = .int j → m = .int n → 1 ≤ i → 0 ≤ j → 0 ≤ n → keepN n i j ≤ 40 → ∀ x t H', Same H H' → Rd C H' x i j (evenN (i + j) (keepN n i j)) → H' t = some (.tup [.int (keepN n i j), .ref x]) → Q (.ref t) H')
theorem keep_pos {m i j : Int} (hi : 1 ≤ i) (hj : 0 ≤ j) (hm : 0 ≤ m) : 0 ≤ keepN m i j := by
  unfold keepN
  exact Int.ediv_nonneg (by have := Int.mul_nonneg hm (show 0 ≤ i + j by omega); omega) (by omega)
theorem ok_keep {f fE fP fR fC fB fF fI fW fN cc c : Addr} {fd fdE fdP fdR fdC fdB fdF fdI fdW fdN : FuncData} {k : Nat} (F : Fun K "keeping" "keeping" s_keeping f fd) (T : Tx mg) (hM : Most mg) (Z : Rc K mg C) (N : Nr K P mg CN fN cc c fdN) (U : Ev K mg "NoNumber" CU) (V' : Ev K mg "TooMany" CT)
    (FE : Has K mg "even_round" ["on", "off", "many"] s_even_round fE fdE) (FP : Has K mg "parts_for" ["many", "most"] s_parts_for fP fdP)
    (M : Mk K C fR) (FR : Fun K "__init__" "Round.__init__" s_Round___init__ fR fdR) (bR : L2.Binds K fdR ["self", "on", "off", "begins"] [])
    (FC : Has K mg "check_turns" ["on", "off"] s_check_turns fC fdC) (FB : Has K mg "are_begins" ["thing", "whole"] s_are_begins fB fdB) (FF : Has K mg "is_from" ["thing", "least"] s_is_from fF fdF)
    (FI : Has K mg "is_within" ["thing", "least", "most"] s_is_within fI fdI) (FW : Has K mg "is_whole" ["thing"] s_is_whole fW fdW) : FnOk P w K mg base (L2.CX P w) (k + 7) f fd ["many", "on", "off"] (spKeep C CN CU CT) := by
  have GC : FnOk P w K mg base (L2.CX P w) (k + 3) fC fdC ["on", "off"] (spCheck CN) := ok_check FC.fn T N FF FW
  have GF : FnOk P w K mg base CX0 (k + 2) fF fdF ["thing", "least"] spFrom := ok_from FF.fn T FW
  have GP : FnOk P w K mg base CX0 (k + 1) fP fdP ["many", "most"] spParts := ok_parts FP.fn
  have GE : FnOk P w K mg base (L2.CX P w) (k + 6) fE fdE ["on", "off", "many"] (spEven C CN CU) := ok_even FE.fn T hM Z N U M FR bR FC FB FF FI FW
  obtain ⟨tM, gM⟩ := hM
  refine F.okX scKeeping (fun vs H Q E h => ?_) (fun cdv A outer s H vs Q E hr h => ?_)
  · obtain ⟨m, a, b, rfl, _⟩ := h
    rfl
  · obtain ⟨m, a, b, rfl, om, oa, ob, ba, bb, bm, q1, q2, q3, q4⟩ := h
    have nd := scKeeping.nd
    have hr3 : Room (k + 3) _ := hr.mono (by omega)
    have hr2 : Room (k + 2) _ := hr.mono (by omega)
    have hr1 : Room (k + 1) _ := hr.mono (by omega)
    have ps : Passes (L2.CX P w) (cxOf (L2.CX P w) P w K mg base ["many", "on", "off", "keepers"] "keeping" (defScope s_keeping) f cdv A outer s H E) E := passes_call (takes_of rfl rfl rfl rfl) (fun _ _ _ _ h => h)
    refine ⟨_, pss_cons (ps_expr (pe_call GC hr3 (by rfl) FC.gl FC.fn.kp FC.bd .nil ps (pa_cons (pv 1) (pa_cons (pv 2) pa_nil))))
      (pss_cons (ps_if (pt_not (pt_val (pe_call GF hr2 (by rfl) FF.gl FF.fn.kp FF.bd .nil pass0 (pa_cons (pv 0) (pa_cons pe_int pa_nil)))))
        (pss_one (ps_raise rfl (takes_of rfl rfl rfl rfl) (pmk_own PySem.F.excBase_ValueError U.x U.g U.k (raises_own U.b U.t) (by rfl)))) pss_nil)
      (pss_cons (ps_set (i := 3) nd rfl (.inl rfl) (pe_call GP hr1 (by rfl) FP.gl FP.fn.kp FP.bd .nil pass0 (pa_cons (pe_op op_mulW (pv 0) (pe_op op_add (pv 1) (pv 2))) (pa_cons (pv 1) pa_nil))))
      (pss_cons (ps_if (pt_cmpR op_gt (pv 3) (pe_glob (v := .int 40) (by rfl) gM ⟨_, rfl⟩) (nomark _))
        (pss_one (ps_raise rfl (takes_of rfl rfl rfl rfl) (pmk_own PySem.F.excBase_ValueError V'.x V'.g V'.k (raises_own V'.b V'.t) (by rfl)))) pss_nil)
      (pss_one (ps_ret (pe_tup (pa_cons (pv 3) (pa_cons (pe_call GE hr (by rfl) FE.gl FE.fn.kp FE.bd .nil ps (pa_cons (pv 1) (pa_cons (pv 2) (pa_cons (pv 3) pa_nil)))) pa_nil)))))))), ?_⟩
    refine ⟨_, rfl, _, rfl, a, b, rfl, oa, ob, fun ht => ?_, fun z hz => q1 z hz⟩
    obtain ⟨i, j, rfl, rfl, hi, hj⟩ := turn_none ht
    refine ⟨_, rfl, m, 0, rfl, om, _, rfl, ?_⟩
    by_cases hw : fromB m 0 = true
    · rw [hw]
      obtain ⟨n, rfl, n0⟩ := from_int hw
      have bi := ba i rfl
      have bj := bb j rfl
      have bn := bm n rfl
      have bij : (i + j).natAbs ≤ 10 ^ 62 := by omega
      refine ⟨_, rfl, _, rfl, _, rfl, _, _, rfl, rfl, _, _, rfl, rfl, wide_mul (a := 210) (b := 210) (Nat.lt_of_le_of_lt bn (by decide)) (Nat.lt_of_le_of_lt bij (by decide)) (by decide) (by decide) (by decide), _, rfl, _, i, rfl, by omega, by omega, ?_⟩
      show ∃ v, _
      refine ⟨_, rfl, keepN n i j, 40, rfl, rfl, _, rfl, ite2 (fun h => ?_) (fun h => ?_)⟩
      · exact q3 i j n rfl rfl rfl hi hj n0 (of_decide_eq_true h)
      · have hk : keepN n i j ≤ 40 := by
          have := of_decide_eq_false (bool_false h)
          omega
        have kp := keep_pos (m := n) hi hj n0
        refine ⟨_, rfl, _, rfl, _, rfl, _, rfl, .int i, .int j, .int (keepN n i j), rfl, .int i, .int j, .int _, (fun z hz => by rw [ht] at hz; cases hz), fun _ hn => ?_, ?_⟩
        · exfalso
          have e : withinB (.int (keepN n i j)) 0 40 = true := by
            show (decide _ && decide _) = true
            rw [decide_eq_true kp, decide_eq_true hk]
            rfl
          rw [e] at hn
          cases hn
        · intro i' j' n' e1 e2 e3 _ _ _ _ x H1 sm hR
          cases e1
          cases e2
          cases e3
          refine ⟨by show 2 ≤ sizeLine; decide, fun t nt => ?_⟩
          have s1 := same_upd (o := .tup [.int (keepN n i j), .ref x]) nt
          exact q4 i j n rfl rfl rfl hi hj n0 hk x t _ (sm.trans s1) (hR.mono s1) upd_same
    · rw [bool_false hw]
      exact q2 ht (bool_false hw)
end
end K48

set_option Elab.async false
set_option linter.all false
set_option maxRecDepth 100000
set_option maxHeartbeats 1600000
namespace K48
open PySem PySem.Spec PyProof.Rows L2 LT NdefX
theorem scCell : FnScope ["_law_script", "_law_k"] ["_law_script", "_law_k"] (defScope s__law_cell) := ⟨rfl, rfl, rfl, by decide +kernel, rfl, by decide +kernel, by decide +kernel⟩
theorem scPot : FnScope ["_law_script", "_law_k", "_law_cell_here"] ["_law_script", "_law_k"] (defScope s__law_pot) := ⟨rfl, rfl, rfl, by decide +kernel, rfl, by decide +kernel, by decide +kernel⟩
theorem scTake : FnScope ["_law_pot_here", "_law_many", "_law_digit"] ["_law_pot_here", "_law_many"] (defScope s__law_take) := ⟨rfl, rfl, rfl, by decide +kernel, rfl, by decide +kernel, by decide +kernel⟩
section
variable {P : Program} {w : World} {K : PySem.W.Frag} {mg : Str → Option Value} {base : Heap} {C CN CU CT : Addr}
def spCell (K : PySem.W.Frag) : Sp := fun vs H Q _ => ∃ (a : Addr) (ns : List Int) (k : Nat), vs = [.ref a, .int (k : Nat)] ∧ SqL K H a (ns.map V.int) ∧
  ∀ z : Int, (z = 0 ∨ z ∈ ns) → Q (.int z) H
theorem ok_cell {f : Addr} {fd : FuncData} {k : Nat} (F : Fun K "_law_cell" "_law_cell" s__law_cell f fd) (T : Tx mg) : FnOk P w K mg base CX0 (k + 1) f fd ["_law_script", "_law_k"] (spCell K) := by
  refine F.ok scCell (fun vs H Q E h => ?_) (fun cdv A outer s H vs Q E hr h => ?_)
  · obtain ⟨a, ns, k, rfl, _⟩ := h
    rfl
  · obtain ⟨a, ns, k, rfl, hS, q⟩ := h
    refine ⟨_, pss_cons (ps_if (pt_cmpR op_lt (pv 1) (pe_callB call_len_seq (by rfl) T.len PySem.boot_len (pa_cons (pv 0) pa_nil)) (nomark _))
      (pss_one (ps_ret (pe_ix ix_list (pv 0) (pv 1) (fun _ _ => rfl)))) pss_nil) (pss_one (ps_ret pe_int)), ?_⟩
    refine ⟨_, rfl, _, rfl, a, _, rfl, .inl hS, _, _, rfl, rfl, _, rfl, ?_⟩
    by_cases hk : k < ns.length
    · rw [decide_eq_true (show ((k : Nat) : Int) < ((ns.map V.int).length : Nat) by rw [List.length_map]; omega)]
      refine iteT ?_
      refine ⟨_, rfl, _, rfl, a, _, _, .int ns[k], rfl, rfl, hS, atI_nat (by rw [List.getElem?_map, List.getElem?_eq_getElem hk]; rfl), ?_⟩
      exact q _ (.inr (List.getElem_mem hk))
    · rw [decide_eq_false (show ¬ ((k : Nat) : Int) < ((ns.map V.int).length : Nat) by rw [List.length_map]; omega)]
      exact iteF (q 0 (.inl rfl))
def spPot (K : PySem.W.Frag) : Sp := fun vs H Q _ => ∃ (a : Addr) (ns : List Int) (k : Nat), vs = [.ref a, .int (k : Nat)] ∧ SqL K H a (ns.map V.int) ∧ k ≤ 1000 ∧
  ∀ p H', H p = none → Same H H' → Pot H' p → Q (.ref p) H'
theorem ok_pot {f fC : Addr} {fd fdC : FuncData} {k : Nat} (F : Fun K "_law_pot" "_law_pot" s__law_pot f fd) (T : Tx mg) (FC : Has K mg "_law_cell" ["_law_script", "_law_k"] s__law_cell fC fdC) :
    FnOk P w K mg base CX0 (k + 2) f fd ["_law_script", "_law_k"] (spPot K) := by
  have GC : FnOk P w K mg base CX0 (k + 1) fC fdC ["_law_script", "_law_k"] (spCell K) := ok_cell FC.fn T
  refine F.ok scPot (fun vs H Q E h => ?_) (fun cdv A outer s H vs Q E hr h => ?_)
  · obtain ⟨a, ns, k, rfl, _⟩ := h
    rfl
  · obtain ⟨a, ns, k, rfl, hS, hk, q⟩ := h
    refine ⟨_, pss_cons (ps_set (i := 2) scPot.nd rfl (.inl rfl) (pe_call GC hr (by rfl) FC.gl FC.fn.kp FC.bd .nil pass0 (pa_cons (pv 0) (pa_cons (pv 1) pa_nil))))
      (pss_one (ps_ret (pe_lst (pa_cons (pe_callB (call_max2 rfl) (by rfl) T.max (by decide +kernel) (pa_cons pe_int (pa_cons (pe_op op_sub (pv 2) (pe_op op_pow pe_int pe_int)) pa_nil)))
        (pa_cons (pe_op op_mod (pe_op op_add (pe_op op_mod (pe_callB call_abs (by rfl) T.abs (by decide +kernel) (pa_cons (pv 2) pa_nil)) pe_int) (pe_op op_mul pe_int (pe_op op_add (pv 1) pe_int))) pe_int) pa_nil))))), ?_⟩
    refine ⟨_, rfl, _, rfl, a, ns, k, rfl, hS, fun z hz => ?_⟩
    refine ⟨_, rfl, _, _, rfl, rfl, ⟨by decide, by decide, by decide⟩, _, _, rfl, rfl, 0, _, rfl, ?_⟩
    refine ⟨_, rfl, z, rfl, _, _, rfl, rfl, by show (0 : Int) < 2147483629; decide, ?_⟩
    refine ⟨_, rfl, _, _, rfl, rfl, _, _, rfl, rfl, .inl ⟨by decide, by decide⟩, _, _, rfl, rfl, _, _, rfl, rfl, by show (0 : Int) < 2147483629; decide, ?_⟩
    refine ⟨by show 2 ≤ sizeLine; decide, fun l nl => q l _ nl (same_upd nl) ⟨_, _, upd_same, ?_, Int.emod_nonneg _ (by decide), Int.lt_trans (Int.emod_lt_of_pos _ (by decide)) (by decide)⟩⟩
    split <;> omega
/-- a draw from a pot -/
def spTake : Sp := fun vs H Q _ => ∃ (p : Addr) (r : Int), vs = [.ref p, .int r] ∧ Pot H p ∧ 0 < r ∧ r ≤ 10 ^ 61 ∧
  ∀ (d : Int) (H' : Hp), 0 ≤ d → d < r → Pot H' p → SameB p H H' → Q (.int d) H'
theorem nopy {x r : Int} (h0 : 0 < r) (h : r ≤ 10 ^ 61) : Builtin.divisionGoesByPylong x r = false := by
  refine PyProof.noPylong_of_log2 (Nat.lt_trans ?_ (show 1920 < 9000 by decide))
  exact lg61 (by omega)
theorem ok_take {f : Addr} {fd : FuncData} {k : Nat} (F : Fun K "_law_take" "_law_take" s__law_take f fd) (T : Tx mg) : FnOk P w K mg base CX0 (k + 1) f fd ["_law_pot_here", "_law_many"] spTake := by
  refine F.ok scTake (fun vs H Q E h => ?_) (fun cdv A outer s H vs Q E hr h => ?_)
  · obtain ⟨p, r, rfl, _⟩ := h
    rfl
  · obtain ⟨p, r, rfl, ⟨a, b, hp, a0, b0, bB⟩, r0, r1, q⟩ := h
    refine ⟨_, pss_cons (ps_if (pt_cmpR op_gt (pe_ix ix_list (pv 0) pe_int (fun _ _ => rfl)) pe_int (nomark _))
        (pss_cons (ps_asg (pe_callB call_divmodW (by rfl) T.divmod (by decide +kernel) (pa_cons (pe_ix ix_list (pv 0) pe_int (fun _ _ => rfl)) (pa_cons (pv 1) pa_nil)))
            (pg_tup rfl (pgs_cons (pg_sub (pv 0) pe_int set_list) (pgs_cons (pg_name (i := 2) scTake.nd rfl (.inl rfl)) pgs_nil))))
          (pss_one (ps_ret (pv 2)))) pss_nil)
      (pss_cons (ps_asg (pe_op op_mod (pe_op op_add (pe_op op_mul (pe_ix ix_list (pv 0) pe_int (fun _ _ => rfl)) pe_int) pe_int) pe_int) (pg_sub (pv 0) pe_int set_list))
        (pss_one (ps_ret (pe_op op_mod (pe_op op_fdiv (pe_op op_mod (pe_op op_mul (pe_ix ix_list (pv 0) pe_int (fun _ _ => rfl)) (pe_ix ix_list (pv 0) pe_int (fun _ _ => rfl))) pe_int) pe_int) (pv 1))))), ?_⟩
    refine ⟨_, rfl, p, _, 0, _, rfl, rfl, SqL.of hp, atI_nat (j := 0) rfl, _, _, rfl, rfl, _, rfl, ite2 (fun h => ?_) (fun h => ?_)⟩
    · have ha : 0 < a := of_decide_eq_true h
      refine ⟨_, rfl, p, _, 0, _, rfl, rfl, SqL.of hp, atI_nat (j := 0) rfl, _, rfl, a, r, rfl, ⟨r0, nopy r0 r1⟩, fun t nt => ?_⟩
      have npt : p ≠ t := ne_of_none hp nt
      have hp2 : (upd H t (.tup [.int (a / r), .int (a % r)])) p = some (.lst [.int a, .int b]) := by
        rw [upd_ne npt]
        exact hp
      refine ⟨t, _, rfl, SqT.of upd_same, rfl, _, _, rfl, ?_⟩
      refine ⟨_, rfl, p, _, 0, 0, rfl, rfl, hp2, rfl, _, _, rfl, rfl, ?_⟩
      refine ⟨_, rfl, q _ _ (Int.emod_nonneg _ (by omega)) (Int.emod_lt_of_pos _ r0) ⟨_, _, upd_same, Int.ediv_nonneg a0 (by omega), b0, bB⟩ (SameB.upd (SameB.new nt (SameB.of (Same.refl H))))⟩
    · refine ⟨_, rfl, p, _, 1, _, rfl, rfl, SqL.of hp, atI_nat (j := 1) rfl, _, _, rfl, rfl, .inl ⟨by omega, by omega⟩, _, _, rfl, rfl, _, _, rfl, rfl, by show (0 : Int) < 2147483647; decide, ?_⟩
      refine ⟨_, rfl, p, _, 1, 1, rfl, rfl, hp, rfl, ?_⟩
      have n0 := Int.emod_nonneg (b * 39373 + 10007) (show (2147483647 : Int) ≠ 0 by decide)
      have n1 := Int.emod_lt_of_pos (b * 39373 + 10007) (show (0 : Int) < 2147483647 by decide)
      refine ⟨_, rfl, p, _, 1, _, rfl, rfl, SqL.of upd_same, atI_nat (j := 1) rfl, _, rfl, p, _, 1, _, rfl, rfl, SqL.of upd_same, atI_nat (j := 1) rfl, _, _, rfl, rfl, .inl ⟨by omega, by omega⟩, ?_⟩
      refine ⟨_, _, rfl, rfl, by show (0 : Int) < 2147483587; decide, _, _, rfl, rfl, ⟨by decide, by decide⟩, _, rfl, _, _, rfl, rfl, r0, ?_⟩
      exact q _ _ (Int.emod_nonneg _ (by omega)) (Int.emod_lt_of_pos _ r0) ⟨_, _, upd_same, a0, n0, n1⟩ (SameB.upd (SameB.of (Same.refl H)))
end
theorem scNone : FnScope ["_law_pot_here", "_law_least", "_law_pick", "_law_some"] ["_law_pot_here", "_law_least"] (defScope s__law_none) := ⟨rfl, rfl, rfl, by decide +kernel, rfl, by decide +kernel, by decide +kernel⟩
section
variable {P : Program} {w : World} {K : PySem.W.Frag} {mg : Str → Option Value} {base : Heap}
/-- what is no number from the least on -/
def spNone : Sp := fun vs H Q _ => ∃ (p : Addr) (l : Int), vs = [.ref p, .int l] ∧ (l = 0 ∨ l = 1) ∧ Pot H p ∧ ∀ v d H', Th H' v d → (∀ r, v = .ref r → H r = none) → fromB v l = false → Pot H' p → SameB p H H' → Q v H'
theorem th_one {H : Hp} : Th H (.str (Str.ofString "1")) (.str (Str.ofString "1")) := .str _ (by decide +kernel) (by decide +kernel) (by decide +kernel)
theorem ok_none {f fT : Addr} {fd fdT : FuncData} {k : Nat} (F : Fun K "_law_none" "_law_none" s__law_none f fd) (T : Tx mg) (FT : Has K mg "_law_take" ["_law_pot_here", "_law_many"] s__law_take fT fdT) : FnOk P w K mg base CX0 (k + 2) f fd ["_law_pot_here", "_law_least"] spNone := by
  have GT : FnOk P w K mg base CX0 (k + 1) fT fdT ["_law_pot_here", "_law_many"] spTake := ok_take FT.fn T
  refine F.ok scNone (fun vs H Q E h => ?_) (fun cdv A outer s H vs Q E hr h => ?_)
  · obtain ⟨p, l, rfl, _⟩ := h
    rfl
  · obtain ⟨p, l, rfl, hl, hp, q⟩ := h
    have nd := scNone.nd
    refine ⟨_, pss_cons (ps_set (i := 2) nd rfl (.inl rfl) (pe_call GT hr (by rfl) FT.gl FT.fn.kp FT.bd .nil pass0 (pa_cons (pv 0) (pa_cons (pe_op op_add pe_int (pv 1)) pa_nil))))
      (pss_cons (ps_set (i := 3) nd rfl (.inl rfl) (pe_lst (pa_cons (pe_un un_neg pe_int) (pa_cons pe_bl (pa_cons pe_bl (pa_cons pe_non (pa_cons pe_str (pa_cons (pe_lst (pa_cons pe_int pa_nil)) (pa_cons (pe_tup (pa_cons pe_int pa_nil)) (pa_cons pe_dnewK
        (pa_cons (pe_op op_sub (pe_un un_neg pe_int) (pe_call GT hr (by rfl) FT.gl FT.fn.kp FT.bd .nil pass0 (pa_cons (pv 0) (pa_cons (pe_op op_pow pe_int pe_int) pa_nil)))) pa_nil)))))))))))
      (pss_one (ps_ret (pe_ix ix_list (pe_op op_cat (pv 3) (pe_op op_rep (pe_lst (pa_cons pe_int pa_nil)) (pv 1))) (pv 2) (fun _ _ => rfl))))), ?_⟩
    refine ⟨_, rfl, _, rfl, _, _, rfl, rfl, p, 9 + l, rfl, hp, by omega, (by rcases hl with rfl | rfl <;> decide), fun pick H0 k0 k1 hp0 sb0 => ?_⟩
    refine ⟨_, rfl, by show 1 ≤ sizeLine; decide, fun a na => ⟨by show 1 ≤ sizeLine; decide, fun t nt => fun dd ndd => ?_⟩⟩
    have s1 := same_upd (o := .lst [V.int 1]) na
    have s2 := same_upd (o := .tup [V.int 1]) nt
    have fa : H a = none := sb0.none hp0 na
    have ft : H t = none := sb0.none hp0 (s1.free nt)
    have fd' : H dd = none := sb0.none hp0 ((s1.trans s2).free ndd)
    have s3 := same_upd (o := .dK []) ndd
    have e1 := (s2.trans s3) _ _ (upd_same (H := H0) (a := a) (o := .lst [V.int 1]))
    have e2 := s3 _ _ (upd_same (a := t) (o := .tup [V.int 1]))
    have e3 := upd_same (H := upd (upd H0 a (.lst [V.int 1])) t (.tup [V.int 1])) (a := dd) (o := .dK [])
    have sA := s1.trans (s2.trans s3)
    generalize upd (upd (upd H0 a (.lst [V.int 1])) t (.tup [V.int 1])) dd (.dK []) = H1 at *
    have hp1 := hp0.mono sA
    refine ⟨_, rfl, _, rfl, _, _, rfl, rfl, ⟨by decide, by decide, by decide⟩, p, 10 ^ Int.toNat 40, rfl, hp1, by decide, by decide, fun x H2 x0 x1 hp2 sb2 => ?_⟩
    have x1' : x < 10 ^ 40 := x1
    have f1 := (Th.lst 1 (by decide) e1).monoB hp1 sb2
    have f2 := (Th.tup 1 (by decide) e2).monoB hp1 sb2
    have f3 := (Th.dk e3).monoB hp1 sb2
    refine ⟨_, _, rfl, rfl, by show 9 ≤ sizeLine; decide, fun o no => ?_⟩
    have s4 := same_upd (o := .lst [V.int (-1), .bl true, .bl false, .non, .str (Str.ofString "1"), .ref a, .ref t, .ref dd, .int (-1 - x)]) no
    have eo := upd_same (H := H2) (a := o) (o := .lst [V.int (-1), .bl true, .bl false, .non, .str (Str.ofString "1"), .ref a, .ref t, .ref dd, .int (-1 - x)])
    have f1 := f1.mono s4
    have f2 := f2.mono s4
    have f3 := f3.mono s4
    have hp3 := hp2.mono s4
    have sB3 : SameB p H (upd H2 o (.lst [V.int (-1), .bl true, .bl false, .non, .str (Str.ofString "1"), .ref a, .ref t, .ref dd, .int (-1 - x)])) := ((sb0.trans (SameB.of sA)).trans sb2).trans (SameB.of s4)
    generalize upd H2 o (.lst [V.int (-1), .bl true, .bl false, .non, .str (Str.ofString "1"), .ref a, .ref t, .ref dd, .int (-1 - x)]) = H3 at *
    refine ⟨_, rfl, by show 1 ≤ sizeLine; decide, fun z nz => ⟨_, rfl, z, l, _, rfl, rfl, upd_same, (by rcases hl with rfl | rfl <;> decide), (by rcases hl with rfl | rfl <;> decide), (by rcases hl with rfl | rfl <;> decide), fun r nr => ?_⟩⟩
    have s5 := same_upd (o := .lst [V.int 0]) nz
    have s6 := same_upd (o := .lst (List.replicate l.toNat [V.int 0]).flatten) nr
    refine ⟨o, r, _, _, rfl, rfl, (s5.trans s6) _ _ eo, upd_same, (Nat.le_trans (show _ ≤ 9 + 1 by rcases hl with rfl | rfl <;> simp) (by decide)), fun c nc => ?_⟩
    have s7 := same_upd (o := .lst ([V.int (-1), .bl true, .bl false, .non, .str (Str.ofString "1"), .ref a, .ref t, .ref dd, .int (-1 - x)] ++ (List.replicate l.toNat [V.int 0]).flatten)) nc
    have sC := s5.trans (s6.trans s7)
    have g1 := f1.mono sC
    have g2 := f2.mono sC
    have g3 := f3.mono sC
    have key : ∃ v d, atI ([V.int (-1), .bl true, .bl false, .non, .str (Str.ofString "1"), .ref a, .ref t, .ref dd, .int (-1 - x)] ++ (List.replicate l.toNat [V.int 0]).flatten) pick = some v ∧ Th (upd (upd (upd H3 z (.lst [V.int 0])) r (.lst (List.replicate l.toNat [V.int 0]).flatten)) c (.lst ([V.int (-1), .bl true, .bl false, .non, .str (Str.ofString "1"), .ref a, .ref t, .ref dd, .int (-1 - x)] ++ (List.replicate l.toNat [V.int 0]).flatten))) v d ∧ (∀ r, v = .ref r → H r = none) ∧ fromB v l = false := by
      have hd : pick = 0 ∨ pick = 1 ∨ pick = 2 ∨ pick = 3 ∨ pick = 4 ∨ pick = 5 ∨ pick = 6 ∨ pick = 7 ∨ pick = 8 ∨ (pick = 9 ∧ l = 1) := by omega
      have neg : ∀ i : Int, i < 0 → fromB (.int i) l = false := fun i hi => decide_eq_false (by omega)
      rcases hd with rfl | rfl | rfl | rfl | rfl | rfl | rfl | rfl | rfl | ⟨rfl, rfl⟩
      · exact ⟨_, _, atI_nat (j := 0) rfl, .int (-1) (by decide), nofun, neg _ (by decide)⟩
      · exact ⟨_, _, atI_nat (j := 1) rfl, .bl true, nofun, rfl⟩
      · exact ⟨_, _, atI_nat (j := 2) rfl, .bl false, nofun, rfl⟩
      · exact ⟨_, _, atI_nat (j := 3) rfl, .non, nofun, rfl⟩
      · exact ⟨_, _, atI_nat (j := 4) rfl, th_one, nofun, rfl⟩
      · exact ⟨_, _, atI_nat (j := 5) rfl, g1, (fun r e => by cases e; exact fa), rfl⟩
      · exact ⟨_, _, atI_nat (j := 6) rfl, g2, (fun r e => by cases e; exact ft), rfl⟩
      · exact ⟨_, _, atI_nat (j := 7) rfl, g3, (fun r e => by cases e; exact fd'), rfl⟩
      · exact ⟨_, _, atI_nat (j := 8) rfl, .int (-1 - x) (by omega), nofun, neg _ (by omega)⟩
      · exact ⟨_, _, atI_nat (j := 9) rfl, .int 0 (by decide), nofun, rfl⟩
    obtain ⟨v, d, ea, th, fr, hn⟩ := key
    exact ⟨_, rfl, c, _, pick, v, rfl, rfl, SqL.of upd_same, ea, q v d _ th fr hn (hp3.mono sC) (sB3.trans (SameB.of sC))⟩
end
end K48

set_option Elab.async false
set_option linter.all false
set_option maxRecDepth 100000
set_option maxHeartbeats 1600000
namespace K48
open PySem PySem.Spec PyProof.Rows L2 LT NdefX
abbrev nTold : List Str := ["_law_way", "_law_on", "_law_off", "_law_many", "_law_told_here", "e", "_law_kinds", "_law_beside"]
theorem scTold : FnScope nTold ["_law_way", "_law_on", "_law_off", "_law_many"] (defScope s__law_told) := ⟨rfl, rfl, rfl, by decide +kernel, rfl, by decide +kernel, by decide +kernel⟩
theorem scDue : FnScope ["_law_bad", "_law_word", "_law_is_bad"] ["_law_bad"] (defScope s__law_due) := ⟨rfl, rfl, rfl, by decide +kernel, rfl, by decide +kernel, by decide +kernel⟩
theorem scTruths : FnScope ["_law_way", "_law_some"] ["_law_way"] (defScope s__law_truths_right) := ⟨rfl, rfl, rfl, by decide +kernel, rfl, by decide +kernel, by decide +kernel⟩
/-- the classes that the law asks for -/
structure Eg (mg : Str → Option Value) (CN CU CW CL CB c1 c2 c3 : Addr) : Prop where
  gN : mg "NoRound" = some (.ref CN)
  gU : mg "NoNumber" = some (.ref CU)
  gW : mg "Wrong" = some (.ref CW)
  gL : mg "LightsError" = some (.ref CL)
  gB : mg "Barred" = some (.ref CB)
  g1 : mg "NoBoat" = some (.ref c1)
  g2 : mg "NoDay" = some (.ref c2)
  g3 : mg "NoSlot" = some (.ref c3)
/-- .. of an error of the class at D -/
structure Eo (K : PySem.W.Frag) (D CN CU CW CL CB c1 c2 c3 : Addr) (bN bU : Bool) : Prop where
  ex : ExcC K D
  kN : PySem.W.kitOne K (.ref D) (.ref CN) = some bN
  kU : PySem.W.kitOne K (.ref D) (.ref CU) = some bU
  no : PySem.W.kitAny K (.ref D) [.ref CB, .ref c1, .ref c2, .ref c3] = some false
  kW : PySem.W.kitOne K (.ref D) (.ref CW) = some true
  kV : PySem.W.kitOne K (.ref D) (.type "ValueError") = some true
  ca : PySem.W.exmOne K (.ref D) (.ref CL) = some true
def okB (way : Int) (m : V) : Bool := if way = 0 then withinB m 0 40 else fromB m 0
def toldS (way : Int) (a b m : V) : Str := match turnF a b with
  | some z => z
  | none => if okB way m = true then Str.ofString "told" else Str.ofString "number"
section
variable {P : Program} {w : World} {K : PySem.W.Frag} {mg : Str → Option Value} {base : Heap} {C CN CU CT CW CL CB c1 c2 c3 : Addr}
def spTold : Sp := fun vs H Q _ => ∃ (way : Int) (a b m : V) (da db dm : PyData), vs = [.int way, a, b, m] ∧ (way = 0 ∨ way = 1) ∧ Th H a da ∧ Th H b db ∧ Th H m dm ∧
  (∀ i j n : Int, a = .int i → b = .int j → m = .int n → 1 ≤ i → 0 ≤ j → 0 ≤ n → way = 1 → keepN n i j ≤ 40) ∧ ∀ H', Same H H' → Q (.str (toldS way a b m)) H'
theorem Th.bd {H : Hp} {v : V} {d : PyData} (h : Th H v d) : ∀ i, v = .int i → i.natAbs ≤ 10 ^ 61 := by
  intro i e
  subst e
  cases h with
  | int _ hi => exact hi
/-- all defs of the program -/
structure Ds (K : PySem.W.Frag) (P : Program) (mg : Str → Option Value) (C CN : Addr) : Prop where
  mo : Most mg
  rc : Rc K mg C
  nr : ∃ fN cc c fdN, Nr K P mg CN fN cc c fdN
  ini : ∃ f fd, Mk K C f ∧ Fun K "__init__" "Round.__init__" s_Round___init__ f fd ∧ L2.Binds K fd ["self", "on", "off", "begins"] []
  ev : ∃ f fd, Has K mg "even_round" ["on", "off", "many"] s_even_round f fd
  ke : ∃ f fd, Has K mg "keeping" ["many", "on", "off"] s_keeping f fd
  pa : ∃ f fd, Has K mg "parts_for" ["many", "most"] s_parts_for f fd
  ch : ∃ f fd, Has K mg "check_turns" ["on", "off"] s_check_turns f fd
  be : ∃ f fd, Has K mg "are_begins" ["thing", "whole"] s_are_begins f fd
  fr : ∃ f fd, Has K mg "is_from" ["thing", "least"] s_is_from f fd
  wi : ∃ f fd, Has K mg "is_within" ["thing", "least", "most"] s_is_within f fd
  wh : ∃ f fd, Has K mg "is_whole" ["thing"] s_is_whole f fd
theorem ok_told {f : Addr} {fd : FuncData} {k : Nat} (F : Fun K "_law_told" "_law_told" s__law_told f fd) (T : Tx mg) (D : Ds K P mg C CN) (U : Ev K mg "NoNumber" CU) (V' : Ev K mg "TooMany" CT) (xf : XfC K CN) (G : Eg mg CN CU CW CL CB c1 c2 c3)
    (RN : Eo K CN CN CU CW CL CB c1 c2 c3 true false) (RU : Eo K CU CN CU CW CL CB c1 c2 c3 false true) : FnOk P w K mg base CX0 (k + 8) f fd ["_law_way", "_law_on", "_law_off", "_law_many"] spTold := by
  obtain ⟨hM, Z, ⟨fN, cc, c, fdN, N⟩, ⟨fI, fdI, M, FR, bR⟩, ⟨fE, fdE, FE⟩, ⟨fK, fdK, FK⟩, ⟨fP, fdP, FP⟩, ⟨fC, fdC, FC⟩, ⟨fB, fdB, FB⟩, ⟨fF, fdF, FF⟩, ⟨fJ, fdJ, FJ⟩, ⟨fW, fdW, FW⟩⟩ := D
  have GE : FnOk P w K mg base (L2.CX P w) (k + 6) fE fdE ["on", "off", "many"] (spEven C CN CU) := ok_even FE.fn T hM Z N U M FR bR FC FB FF FJ FW
  have GK : FnOk P w K mg base (L2.CX P w) (k + 7) fK fdK ["many", "on", "off"] (spKeep C CN CU CT) := ok_keep FK.fn T hM Z N U V' FE FP M FR bR FC FB FF FJ FW
  refine F.ok scTold (fun vs H Q E h => ?_) (fun cdv A outer s H vs Q E hr h => ?_)
  · obtain ⟨way, a, b, m, da, db, dm, rfl, _⟩ := h
    rfl
  · obtain ⟨way, a, b, m, da, db, dm, rfl, hway, ha, hb, hm, hk, q⟩ := h
    have nd := scTold.nd
    have hr6 : Room (k + 6) _ := hr.mono (by omega)
    refine ⟨_, pss_cons (ps_set (i := 4) nd rfl (.inl rfl) pe_str)
      (pss_cons (ps_try_as (i := 5) rfl rfl nd rfl rfl ⟨rfl, by decide, .inl G.gL⟩ takes0
        (fun W pn xe tk _ => pss_one (ps_if (pt_cmpR op_eq (pv 0) pe_int (nomark _))
          (pss_one (ps_expr (pe_callS GE hr6 (by rfl) FE.gl FE.fn.kp FE.bd (fun σ => passAt tk σ) (pa_cons (pv 1) (pa_cons (pv 2) (pa_cons (pv 3) pa_nil))))))
          (pss_one (ps_expr (pe_callS GK hr (by rfl) FK.gl FK.fn.kp FK.bd (fun σ => passAt tk σ) (pa_cons (pv 3) (pa_cons (pv 1) (pa_cons (pv 2) pa_nil))))))))
        (fun a oe cls d pn hz hf => pss_cons (ps_set (i := 6) nd rfl (.inl rfl) (pe_lst (pa_cons (pe_callB (call_isS hz hf) (by rfl) T.isi (by decide +kernel) (pa_cons (pv 5) (pa_cons (pe_glob (v := .ref CN) (by rfl) G.gN rfl) pa_nil)))
              (pa_cons (pe_callB (call_isS hz hf) (by rfl) T.isi (by decide +kernel) (pa_cons (pv 5) (pa_cons (pe_glob (v := .ref CU) (by rfl) G.gU rfl) pa_nil))) pa_nil))))
          (pss_cons (ps_set (i := 7) nd rfl (.inl rfl) (pe_callB (call_isST hz hf) (by rfl) T.isi (by decide +kernel) (pa_cons (pv 5) (pa_cons
              (pe_tup (pa_cons (pe_glob (v := .ref CB) (by rfl) G.gB rfl) (pa_cons (pe_glob (v := .ref c1) (by rfl) G.g1 rfl) (pa_cons (pe_glob (v := .ref c2) (by rfl) G.g2 rfl) (pa_cons (pe_glob (v := .ref c3) (by rfl) G.g3 rfl) pa_nil))))) pa_nil))))
          (pss_cons (ps_set (i := 4) nd rfl (.inl rfl) pe_str)
          (pss_cons (ps_if (PW.pt (pw_and (pt_val (pe_callB (call_isS hz hf) (by rfl) T.isi (by decide +kernel) (pa_cons (pv 5) (pa_cons (pe_glob (v := .ref CW) (by rfl) G.gW rfl) pa_nil))))
              (pw_and (pt_val (pe_callB (call_isS hz hf) (by rfl) T.isi (by decide +kernel) (pa_cons (pv 5) (pa_cons (pe_bltn (v := .ty "ValueError") (by rfl) T.ve (by decide +kernel) rfl) pa_nil))))
              (pw_and (pt_not (pt_val (pv 7)))
              (pw_and1 (pt_cmpR op_eq (pe_countS (pv 6) (pa_cons pe_bl pa_nil)) pe_int (nomark _)))))))
            (pss_one (ps_set (i := 4) nd rfl (.inl rfl) pe_str)) pss_nil)
          (pss_one (ps_if (PW.pt (pw_and (pt_cmpR op_eq (pv 4) pe_str (nomark _)) (pw_and1 (pt_val (pe_ix ix_listS (pv 6) pe_int (fun _ _ => rfl))))))
            (pss_one (ps_set (i := 4) nd rfl (.inl rfl) (pe_xf xf N.hno hz hf (pv 5)))) pss_nil)))))))
      (pss_one (ps_ret (pv 4)))), ?_⟩
    have done : ∀ {Hx : Hp} {z : Str}, Same H Hx → toldS way a b m = z → Q (.str z) Hx := fun {Hx z} s e => by
      rw [← e]
      exact q _ s
    rcases hway with rfl | rfl
    · refine ⟨_, rfl, rfl, _, rfl, ?_⟩
      rw [decide_eq_true rfl]
      refine ⟨_, rfl, _, rfl, _, rfl, a, b, m, rfl, ha.odd, hb.odd, hm.odd, fun z hz => ?_, fun ht hn => ?_, fun i j n e1 e2 e3 h1 h2 h3 h4 x H1 sm hR => ?_⟩
      · intro d H1 nd' sm hd
        refine ⟨true, RN.ca, fun _ e ne => ?_, fun z => nomatch z⟩
        have hD : HasD (some d) H1 := .inr ⟨d, _, rfl, hd⟩
        refine ⟨_, rfl, CN, _, _, true, rfl, RN.ex, hD, rfl, .own _, RN.kN, _, rfl, CN, _, _, false, rfl, RN.ex, hD, rfl, .own _, RN.kU, by show 2 ≤ sizeLine; decide, fun l nl => ?_⟩
        have s1 := same_upd (o := .lst [V.bl true, .bl false]) nl
        have hl := upd_same (H := H1) (a := l) (o := .lst [V.bl true, .bl false])
        generalize upd H1 l (.lst [V.bl true, .bl false]) = H2 at *
        refine ⟨_, rfl, by show 4 ≤ sizeLine; decide, fun tp ntp => ?_⟩
        have s2 := same_upd (o := .tup [V.ref CB, .ref c1, .ref c2, .ref c3]) ntp
        have ht := upd_same (H := H2) (a := tp) (o := .tup [V.ref CB, .ref c1, .ref c2, .ref c3])
        generalize upd H2 tp (.tup [V.ref CB, .ref c1, .ref c2, .ref c3]) = H3 at *
        have hD3 := hD.mono (s1.trans s2)
        have hl3 := s2 _ _ hl
        refine ⟨CN, tp, _, [.ref CB, .ref c1, .ref c2, .ref c3], false, rfl, RN.ex, hD3, rfl, ht, .cons (.own _) (.cons (.own _) (.cons (.own _) (.cons (.own _) .nil))), RN.no, ?_⟩
        refine ⟨_, rfl, CN, _, _, true, rfl, RN.ex, hD3, rfl, .own _, RN.kW, _, rfl, ?_⟩
        refine ⟨_, rfl, CN, _, _, true, rfl, RN.ex, hD3, rfl, .ty _, RN.kV, _, rfl, ?_⟩
        refine ⟨_, rfl, _, rfl, ?_⟩
        refine ⟨_, rfl, .inl ⟨rfl, _, SqL.of hl3⟩, l, _, _, rfl, rfl, SqL.of hl3, rfl, rfl, rfl, _, rfl, ?_⟩
        rw [decide_eq_true (by rfl)]
        refine ⟨_, rfl, rfl, _, rfl, ?_⟩
        rw [decide_eq_true rfl]
        refine ⟨_, rfl, l, _, 0, _, rfl, rfl, SqL.of hl3, atI_nat (j := 0) rfl, _, rfl, ?_⟩
        refine ⟨_, rfl, rfl, rfl, d, _, _, rfl, (s1.trans s2) _ _ hd, rfl, ?_⟩
        refine ⟨_, rfl, done ((sm.trans s1).trans s2) ?_⟩
        unfold toldS
        rw [hz]
      · refine ⟨true, RU.ca, fun _ e ne => ?_, fun z => nomatch z⟩
        have hD : HasD none H := .inl rfl
        refine ⟨_, rfl, CU, _, _, false, rfl, RU.ex, hD, rfl, .own _, RU.kN, _, rfl, CU, _, _, true, rfl, RU.ex, hD, rfl, .own _, RU.kU, by show 2 ≤ sizeLine; decide, fun l nl => ?_⟩
        have s1 := same_upd (o := .lst [V.bl false, .bl true]) nl
        have hl := upd_same (H := H) (a := l) (o := .lst [V.bl false, .bl true])
        generalize upd H l (.lst [V.bl false, .bl true]) = H2 at *
        refine ⟨_, rfl, by show 4 ≤ sizeLine; decide, fun tp ntp => ?_⟩
        have s2 := same_upd (o := .tup [V.ref CB, .ref c1, .ref c2, .ref c3]) ntp
        have ht' := upd_same (H := H2) (a := tp) (o := .tup [V.ref CB, .ref c1, .ref c2, .ref c3])
        generalize upd H2 tp (.tup [V.ref CB, .ref c1, .ref c2, .ref c3]) = H3 at *
        have hD3 := hD.mono (s1.trans s2)
        have hl3 := s2 _ _ hl
        refine ⟨CU, tp, _, [.ref CB, .ref c1, .ref c2, .ref c3], false, rfl, RU.ex, hD3, rfl, ht', .cons (.own _) (.cons (.own _) (.cons (.own _) (.cons (.own _) .nil))), RU.no, ?_⟩
        refine ⟨_, rfl, CU, _, _, true, rfl, RU.ex, hD3, rfl, .own _, RU.kW, _, rfl, ?_⟩
        refine ⟨_, rfl, CU, _, _, true, rfl, RU.ex, hD3, rfl, .ty _, RU.kV, _, rfl, ?_⟩
        refine ⟨_, rfl, _, rfl, ?_⟩
        refine ⟨_, rfl, .inl ⟨rfl, _, SqL.of hl3⟩, l, _, _, rfl, rfl, SqL.of hl3, rfl, rfl, rfl, _, rfl, ?_⟩
        rw [decide_eq_true (by rfl)]
        refine ⟨_, rfl, rfl, _, rfl, ?_⟩
        rw [decide_eq_true rfl]
        refine ⟨_, rfl, l, _, 0, _, rfl, rfl, SqL.of hl3, atI_nat (j := 0) rfl, _, rfl, ?_⟩
        refine ⟨_, rfl, done (s1.trans s2) ?_⟩
        unfold toldS
        rw [ht]
        exact if_neg (by rw [show okB 0 m = false from hn]; exact Bool.false_ne_true)
      · refine ⟨_, rfl, done sm ?_⟩
        subst e1 e2 e3
        unfold toldS
        rw [turn_good h1 h2]
        refine if_pos ?_
        show (decide (0 ≤ n) && decide (n ≤ 40)) = true
        rw [decide_eq_true h3, decide_eq_true h4]
        rfl
    · refine ⟨_, rfl, rfl, _, rfl, ?_⟩
      rw [decide_eq_false (show ¬ V.int 1 = V.int 0 from by intro z; cases z)]
      refine ⟨_, rfl, _, rfl, _, rfl, m, a, b, rfl, hm.odd, ha.odd, hb.odd, (K48.Th.bd ha), (K48.Th.bd hb), (K48.Th.bd hm), fun z hz => ?_, fun ht hn => ?_, fun i j n e1 e2 e3 h1 h2 h3 h4 => ?_, fun i j n e1 e2 e3 h1 h2 h3 h4 x t' H1 sm hR ht' => ?_⟩
      · intro d H1 nd' sm hd
        refine ⟨true, RN.ca, fun _ e ne => ?_, fun z => nomatch z⟩
        have hD : HasD (some d) H1 := .inr ⟨d, _, rfl, hd⟩
        refine ⟨_, rfl, CN, _, _, true, rfl, RN.ex, hD, rfl, .own _, RN.kN, _, rfl, CN, _, _, false, rfl, RN.ex, hD, rfl, .own _, RN.kU, by show 2 ≤ sizeLine; decide, fun l nl => ?_⟩
        have s1 := same_upd (o := .lst [V.bl true, .bl false]) nl
        have hl := upd_same (H := H1) (a := l) (o := .lst [V.bl true, .bl false])
        generalize upd H1 l (.lst [V.bl true, .bl false]) = H2 at *
        refine ⟨_, rfl, by show 4 ≤ sizeLine; decide, fun tp ntp => ?_⟩
        have s2 := same_upd (o := .tup [V.ref CB, .ref c1, .ref c2, .ref c3]) ntp
        have ht := upd_same (H := H2) (a := tp) (o := .tup [V.ref CB, .ref c1, .ref c2, .ref c3])
        generalize upd H2 tp (.tup [V.ref CB, .ref c1, .ref c2, .ref c3]) = H3 at *
        have hD3 := hD.mono (s1.trans s2)
        have hl3 := s2 _ _ hl
        refine ⟨CN, tp, _, [.ref CB, .ref c1, .ref c2, .ref c3], false, rfl, RN.ex, hD3, rfl, ht, .cons (.own _) (.cons (.own _) (.cons (.own _) (.cons (.own _) .nil))), RN.no, ?_⟩
        refine ⟨_, rfl, CN, _, _, true, rfl, RN.ex, hD3, rfl, .own _, RN.kW, _, rfl, ?_⟩
        refine ⟨_, rfl, CN, _, _, true, rfl, RN.ex, hD3, rfl, .ty _, RN.kV, _, rfl, ?_⟩
        refine ⟨_, rfl, _, rfl, ?_⟩
        refine ⟨_, rfl, .inl ⟨rfl, _, SqL.of hl3⟩, l, _, _, rfl, rfl, SqL.of hl3, rfl, rfl, rfl, _, rfl, ?_⟩
        rw [decide_eq_true (by rfl)]
        refine ⟨_, rfl, rfl, _, rfl, ?_⟩
        rw [decide_eq_true rfl]
        refine ⟨_, rfl, l, _, 0, _, rfl, rfl, SqL.of hl3, atI_nat (j := 0) rfl, _, rfl, ?_⟩
        refine ⟨_, rfl, rfl, rfl, d, _, _, rfl, (s1.trans s2) _ _ hd, rfl, ?_⟩
        refine ⟨_, rfl, done ((sm.trans s1).trans s2) ?_⟩
        unfold toldS
        rw [hz]
      · refine ⟨true, RU.ca, fun _ e ne => ?_, fun z => nomatch z⟩
        have hD : HasD none H := .inl rfl
        refine ⟨_, rfl, CU, _, _, false, rfl, RU.ex, hD, rfl, .own _, RU.kN, _, rfl, CU, _, _, true, rfl, RU.ex, hD, rfl, .own _, RU.kU, by show 2 ≤ sizeLine; decide, fun l nl => ?_⟩
        have s1 := same_upd (o := .lst [V.bl false, .bl true]) nl
        have hl := upd_same (H := H) (a := l) (o := .lst [V.bl false, .bl true])
        generalize upd H l (.lst [V.bl false, .bl true]) = H2 at *
        refine ⟨_, rfl, by show 4 ≤ sizeLine; decide, fun tp ntp => ?_⟩
        have s2 := same_upd (o := .tup [V.ref CB, .ref c1, .ref c2, .ref c3]) ntp
        have ht' := upd_same (H := H2) (a := tp) (o := .tup [V.ref CB, .ref c1, .ref c2, .ref c3])
        generalize upd H2 tp (.tup [V.ref CB, .ref c1, .ref c2, .ref c3]) = H3 at *
        have hD3 := hD.mono (s1.trans s2)
        have hl3 := s2 _ _ hl
        refine ⟨CU, tp, _, [.ref CB, .ref c1, .ref c2, .ref c3], false, rfl, RU.ex, hD3, rfl, ht', .cons (.own _) (.cons (.own _) (.cons (.own _) (.cons (.own _) .nil))), RU.no, ?_⟩
        refine ⟨_, rfl, CU, _, _, true, rfl, RU.ex, hD3, rfl, .own _, RU.kW, _, rfl, ?_⟩
        refine ⟨_, rfl, CU, _, _, true, rfl, RU.ex, hD3, rfl, .ty _, RU.kV, _, rfl, ?_⟩
        refine ⟨_, rfl, _, rfl, ?_⟩
        refine ⟨_, rfl, .inl ⟨rfl, _, SqL.of hl3⟩, l, _, _, rfl, rfl, SqL.of hl3, rfl, rfl, rfl, _, rfl, ?_⟩
        rw [decide_eq_true (by rfl)]
        refine ⟨_, rfl, rfl, _, rfl, ?_⟩
        rw [decide_eq_true rfl]
        refine ⟨_, rfl, l, _, 0, _, rfl, rfl, SqL.of hl3, atI_nat (j := 0) rfl, _, rfl, ?_⟩
        refine ⟨_, rfl, done (s1.trans s2) ?_⟩
        unfold toldS
        rw [ht]
        exact if_neg (by rw [show okB 1 m = false from hn]; exact Bool.false_ne_true)
      · exact absurd (hk i j n e1 e2 e3 h1 h2 h3 rfl) (by omega)
      · refine ⟨_, rfl, done sm ?_⟩
        subst e1 e2 e3
        unfold toldS
        rw [turn_good h1 h2]
        exact if_pos (show decide (0 ≤ n) = true from decide_eq_true h3)
end
end K48

set_option Elab.async false
set_option linter.all false
set_option maxRecDepth 100000
set_option maxHeartbeats 1600000
namespace K48
open PySem PySem.Spec PyProof.Rows L2 LT NdefX
def words3 : List V := [.str (Str.ofString "on"), .str (Str.ofString "off"), .str (Str.ofString "number")]
def dueS (x y z : Bool) : Str := if x = true then Str.ofString "on" else if y = true then Str.ofString "off" else if z = true then Str.ofString "number" else Str.ofString "told"
section
variable {P : Program} {w : World} {K : PySem.W.Frag} {mg : Str → Option Value} {base : Heap} {C CN CU CT CW CL CB c1 c2 c3 : Addr}
def spDue : Sp := fun vs H Q _ => ∃ (t : Addr) (x y z : Bool), vs = [.ref t] ∧ H t = some (.lst [.bl x, .bl y, .bl z]) ∧ ∀ H', Same H H' → Q (.str (dueS x y z)) H'
theorem due_at {x y z : Bool} {i : Nat} {u v : V} (hu : words3[i]? = some u) (hv : ([.bl x, .bl y, .bl z] : List V)[i]? = some v) (hj : ∀ j < i, ([.bl x, .bl y, .bl z] : List V)[j]? = some (.bl false)) (hn : v = .bl true) : u = .str (dueS x y z) := by
  unfold dueS
  match i, hu, hv with
  | 0, hu, hv =>
    cases hu
    subst hn
    cases hv
    rfl
  | 1, hu, hv =>
    cases hu
    subst hn
    cases hv
    have := hj 0 (by omega)
    cases this
    rfl
  | 2, hu, hv =>
    cases hu
    subst hn
    cases hv
    have := hj 0 (by omega)
    cases this
    have := hj 1 (by omega)
    cases this
    rfl
theorem ok_due {f : Addr} {fd : FuncData} {k : Nat} (F : Fun K "_law_due" "_law_due" s__law_due f fd) (T : Tx mg) : FnOk P w K mg base CX0 (k + 1) f fd ["_law_bad"] spDue := by
  refine F.ok scDue (fun vs H Q E h => ?_) (fun cdv A outer s H vs Q E hr h => ?_)
  · obtain ⟨t, x, y, z, rfl, _⟩ := h
    rfl
  · obtain ⟨t, x, y, z, rfl, ht, q⟩ := h
    have nd := scDue.nd
    refine ⟨_, pss_cons (ps_for PassesOwn.never rfl (pi_zip (by rfl) T.zip (pa_cons (pe_lst (pa_cons pe_str (pa_cons pe_str (pa_cons pe_str pa_nil)))) (pa_cons (pv 0) pa_nil)))
        (pg_tup rfl (pgs_cons (pg_name (i := 1) nd rfl (.inl rfl)) (pgs_cons (pg_name (i := 2) nd rfl (.inl rfl)) pgs_nil)))
        (pss_one (ps_if (pt_val (pv 2)) (pss_one (ps_ret (pv 1))) pss_nil)))
      (pss_one (ps_ret pe_str)), ?_⟩
    refine ⟨by show 3 ≤ sizeLine; decide, fun l nl => ⟨_, rfl, l, t, _, _, rfl, SqL.of upd_same, SqL.of ((same_upd nl) _ _ ht), ?_⟩⟩
    have s1 := same_upd (o := .lst words3) nl
    have hl := upd_same (H := H) (a := l) (o := .lst words3)
    have ht1 := s1 _ _ ht
    show ∃ W, _
    refine RZ.for_zipL (K := K) (a := l) (b := t) (xs := words3) (ys := [.bl x, .bl y, .bl z]) rfl (fun i σ H' => (∃ y1 y2, σ = [some (.ref t), y1, y2]) ∧ Same (upd H l (.lst words3)) H' ∧ ∀ j < i, ([.bl x, .bl y, .bl z] : List V)[j]? = some (.bl false))
      ⟨⟨none, none, rfl⟩, Same.refl _, fun j hj => absurd hj (by omega)⟩ (fun i σ H' ⟨_, sm, _⟩ => ⟨sm.seq (SqL.of hl), sm.seq (SqL.of ht1)⟩) ?_ ?_
    · rintro i u v T1 σ H1 hu hv ⟨⟨y1, y2, rfl⟩, sm, hj⟩ nT
      have s2 := same_upd (o := .tup [u, v]) nT
      obtain ⟨b, rfl⟩ : ∃ b, v = .bl b := by
        have := List.mem_of_getElem? hv
        simp only [List.mem_cons, List.not_mem_nil, or_false] at this
        rcases this with rfl | rfl | rfl <;> exact ⟨_, rfl⟩
      refine ⟨T1, _, rfl, SqT.of upd_same, rfl, _, _, rfl, _, _, rfl, rfl, ?_⟩
      refine ⟨_, rfl, b, rfl, ?_⟩
      cases b with
      | true =>
        refine ⟨_, rfl, ?_⟩
        have z' := q _ ((s1.trans sm).trans s2)
        rw [← due_at hu hv hj rfl] at z'
        exact z'
      | false =>
        refine ⟨⟨_, _, rfl⟩, sm.trans s2, fun j hj' => ?_⟩
        by_cases e : j = i
        · rw [e]
          exact hv
        · exact hj j (by omega)
    · rintro σ H1 ⟨_, sm, hj⟩
      have h0 := hj 0 (by decide)
      have h1 := hj 1 (by decide)
      have h2 := hj 2 (by decide)
      cases h0
      cases h1
      cases h2
      exact q H1 (s1.trans sm)
/-! ### truths -/
def spTruths : Sp := fun vs H Q _ => ∃ way : Int, vs = [.int way] ∧ (way = 0 ∨ way = 1) ∧ ∀ H', Same H H' → Q (.bl true) H'
theorem strs_eq {xs : List Str} (h : ∀ x ∈ xs, PyData.strOk x = true) : SeqAt.shaped (.list (xs.map .str)) = true ∧ PyData.eqv (.list (xs.map .str)) (.list (xs.map .str)) = true := by
  have a : ∀ {ys : List Str}, (∀ x ∈ ys, PyData.strOk x = true) → PyData.canLayAll0 (ys.map .str) = true ∧ PyData.depthAll (ys.map .str) = 0 := by
    intro ys
    induction ys with
    | nil => intro _; exact ⟨by simp [PyData.canLayAll0], by simp [PyData.depthAll]⟩
    | cons y ys ih =>
      intro hy
      obtain ⟨i1, i2⟩ := ih fun x hx => hy x (List.mem_cons_of_mem _ hx)
      exact ⟨by simp [PyData.canLayAll0, PyData.canLay0, hy y List.mem_cons_self, i1], by simp [PyData.depthAll, PyData.depth, i2]⟩
  obtain ⟨a1, a2⟩ := a h
  have h0 : PyData.canLay0 (.list (xs.map .str)) = true := by simpa [PyData.canLay0] using a1
  refine ⟨?_, SeqAt.eqv_refl _ h0⟩
  unfold SeqAt.shaped
  rw [h0]
  simp [PyData.depth, a2]
theorem ok_truths {f fT : Addr} {fd fdT : FuncData} {k : Nat} (F : Fun K "_law_truths_right" "_law_truths_right" s__law_truths_right f fd) (FT : Has K mg "_law_told" ["_law_way", "_law_on", "_law_off", "_law_many"] s__law_told fT fdT)
    (GT : FnOk P w K mg base CX0 (k + 8) fT fdT ["_law_way", "_law_on", "_law_off", "_law_many"] spTold) : FnOk P w K mg base CX0 (k + 9) f fd ["_law_way"] spTruths := by
  refine F.ok scTruths (fun vs H Q E h => ?_) (fun cdv A outer s H vs Q E hr h => ?_)
  · obtain ⟨way, rfl, _⟩ := h
    rfl
  · obtain ⟨way, rfl, hway, q⟩ := h
    have nd := scTruths.nd
    have hu := hr.units
    refine ⟨_, pss_cons (ps_if (pt_cmpR (op_neD hu) (pe_lst (pa_cons (pe_call GT hr (by rfl) FT.gl FT.fn.kp FT.bd .nil pass0 (pa_cons (pv 0) (pa_cons pe_int (pa_cons pe_int (pa_cons pe_int pa_nil)))))
            (pa_cons (pe_call GT hr (by rfl) FT.gl FT.fn.kp FT.bd .nil pass0 (pa_cons (pv 0) (pa_cons pe_int (pa_cons pe_int (pa_cons pe_int pa_nil))))) pa_nil))) (pe_lst (pa_cons pe_str (pa_cons pe_str pa_nil))) (nomark _)) (pss_one (ps_ret pe_bl)) pss_nil)
      (pss_cons (ps_set (i := 1) nd rfl (.inl rfl) (pe_lst (pa_cons (pe_call GT hr (by rfl) FT.gl FT.fn.kp FT.bd .nil pass0 (pa_cons (pv 0) (pa_cons pe_bl (pa_cons pe_int (pa_cons pe_int pa_nil)))))
          (pa_cons (pe_call GT hr (by rfl) FT.gl FT.fn.kp FT.bd .nil pass0 (pa_cons (pv 0) (pa_cons pe_int (pa_cons pe_bl (pa_cons pe_int pa_nil)))))
          (pa_cons (pe_call GT hr (by rfl) FT.gl FT.fn.kp FT.bd .nil pass0 (pa_cons (pv 0) (pa_cons pe_int (pa_cons pe_int (pa_cons pe_bl pa_nil))))) pa_nil)))))
      (pss_one (ps_ret (pe_and (pe_cmpR (op_eqD hu) (pv 1) (pe_lst (pa_cons pe_str (pa_cons pe_str (pa_cons pe_str pa_nil)))) (nomark _))
        (pe_one (pe_cmpR op_eq (pe_call GT hr (by rfl) FT.gl FT.fn.kp FT.bd .nil pass0 (pa_cons (pv 0) (pa_cons pe_int (pa_cons pe_bl (pa_cons pe_int pa_nil))))) pe_str (nomark _))))))), ?_⟩
    have kk : ∀ x y z : Int, x = 1 → (y = 0 ∨ y = 1) → z = 1 → ∀ i j n : Int, V.int x = .int i → V.int y = .int j → V.int z = .int n → 1 ≤ i → 0 ≤ j → 0 ≤ n → way = 1 → keepN n i j ≤ 40 := by
      intro x y z hx hy hz i j n e1 e2 e3 _ _ _ _
      cases e1
      cases e2
      cases e3
      subst hx hz
      rcases hy with rfl | rfl <;> decide
    have t1 : toldS way (.int 1) (.int 1) (.int 1) = Str.ofString "told" := by rcases hway with rfl | rfl <;> decide +kernel
    have t2 : toldS way (.int 1) (.int 0) (.int 1) = Str.ofString "told" := by rcases hway with rfl | rfl <;> decide +kernel
    have t3 : toldS way (.bl true) (.int 1) (.int 1) = Str.ofString "on" := by rcases hway with rfl | rfl <;> decide +kernel
    have t4 : toldS way (.int 1) (.bl true) (.int 1) = Str.ofString "off" := by rcases hway with rfl | rfl <;> decide +kernel
    have t5 : toldS way (.int 1) (.int 1) (.bl true) = Str.ofString "number" := by rcases hway with rfl | rfl <;> decide +kernel
    have t6 : toldS way (.int 1) (.bl false) (.int 1) = Str.ofString "off" := by rcases hway with rfl | rfl <;> decide +kernel
    have th1 : ∀ {Hx : Hp}, Th Hx (.int 1) (.int 1) := fun {Hx} => .int 1 (by decide)
    have th0 : ∀ {Hx : Hp}, Th Hx (.int 0) (.int 0) := fun {Hx} => .int 0 (by decide)
    have thb : ∀ {Hx : Hp} {b : Bool}, Th Hx (.bl b) (.bool b) := fun {Hx b} => .bl b
    refine ⟨_, rfl, way, _, _, _, _, _, _, rfl, hway, th1, th1, th1, kk 1 1 1 rfl (.inr rfl) rfl, fun H1 s1 => ?_⟩
    rw [t1]
    refine ⟨_, rfl, way, _, _, _, _, _, _, rfl, hway, th1, th0, th1, kk 1 0 1 rfl (.inl rfl) rfl, fun H2 s2 => ?_⟩
    rw [t2]
    refine ⟨by show 2 ≤ sizeLine; decide, fun l nl => ⟨by show 2 ≤ sizeLine; decide, fun l2 nl2 => ?_⟩⟩
    have s3 := same_upd (o := .lst [V.str (Str.ofString "told"), .str (Str.ofString "told")]) nl
    have s4 := same_upd (o := .lst [V.str (Str.ofString "told"), .str (Str.ofString "told")]) nl2
    obtain ⟨g1, g2⟩ := strs_eq (xs := [Str.ofString "told", Str.ofString "told"]) (by intro x hx; simp only [List.mem_cons, List.not_mem_nil, or_false] at hx; rcases hx with rfl | rfl <;> exact ok_of _)
    refine ⟨.list [.str (Str.ofString "told"), .str (Str.ofString "told")], .list [.str (Str.ofString "told"), .str (Str.ofString "told")], .lst (SqL.of (s4 _ _ upd_same)) (.cons (.str _) (.cons (.str _) .nil)), .lst (SqL.of upd_same) (.cons (.str _) (.cons (.str _) .nil)), g1, g1, _, rfl, ?_⟩
    rw [show PyData.eqv (.list [.str (Str.ofString "told"), .str (Str.ofString "told")]) (.list [.str (Str.ofString "told"), .str (Str.ofString "told")]) = true from g2]
    refine ⟨_, rfl, way, _, _, _, _, _, _, rfl, hway, thb, th1, th1, (by intro i j n e; cases e), fun H5 s5 => ?_⟩
    rw [t3]
    refine ⟨_, rfl, way, _, _, _, _, _, _, rfl, hway, th1, thb, th1, (by intro i j n e1 e2; cases e2), fun H6 s6 => ?_⟩
    rw [t4]
    refine ⟨_, rfl, way, _, _, _, _, _, _, rfl, hway, th1, th1, thb, (by intro i j n e1 e2 e3; cases e3), fun H7 s7 => ?_⟩
    rw [t5]
    refine ⟨by show 3 ≤ sizeLine; decide, fun l3 nl3 => ?_⟩
    refine ⟨_, rfl, by show 3 ≤ sizeLine; decide, fun l4 nl4 => ?_⟩
    have s8 := same_upd (o := .lst words3) nl3
    have s9 := same_upd (o := .lst words3) nl4
    obtain ⟨g3, g4⟩ := strs_eq (xs := [Str.ofString "on", Str.ofString "off", Str.ofString "number"]) (by intro x hx; simp only [List.mem_cons, List.not_mem_nil, or_false] at hx; rcases hx with rfl | rfl | rfl <;> exact ok_of _)
    refine ⟨.list [.str (Str.ofString "on"), .str (Str.ofString "off"), .str (Str.ofString "number")], .list [.str (Str.ofString "on"), .str (Str.ofString "off"), .str (Str.ofString "number")], .lst (SqL.of (s9 _ _ upd_same)) (.cons (.str _) (.cons (.str _) (.cons (.str _) .nil))), .lst (SqL.of upd_same) (.cons (.str _) (.cons (.str _) (.cons (.str _) .nil))), g3, g3, _, rfl, ?_⟩
    rw [show PyData.eqv (.list [.str (Str.ofString "on"), .str (Str.ofString "off"), .str (Str.ofString "number")]) (.list [.str (Str.ofString "on"), .str (Str.ofString "off"), .str (Str.ofString "number")]) = true from g4]
    refine ⟨_, rfl, way, _, _, _, _, _, _, rfl, hway, th1, thb, th1, (by intro i j n e1 e2; cases e2), fun H10 s10 => ?_⟩
    rw [t6]
    refine ⟨rfl, ?_⟩
    rw [decide_eq_true rfl]
    exact q _ ((((((((s1.trans s2).trans s3).trans s4).trans s5).trans s6).trans s7).trans s8).trans (s9.trans s10))
end
end K48

set_option Elab.async false
set_option linter.all false
set_option maxRecDepth 100000
set_option maxHeartbeats 3200000
namespace K48
open PySem PySem.Spec PyProof.Rows L2 LT NdefX
abbrev nLaw : List Str := ["_law_script", "_law_k", "_law_pot_here", "_law_way", "_law_bad", "_law_far", "_law_things", "_law_handed", "_law_held", "_law_turn", "_law_j"]
theorem scLaw : FnScope nLaw ["_law_script"] (defScope s_law) := ⟨rfl, rfl, rfl, by decide +kernel, rfl, by decide +kernel, by decide +kernel⟩
/-- what is handed in at each place: good ones, or none -/
structure Hd (way far m : Int) (x y z : Bool) (a b c : V) : Prop where
  a1 : x = false → a = .int (1 + far)
  a2 : x = true → fromB a 1 = false
  b1 : y = false → b = .int far
  b2 : y = true → fromB b 0 = false
  c1 : z = false → c = .int m
  c2 : z = true → okB way c = false
theorem Hd.told {way far m : Int} {x y z : Bool} {a b c : V} (h : Hd way far m x y z a b c) (hway : way = 0 ∨ way = 1) (f0 : 0 ≤ far) (m0 : 0 ≤ m) (m1 : m ≤ 40) : toldS way a b c = dueS x y z := by
  unfold toldS turnF dueS
  cases x with
  | true => rw [h.a2 rfl]; rfl
  | false =>
    rw [h.a1 rfl, show fromB (.int (1 + far)) 1 = true from decide_eq_true (by omega)]
    cases y with
    | true => rw [h.b2 rfl]; rfl
    | false =>
      rw [h.b1 rfl, show fromB (.int far) 0 = true from decide_eq_true f0]
      cases z with
      | true => rw [h.c2 rfl]; rfl
      | false =>
        rw [h.c1 rfl]
        have : okB way (.int m) = true := by
          rcases hway with rfl | rfl
          · show (decide (0 ≤ m) && decide (m ≤ 40)) = true
            rw [decide_eq_true m0, decide_eq_true m1]
            rfl
          · exact decide_eq_true m0
        rw [this]
        rfl
/-- the ways behind an if are joined: what follows is shown once -/
theorem join {α : Type} {J : α → Hp → Prop} {sl : α → L2.St} {rest : L2.St → Hp → Prop} {goal : Prop} (k : (∀ a Hx, J a Hx → rest (sl a) Hx) → goal) (h : ∀ a Hx, J a Hx → rest (sl a) Hx) : goal := k h
/-- what stands while a turn goes on: the pot, the truths, the things -/
structure St (H : Hp) (p B th : Addr) (x y z : Bool) (far m : Int) (H' : Hp) : Prop where
  pot : Pot H' p
  bad : H' B = some (.lst [.bl x, .bl y, .bl z])
  thi : H' th = some (.lst [.int (1 + far), .int far, .int m])
  sm : Same H H'
theorem St.stepB {H H1 H2 : Hp} {p B th : Addr} {x y z : Bool} {far m : Int} (h : St H p B th x y z far m H1) (np : H p = none) (s : SameB p H1 H2) (hp : Pot H2 p) : St H p B th x y z far m H2 :=
  ⟨hp, s _ _ (ne_of_pot h.pot h.bad) h.bad, s _ _ (ne_of_pot h.pot h.thi) h.thi, sameB_new np h.sm s⟩
theorem St.step {H H1 H2 : Hp} {p B th : Addr} {x y z : Bool} {far m : Int} (h : St H p B th x y z far m H1) (s : Same H1 H2) : St H p B th x y z far m H2 :=
  ⟨h.pot.mono s, s _ _ h.bad, s _ _ h.thi, h.sm.trans s⟩
/-- the first j of those handed in -/
structure Pj (way far m : Int) (x y z : Bool) (W : Addr) (a b c : V) (da db dc : PyData) (j : Nat) (H : Hp) : Prop where
  at_ : H W = some (.lst ([a, b, c].take j))
  a : 0 < j → Th H a da ∧ (∀ r, a = .ref r → r ≠ W) ∧ (x = false → a = .int (1 + far)) ∧ (x = true → fromB a 1 = false)
  b : 1 < j → Th H b db ∧ (∀ r, b = .ref r → r ≠ W) ∧ (y = false → b = .int far) ∧ (y = true → fromB b 0 = false)
  c : 2 < j → Th H c dc ∧ (∀ r, c = .ref r → r ≠ W) ∧ (z = false → c = .int m) ∧ (z = true → okB way c = false)
theorem Pj.of {way far m : Int} {x y z : Bool} {W : Addr} {a b c : V} {da db dc : PyData} {j : Nat} {H H' : Hp} (h : Pj way far m x y z W a b c da db dc j H) (e : H' W = H W) (hm : ∀ {v d}, Th H v d → Th H' v d) : Pj way far m x y z W a b c da db dc j H' :=
  ⟨e.trans h.at_, fun l => ⟨hm (h.a l).1, (h.a l).2⟩, fun l => ⟨hm (h.b l).1, (h.b l).2⟩, fun l => ⟨hm (h.c l).1, (h.c l).2⟩⟩
theorem Th.updNe {H : Hp} {W : Addr} {v : V} {d : PyData} {o : HO} (h : Th H v d) (hn : ∀ r, v = .ref r → r ≠ W) : Th (L2.upd H W o) v d := by
  cases h with
  | non => exact .non
  | bl b => exact .bl b
  | int i hi => exact .int i hi
  | str z a b c => exact .str z a b c
  | lst n hn' e => exact .lst n hn' (by rw [upd_ne (hn _ rfl)]; exact e)
  | tup n hn' e => exact .tup n hn' (by rw [upd_ne (hn _ rfl)]; exact e)
  | dk e => exact .dk (by rw [upd_ne (hn _ rfl)]; exact e)
theorem ok_of_none {way : Int} (hway : way = 0 ∨ way = 1) {v : V} (h : fromB v 0 = false) : okB way v = false := by
  rcases hway with rfl | rfl
  · show withinB v 0 40 = false
    cases v with
    | int i =>
      show (decide (0 ≤ i) && decide (i ≤ 40)) = false
      rw [show decide (0 ≤ i) = false from h]
      rfl
    | _ => rfl
  · exact h
theorem keep_small {far n : Int} (f0 : 0 ≤ far) (h : n = 0 ∨ n = 1) : keepN n (1 + far) far ≤ 40 := by
  unfold keepN
  have : (n * (1 + far + far) + (1 + far) - 1) < (1 + far) * 3 := by rcases h with rfl | rfl <;> omega
  have := Int.ediv_lt_of_lt_mul (show 0 < 1 + far by omega) (by rw [Int.mul_comm]; exact this)
  omega
section
variable {P : Program} {w : World} {K : PySem.W.Frag} {mg : Str → Option Value} {base : Heap} {C CN CU CT CW CL CB c1 c2 c3 : Addr}
def spLaw (K : PySem.W.Frag) : Sp := fun vs H Q _ => ∃ (a : Addr) (ns : List Int), vs = [.ref a] ∧ SqL K H a (ns.map V.int) ∧ ns.length ≤ 63 ∧ ∀ H', Q (.bl true) H'
structure Ls (K : PySem.W.Frag) (mg : Str → Option Value) : Prop where
  ce : ∃ f fd, Has K mg "_law_cell" ["_law_script", "_law_k"] s__law_cell f fd
  po : ∃ f fd, Has K mg "_law_pot" ["_law_script", "_law_k"] s__law_pot f fd
  ta : ∃ f fd, Has K mg "_law_take" ["_law_pot_here", "_law_many"] s__law_take f fd
  no : ∃ f fd, Has K mg "_law_none" ["_law_pot_here", "_law_least"] s__law_none f fd
  to : ∃ f fd, Has K mg "_law_told" ["_law_way", "_law_on", "_law_off", "_law_many"] s__law_told f fd
  du : ∃ f fd, Has K mg "_law_due" ["_law_bad"] s__law_due f fd
  tr : ∃ f fd, Has K mg "_law_truths_right" ["_law_way"] s__law_truths_right f fd
theorem ok_law {f : Addr} {fd : FuncData} (F : Fun K "law" "law" s_law f fd) (T : Tx mg) (D : Ds K P mg C CN) (L : Ls K mg) (U : Ev K mg "NoNumber" CU) (V' : Ev K mg "TooMany" CT) (xf : XfC K CN) (G : Eg mg CN CU CW CL CB c1 c2 c3)
    (RN : Eo K CN CN CU CW CL CB c1 c2 c3 true false) (RU : Eo K CU CN CU CW CL CB c1 c2 c3 false true) : FnG P w K mg base CX0 10 f fd ["_law_script"] (spLaw K) := by
  obtain ⟨⟨fC, fdC, FC⟩, ⟨fP, fdP, FP⟩, ⟨fT, fdT, FT⟩, ⟨fN, fdN, FN⟩, ⟨fO, fdO, FO⟩, ⟨fD, fdD, FD⟩, ⟨fR, fdR, FR⟩⟩ := L
  have GP : FnOk P w K mg base CX0 2 fP fdP ["_law_script", "_law_k"] (spPot K) := ok_pot FP.fn T FC
  have GT : FnOk P w K mg base CX0 1 fT fdT ["_law_pot_here", "_law_many"] spTake := ok_take FT.fn T
  have GN : FnOk P w K mg base CX0 2 fN fdN ["_law_pot_here", "_law_least"] spNone := ok_none FN.fn T FT
  have GO : FnOk P w K mg base CX0 8 fO fdO ["_law_way", "_law_on", "_law_off", "_law_many"] spTold := ok_told FO.fn T D U V' xf G RN RU
  have GD : FnOk P w K mg base CX0 1 fD fdD ["_law_bad"] spDue := ok_due FD.fn T
  have GR : FnOk P w K mg base CX0 9 fR fdR ["_law_way"] spTruths := ok_truths FR.fn FO GO
  refine okG F scLaw (fun h => ?_) (fun cdv A outer s H vs Q E hG hr h => ?_)
  · obtain ⟨a, ns, rfl, _⟩ := h
    rfl
  · obtain ⟨a, ns, rfl, hS, hl, q⟩ := h
    have nd := scLaw.nd
    have hu := hr.units
    have r1 : Room 1 _ := hr.mono (by decide)
    have r2 : Room 2 _ := hr.mono (by decide)
    have r8 : Room 8 _ := hr.mono (by decide)
    have hG2 : (cxOf CX0 P w K mg base nLaw "law" (defScope s_law) f cdv A outer s H E).nox.A.guards = some [] := hG
    refine ⟨_, pss_cons (ps_for PassesOwn.never rfl (pi_range1 (by rfl) T.range (pa_cons (pe_callB (call_max2 rfl) (by rfl) T.max (by decide +kernel) (pa_cons pe_int (pa_cons
          (pe_callB (call_min2 rfl) (by rfl) T.min (by decide +kernel) (pa_cons pe_int (pa_cons (pe_callB call_len_seq (by rfl) T.len PySem.boot_len (pa_cons (pv 0) pa_nil)) pa_nil))) pa_nil))) pa_nil)) (pg_name (i := 1) nd rfl (.inl rfl))
        (pss_cons (ps_set (i := 2) nd rfl (.inr rfl) (pe_call GP r2 (by rfl) FP.gl FP.fn.kp FP.bd .nil pass0 (pa_cons (pv 0) (pa_cons (pv 1) pa_nil))))
        (pss_cons (ps_set (i := 3) nd rfl (.inl rfl) (pe_call GT r1 (by rfl) FT.gl FT.fn.kp FT.bd .nil pass0 (pa_cons (pv 2) (pa_cons pe_int pa_nil))))
        (pss_cons (ps_set (i := 4) nd rfl (.inr rfl) (pe_lc (own := [("_law_turn", 9)]) (g := gName 9) (tt := tYes) rfl nd (pi_range1 (by rfl) T.range (pa_cons pe_int pa_nil)) (blkOk_by (N := nLaw) (sc := defScope s_law) (by decide +kernel))
            (fun _ _ _ _ _ => pg_name (i := 9) nd rfl (Or.inl rfl)) (fun _ _ _ _ _ => pts_nil)
            (fun _ _ _ _ _ => pe_cmpR op_eq (pe_call GT r1 (by rfl) FT.gl FT.fn.kp FT.bd .nil pass0 (pa_cons (pv 2) (pa_cons pe_int pa_nil))) pe_int (nomark _))))
        (pss_cons (ps_set (i := 5) nd rfl (.inl rfl) (pe_call GT r1 (by rfl) FT.gl FT.fn.kp FT.bd .nil pass0 (pa_cons (pv 2) (pa_cons (pe_ix ix_list (pe_lst (pa_cons pe_int (pa_cons (pe_op op_pow pe_int pe_int) pa_nil)))
            (pe_call GT r1 (by rfl) FT.gl FT.fn.kp FT.bd .nil pass0 (pa_cons (pv 2) (pa_cons pe_int pa_nil))) (fun _ _ => rfl)) pa_nil))))
        (pss_cons (ps_set (i := 6) nd rfl (.inr rfl) (pe_lst (pa_cons (pe_op op_add pe_int (pv 5)) (pa_cons (pv 5) (pa_cons (pe_ix ix_list (pe_lst (pa_cons pe_int (pa_cons pe_int pa_nil))) (pv 3) (fun _ _ => rfl)) pa_nil)))))
        (pss_cons (ps_asg (pe_call GT r1 (by rfl) FT.gl FT.fn.kp FT.bd .nil pass0 (pa_cons (pv 2) (pa_cons (pe_ix ix_list (pv 6) pe_int (fun _ _ => rfl)) pa_nil))) (pg_sub (pv 6) pe_int set_list))
        (pss_cons (ps_setLc (i := 7) (own := [("_law_j", 10)]) (g := gName 10) (tt := tYes) rfl nd rfl rfl (sw_true rfl rfl rfl (by decide +kernel)) (pi_range1 (by rfl) T.range (pa_cons pe_int pa_nil)) (blkOk_by (N := nLaw) (sc := defScope s_law) (by decide +kernel))
            (fun _ _ _ _ _ => pg_name (i := 10) nd rfl (Or.inl rfl)) (fun _ _ _ _ _ => pts_nil)
            (fun _ _ _ _ _ => pe_ifExp (pt_not (pt_val (pe_ix (r := rIxL K) ix_list (pv 4) (pv 10) (fun _ _ => rfl)))) (pe_ix (r := rIxL K) ix_list (pv 6) (pv 10) (fun _ _ => rfl))
              (pe_call GN r2 (by rfl) FN.gl FN.fn.kp FN.bd .nil pass0 (pa_cons (pv 2) (pa_cons (pe_callTy call_int1 (by rfl) T.int (by decide +kernel) (pa_cons (pe_cmpR op_eq (pv 10) pe_int (nomark _)) pa_nil)) pa_nil)))))
        (pss_cons (ps_if (PW.pt (pw_and (pt_cmpR op_eq (pv 3) pe_int (nomark _)) (pw_and (pt_val (pe_ix ix_list (pv 4) pe_int (fun _ _ => rfl))) (pw_and1 (pt_cmpR op_eq (pe_call GT r1 (by rfl) FT.gl FT.fn.kp FT.bd .nil pass0 (pa_cons (pv 2) (pa_cons pe_int pa_nil))) pe_int (nomark _))))))
            (pss_one (ps_asg (pe_op op_add pe_int (pe_call GT r1 (by rfl) FT.gl FT.fn.kp FT.bd .nil pass0 (pa_cons (pv 2) (pa_cons (pe_op op_pow pe_int pe_int) pa_nil)))) (pg_sub (pv 7) pe_int set_list))) pss_nil)
        (pss_cons (ps_set (i := 8) nd rfl (.inl rfl) (pe_callB (call_reprSd hG2 hu) (by rfl) T.repr (by decide +kernel) (pa_cons (pv 7) pa_nil)))
        (pss_cons (ps_if (PW.pt (pw_or (pt_cmpR op_ne (pe_call GO r8 (by rfl) FO.gl FO.fn.kp FO.bd .nil pass0 (pa_cons (pv 3) (pa_cons (pe_ix ix_list (pv 7) pe_int (fun _ _ => rfl)) (pa_cons (pe_ix ix_list (pv 7) pe_int (fun _ _ => rfl)) (pa_cons (pe_ix ix_list (pv 7) pe_int (fun _ _ => rfl)) pa_nil)))))
              (pe_call GD r1 (by rfl) FD.gl FD.fn.kp FD.bd .nil pass0 (pa_cons (pv 4) pa_nil)) (nomark _))
            (pw_or1 (pt_cmpR op_ne (pe_callB (call_reprSd hG2 hu) (by rfl) T.repr (by decide +kernel) (pa_cons (pv 7) pa_nil)) (pv 8) (nomark _))))) (pss_one (ps_ret pe_bl)) pss_nil)
        (pss_one (ps_if (PW.pt (pw_or (pt_not (pt_val (pe_call GR hr (by rfl) FR.gl FR.fn.kp FR.bd .nil pass0 (pa_cons (pv 3) pa_nil))))
            (pw_or1 (pt_cmpR op_ne (pe_call GO r8 (by rfl) FO.gl FO.fn.kp FO.bd .nil pass0 (pa_cons (pv 3) (pa_cons (pe_ix ix_list (pv 6) pe_int (fun _ _ => rfl)) (pa_cons (pe_ix ix_list (pv 6) pe_int (fun _ _ => rfl)) (pa_cons (pe_ix ix_list (pv 6) pe_int (fun _ _ => rfl)) pa_nil))))) pe_str (nomark _)))))
          (pss_one (ps_ret pe_bl)) pss_nil)))))))))))))
      (pss_one (ps_ret pe_bl)), ?_⟩
    refine ⟨_, rfl, a, _, rfl, .inl hS, _, _, rfl, _, _, rfl, ?_⟩
    generalize hN : (if (if ((ns.map V.int).length : Nat) < (8 : Int) then ((ns.map V.int).length : Int) else 8) > 3 then (if ((ns.map V.int).length : Nat) < (8 : Int) then ((ns.map V.int).length : Int) else 8) else 3) = N
    have hN1 : 1 ≤ N ∧ N ≤ 30 := by
      rw [← hN]
      split <;> (try split) <;> omega
    refine ⟨N, rfl, by omega, by omega, for_range (lo := 0) (n := N.toNat) (fun i σ H' => (∃ x1 x2 x3 x4 x5 x6 x7 x8, σ = [some (.ref a), x1, x2, x3, x4, x5, x6, x7, x8, none, none]) ∧ Same H H') ⟨⟨none, none, none, none, none, none, none, none, rfl⟩, Same.refl H⟩ ?_ ?_⟩
    · rintro i σ H1 hi ⟨⟨x1, x2, x3, x4, x5, x6, x7, x8, rfl⟩, sm⟩
      refine ⟨_, rfl, _, rfl, a, ns, i, (by rw [Int.zero_add]; rfl), sm.seq hS, by omega, fun p H2 np s2 hp => ?_⟩
      have npH : H p = none := sm.free np
      refine ⟨_, rfl, p, 2, rfl, hp, by decide, by decide, fun way H3 w0 w1 hp3 sb3 => ?_⟩
      have hway : way = 0 ∨ way = 1 := by omega
      have sm3 : Same H H3 := sameB_new npH (sm.trans s2) sb3
      refine ⟨3, rfl, by decide, by decide, fun B nB => ?_⟩
      have nBH : H B = none := sm3.free nB
      have nBp : B ≠ p := fun e => by
        obtain ⟨_, _, h, _⟩ := hp3
        rw [e, h] at nB
        cases nB
      refine lc_range (lo := 0) (n := 3) (fun t H' => ∃ bs : List Bool, bs.length = t ∧ H' B = some (.lst (bs.map V.bl)) ∧ Pot H' p ∧ Same H H') ⟨[], rfl, upd_same, hp3.mono (same_upd nB), sm3.trans (same_upd nB)⟩ ?_ ?_
      · rintro t H4 ht ⟨bs, hbs, eB, hp4, sm4⟩
        refine ⟨rfl, _, rfl, p, 3, rfl, hp4, by decide, by decide, fun d H5 d0 d1 hp5 sb5 => ?_⟩
        refine ⟨rfl, _, sb5 _ _ nBp eB, ?_, bs ++ [decide (V.int d = V.int 0)], ?_, ?_, hp5.upd nBp, same_app nBH (sameB_new npH sm4 sb5)⟩
        · rw [List.length_map]
          exact small1000 (by omega)
        · rw [List.length_append, hbs]
          rfl
        · rw [upd_same, List.map_append]
          rfl
      rintro H4 ⟨bs, hbs, eB, hp4, sm4⟩
      obtain ⟨x, y, z, rfl⟩ : ∃ x y z, bs = [x, y, z] := by
        match bs, hbs with
        | [x, y, z], _ => exact ⟨x, y, z, rfl⟩
      have eB : H4 B = some (.lst [.bl x, .bl y, .bl z]) := eB
      -- far
      refine ⟨_, rfl, _, _, rfl, rfl, ⟨by decide, by decide, by decide⟩, by show 2 ≤ sizeLine; decide, fun l nl => ?_⟩
      have s5 := same_upd (o := .lst [V.int 10, .int (10 ^ Int.toNat 59)]) nl
      have hl5 := upd_same (H := H4) (a := l) (o := .lst [V.int 10, .int (10 ^ Int.toNat 59)])
      have nlp : l ≠ p := fun e => by
        obtain ⟨_, _, h, _⟩ := hp4
        rw [e, h] at nl
        cases nl
      have hp5 := hp4.mono s5
      have eB5 := s5 _ _ eB
      have sm5 := sm4.trans s5
      generalize upd H4 l (.lst [V.int 10, .int (10 ^ Int.toNat 59)]) = H5 at *
      refine ⟨_, rfl, p, 2, rfl, hp5, by decide, by decide, fun d H6 d0 d1 hp6 sb6 => ?_⟩
      have sm6 := sameB_new npH sm5 sb6
      have eB6 := sb6 _ _ nBp eB5
      obtain ⟨r, er, r0, r1⟩ : ∃ r : Int, atI [V.int 10, .int (10 ^ Int.toNat 59)] d = some (.int r) ∧ 0 < r ∧ r ≤ 10 ^ 59 := by
        have hd : d = 0 ∨ d = 1 := by omega
        rcases hd with rfl | rfl
        · exact ⟨10, rfl, by decide, by decide⟩
        · exact ⟨_, rfl, by decide, by decide⟩
      refine ⟨l, _, d, .int r, rfl, rfl, SqL.of (sb6 _ _ nlp hl5), er, ?_⟩
      refine ⟨p, r, rfl, hp6, r0, by omega, fun far H7 f0 f1 hp7 sb7 => ?_⟩
      have sm7 := sameB_new npH sm6 sb7
      have eB7 := sb7 _ _ nBp eB6
      -- things
      refine ⟨_, rfl, _, _, rfl, rfl, _, rfl, by show 2 ≤ sizeLine; decide, fun l2 nl2 => ?_⟩
      have s8 := same_upd (o := .lst [V.int 41, .int 2]) nl2
      have hl8 := upd_same (H := H7) (a := l2) (o := .lst [V.int 41, .int 2])
      have hp8 := hp7.mono s8
      have eB8 := s8 _ _ eB7
      have sm8 := sm7.trans s8
      generalize upd H7 l2 (.lst [V.int 41, .int 2]) = H8 at *
      obtain ⟨mm, em, mm0, mm1, mm2⟩ : ∃ mm : Int, atI [V.int 41, .int 2] way = some (.int mm) ∧ 0 < mm ∧ mm ≤ 41 ∧ (way = 1 → mm = 2) := by
        rcases hway with rfl | rfl
        · exact ⟨41, rfl, by decide, by decide, fun h => by cases h⟩
        · exact ⟨2, rfl, by decide, by decide, fun _ => rfl⟩
      refine ⟨_, rfl, l2, _, way, .int mm, rfl, rfl, SqL.of hl8, em, by show 3 ≤ sizeLine; decide, fun th nth => ?_⟩
      have s9 := same_upd (o := .lst [V.int (1 + far), .int far, .int mm]) nth
      have ht9 := upd_same (H := H8) (a := th) (o := .lst [V.int (1 + far), .int far, .int mm])
      have hp9 := hp8.mono s9
      have eB9 := s9 _ _ eB8
      have sm9 := sm8.trans s9
      have nthH : H th = none := sm8.free nth
      have nthB : B ≠ th := ne_of_none eB8 nth
      generalize upd H8 th (.lst [V.int (1 + far), .int far, .int mm]) = H9 at *
      have nthp : th ≠ p := ne_of_pot hp9 ht9
      refine ⟨_, rfl, _, rfl, th, _, 2, _, rfl, rfl, SqL.of ht9, atI_nat (j := 2) rfl, p, mm, rfl, hp9, mm0, (Int.le_trans mm1 (by decide)), fun m H10 m0 m1 hp10 sb10 => ?_⟩
      refine ⟨_, rfl, th, _, 2, 2, rfl, rfl, sb10 _ _ nthp ht9, rfl, ?_⟩
      have J0 : St H p B th x y z far m (upd H10 th (.lst ([V.int (1 + far), .int far, .int mm].set 2 (.int m)))) :=
        ⟨hp10.upd nthp, by rw [upd_ne nthB]; exact sb10 _ _ nBp eB9, upd_same, same_app nthH (sameB_new npH sm9 sb10)⟩
      have fb : far.natAbs ≤ 10 ^ 60 := by omega
      generalize upd H10 th (.lst ([V.int (1 + far), .int far, .int mm].set 2 (.int m))) = H11 at *
      refine ⟨3, rfl, by decide, by decide, fun W nW => ?_⟩
      have nWH : H W = none := J0.sm.free nW
      have nWp : W ≠ p := fun e => by
        obtain ⟨_, _, h, _⟩ := J0.pot
        rw [e, h] at nW
        cases nW
      have nBW : B ≠ W := ne_of_none J0.bad nW
      have ntW : th ≠ W := ne_of_none J0.thi nW
      have stW : ∀ {Hx : Hp} {o : HO}, St H p B th x y z far m Hx → St H p B th x y z far m (upd Hx W o) := fun {Hx o} J =>
        ⟨J.pot.upd nWp, by rw [upd_ne nBW]; exact J.bad, by rw [upd_ne ntW]; exact J.thi, same_app nWH J.sm⟩
      refine lc_range (lo := 0) (n := 3) (fun j H' => ∃ va vb vc da db dc, Pj way far m x y z W va vb vc da db dc j H' ∧ St H p B th x y z far m H')
        ⟨.non, .non, .non, .none, .none, .none, ⟨upd_same, fun l => absurd l (by omega), fun l => absurd l (by omega), fun l => absurd l (by omega)⟩, J0.step (same_upd nW)⟩ ?_ ?_
      · rintro j H12 hj ⟨va, vb, vc, da, db, dc, Pp, J⟩
        have hj : j = 0 ∨ j = 1 ∨ j = 2 := by omega
        rcases hj with rfl | rfl | rfl
        · refine ⟨rfl, _, rfl, _, rfl, B, _, _, _, rfl, rfl, SqL.of J.bad, rfl, _, rfl, ?_⟩
          cases x with
          | false =>
            refine ⟨_, rfl, _, rfl, th, _, _, _, rfl, rfl, SqL.of J.thi, rfl, _, Pp.at_, small1000 (by simp), .int (1 + far), vb, vc, .int (1 + far), db, dc, ⟨upd_same, fun _ => ⟨.int _ (by omega), nofun, fun _ => rfl, nofun⟩, fun l => absurd l (by omega), fun l => absurd l (by omega)⟩, stW J⟩
          | true =>
            refine ⟨_, rfl, _, rfl, rfl, .inr ⟨_, rfl, p, 1, rfl, .inr rfl, J.pot, fun v d H13 hv fr hn hp13 sb13 => ?_⟩⟩
            have J13 := J.stepB npH sb13 hp13
            have e13 := sb13 _ _ nWp Pp.at_
            have nv : ∀ r, v = .ref r → r ≠ W := fun r e z => by have := Pp.at_; rw [← z, fr r e] at this; cases this
            exact ⟨_, e13, small1000 (by simp), v, vb, vc, d, db, dc, ⟨upd_same, fun _ => ⟨Th.updNe hv nv, nv, nofun, fun _ => hn⟩, fun l => absurd l (by omega), fun l => absurd l (by omega)⟩, stW J13⟩
        · obtain ⟨ta, na, a1, a2⟩ := Pp.a (by omega)
          refine ⟨rfl, _, rfl, _, rfl, B, _, _, _, rfl, rfl, SqL.of J.bad, rfl, _, rfl, ?_⟩
          cases y with
          | false =>
            refine ⟨_, rfl, _, rfl, th, _, _, _, rfl, rfl, SqL.of J.thi, rfl, _, Pp.at_, small1000 (by simp), va, .int far, vc, da, .int far, dc, ⟨upd_same, fun _ => ⟨Th.updNe ta na, na, a1, a2⟩, fun _ => ⟨.int _ (by omega), nofun, fun _ => rfl, nofun⟩, fun l => absurd l (by omega)⟩, stW J⟩
          | true =>
            refine ⟨_, rfl, _, rfl, rfl, .inr ⟨_, rfl, p, 0, rfl, .inl rfl, J.pot, fun v d H13 hv fr hn hp13 sb13 => ?_⟩⟩
            have J13 := J.stepB npH sb13 hp13
            have e13 := sb13 _ _ nWp Pp.at_
            have nv : ∀ r, v = .ref r → r ≠ W := fun r e z => by have := Pp.at_; rw [← z, fr r e] at this; cases this
            exact ⟨_, e13, small1000 (by simp), va, v, vc, da, d, dc, ⟨upd_same, fun _ => ⟨Th.updNe (ta.monoB J.pot sb13) na, na, a1, a2⟩, fun _ => ⟨Th.updNe hv nv, nv, nofun, fun _ => hn⟩, fun l => absurd l (by omega)⟩, stW J13⟩
        · obtain ⟨ta, na, a1, a2⟩ := Pp.a (by omega)
          obtain ⟨tb, nb, b1, b2⟩ := Pp.b (by omega)
          refine ⟨rfl, _, rfl, _, rfl, B, _, _, _, rfl, rfl, SqL.of J.bad, rfl, _, rfl, ?_⟩
          cases z with
          | false =>
            refine ⟨_, rfl, _, rfl, th, _, _, _, rfl, rfl, SqL.of J.thi, rfl, _, Pp.at_, small1000 (by simp), va, vb, .int m, da, db, .int m, ⟨upd_same, fun _ => ⟨Th.updNe ta na, na, a1, a2⟩, fun _ => ⟨Th.updNe tb nb, nb, b1, b2⟩, fun _ => ⟨.int _ (by omega), nofun, fun _ => rfl, nofun⟩⟩, stW J⟩
          | true =>
            refine ⟨_, rfl, _, rfl, rfl, .inr ⟨_, rfl, p, 0, rfl, .inl rfl, J.pot, fun v d H13 hv fr hn hp13 sb13 => ?_⟩⟩
            have J13 := J.stepB npH sb13 hp13
            have e13 := sb13 _ _ nWp Pp.at_
            have nv : ∀ r, v = .ref r → r ≠ W := fun r e z => by have := Pp.at_; rw [← z, fr r e] at this; cases this
            exact ⟨_, e13, small1000 (by simp), va, vb, v, da, db, d, ⟨upd_same, fun _ => ⟨Th.updNe (ta.monoB J.pot sb13) na, na, a1, a2⟩, fun _ => ⟨Th.updNe (tb.monoB J.pot sb13) nb, nb, b1, b2⟩, fun _ => ⟨Th.updNe hv nv, nv, nofun, fun _ => ok_of_none hway hn⟩⟩, stW J13⟩
      rintro H12 ⟨va, vb, vc, da, db, dc, Pp, J⟩
      obtain ⟨ta, na, a1, a2⟩ := Pp.a (by omega)
      obtain ⟨tb, nb, b1, b2⟩ := Pp.b (by omega)
      obtain ⟨tc, nc, cc1, cc2⟩ := Pp.c (by omega)
      have hW : H12 W = some (.lst [va, vb, vc]) := Pp.at_
      apply join (α := V × PyData) (J := fun c Hx => St H p B th x y z far m Hx ∧ Hx W = some (.lst [va, vb, c.1]) ∧ Th Hx va da ∧ Th Hx vb db ∧ Th Hx c.1 c.2 ∧ (z = false → c.1 = .int m) ∧ (z = true → okB way c.1 = false))
        (sl := fun _ => [some (.ref a), some (.int (0 + (i : Nat))), some (.ref p), some (.int way), some (.ref B), some (.int far), some (.ref th), some (.ref W), x8, none, none])
      · intro h
        refine ⟨_, rfl, rfl, _, rfl, ite2 ?yy ?nn⟩
        case nn =>
          intro _
          exact iteF (h (vc, dc) H12 ⟨J, hW, ta, tb, tc, cc1, cc2⟩)
        case yy =>
          intro e
          have e0 : way = 0 := V.int.inj (of_decide_eq_true e)
          refine ⟨_, rfl, B, _, 2, _, rfl, rfl, SqL.of J.bad, atI_nat (j := 2) rfl, _, rfl, ?_⟩
          cases z with
          | false => exact iteF (iteF (h (vc, dc) H12 ⟨J, hW, ta, tb, tc, cc1, cc2⟩))
          | true =>
            refine ⟨_, rfl, p, 3, rfl, J.pot, by decide, by decide, fun d H13 d0 d1 hp13 sb13 => ?_⟩
            have J13 := J.stepB npH sb13 hp13
            have hW13 := sb13 _ _ nWp hW
            have ta13 := ta.monoB J.pot sb13
            have tb13 := tb.monoB J.pot sb13
            have tc13 := tc.monoB J.pot sb13
            refine ⟨rfl, _, rfl, ite2 (fun _ => ?_) (fun _ => ?_)⟩
            · refine ⟨_, rfl, _, _, rfl, rfl, ⟨by decide, by decide, by decide⟩, p, 10 ^ Int.toNat 59, rfl, J13.pot, by decide, by decide, fun g H14 g0 g1 hp14 sb14 => ?_⟩
              have g1' : g < 10 ^ 59 := g1
              have J14 := J13.stepB npH sb14 hp14
              have hW14 := sb14 _ _ nWp hW13
              refine ⟨_, _, rfl, rfl, _, rfl, W, _, 2, 2, rfl, rfl, hW14, rfl, ?_⟩
              refine h (.int (41 + g), .int (41 + g)) _ ⟨stW J14, upd_same, Th.updNe (ta13.monoB J13.pot sb14) na, Th.updNe (tb13.monoB J13.pot sb14) nb, .int _ (by omega), nofun, fun _ => ?_⟩
              subst e0
              show (decide (0 ≤ 41 + g) && decide (41 + g ≤ 40)) = false
              rw [decide_eq_false (show ¬ 41 + g ≤ 40 by omega), Bool.and_false]
            · exact h (vc, dc) H13 ⟨J13, hW13, ta13, tb13, tc13, cc1, cc2⟩
      rintro ⟨vd, dd⟩ H13 ⟨J13, hW13, ta13, tb13, td13, dd1, dd2⟩
      dsimp only at hW13 td13 dd1 dd2
      have hd : Hd way far m x y z va vb vd := ⟨a1, a2, b1, b2, dd1, dd2⟩
      have m40 : m ≤ 40 := by omega
      have eT := hd.told hway f0 m0 m40
      obtain ⟨n1, n2, n3⟩ := fit3 ta13 tb13 td13
      refine ⟨_, rfl, W, _, [da, db, dd], rfl, SqL.of hW13, .cons ta13.sd (.cons tb13.sd (.cons td13.sd .nil)), n1, n2, n3, ?_⟩
      have kA : ∀ i j n : Int, va = .int i → vb = .int j → vd = .int n → 1 ≤ i → 0 ≤ j → 0 ≤ n → way = 1 → keepN n i j ≤ 40 := by
        intro i' j' n' e1 e2 e3 h1 h2 h3 hw
        have ex : x = false := by
          cases hx : x with
          | false => rfl
          | true =>
            have := a2 hx
            rw [e1, show fromB (.int i') 1 = true from decide_eq_true h1] at this
            cases this
        have ey : y = false := by
          cases hx : y with
          | false => rfl
          | true =>
            have := b2 hx
            rw [e2, show fromB (.int j') 0 = true from decide_eq_true h2] at this
            cases this
        have ez : z = false := by
          cases hx : z with
          | false => rfl
          | true =>
            have := dd2 hx
            subst hw
            rw [e3, show okB 1 (.int n') = true from decide_eq_true h3] at this
            cases this
        have f1' := (a1 ex).symm.trans e1
        have f2' := (b1 ey).symm.trans e2
        have f3' := (dd1 ez).symm.trans e3
        cases f1'
        cases f2'
        cases f3'
        have := mm2 hw
        exact keep_small f0 (by omega)
      have i0 : atI [va, vb, vd] 0 = some va := atI_nat (j := 0) rfl
      have i1 : atI [va, vb, vd] 1 = some vb := atI_nat (j := 1) rfl
      have i2 : atI [va, vb, vd] 2 = some vd := atI_nat (j := 2) rfl
      refine ⟨_, rfl, _, rfl, W, _, _, _, rfl, rfl, SqL.of hW13, i0, _, rfl, W, _, _, _, rfl, rfl, SqL.of hW13, i1, _, rfl, W, _, _, _, rfl, rfl, SqL.of hW13, i2, way, va, vb, vd, da, db, dd, rfl, hway, ta13, tb13, td13, kA, fun H14 s14 => ?_⟩
      have J14 := J13.step s14
      refine ⟨_, rfl, B, x, y, z, rfl, J14.bad, fun H15 s15 => ?_⟩
      have J15 := J14.step s15
      have sW := s14.trans s15
      refine ⟨rfl, _, rfl, ?_⟩
      rw [eT, decide_eq_true rfl]
      refine ⟨_, rfl, W, _, [da, db, dd], rfl, SqL.of (sW _ _ hW13), .cons (ta13.mono sW).sd (.cons (tb13.mono sW).sd (.cons (td13.mono sW).sd .nil)), n1, n2, n3, _, rfl, rfl, _, rfl, ?_⟩
      rw [decide_eq_true rfl]
      refine ⟨_, rfl, way, rfl, hway, fun H16 s16 => ⟨_, rfl, ?_⟩⟩
      have J16 := J15.step s16
      have j0 : atI [V.int (1 + far), .int far, .int m] 0 = some (.int (1 + far)) := rfl
      have j1 : atI [V.int (1 + far), .int far, .int m] 1 = some (.int far) := rfl
      have j2 : atI [V.int (1 + far), .int far, .int m] 2 = some (.int m) := rfl
      have kB : ∀ i j n : Int, V.int (1 + far) = .int i → V.int far = .int j → V.int m = .int n → 1 ≤ i → 0 ≤ j → 0 ≤ n → way = 1 → keepN n i j ≤ 40 := by
        intro i' j' n' e1 e2 e3 _ _ _ hw
        cases e1
        cases e2
        cases e3
        have := mm2 hw
        exact keep_small f0 (by omega)
      refine ⟨_, rfl, _, rfl, th, _, _, _, rfl, rfl, SqL.of J16.thi, j0, _, rfl, th, _, _, _, rfl, rfl, SqL.of J16.thi, j1, _, rfl, th, _, _, _, rfl, rfl, SqL.of J16.thi, j2, way, .int (1 + far), .int far, .int m, _, _, _, rfl, hway, .int _ (by omega), .int _ (by omega), .int _ (by omega), kB, fun H17 s17 => ?_⟩
      have hg : Hd way far m false false false (.int (1 + far)) (.int far) (.int m) := ⟨fun _ => rfl, nofun, fun _ => rfl, nofun, fun _ => rfl, nofun⟩
      have eG := hg.told hway f0 m0 m40
      refine ⟨rfl, _, rfl, ?_⟩
      rw [eG, show dueS false false false = Str.ofString "told" from rfl, decide_eq_true rfl]
      exact ⟨⟨_, _, _, _, _, _, _, _, rfl⟩, (J16.step s17).sm⟩
    · rintro σ H1 ⟨_, _⟩
      exact q _
end
end K48

set_option Elab.async false
set_option linter.all false
set_option maxRecDepth 100000
set_option maxHeartbeats 3200000
namespace K48
open PySem PySem.Spec PyProof.Rows L2 LT
/-- what the top has left of a def -/
structure Left (K : PySem.W.Frag) (x : Str) (st : Stmt) (f : Addr) (oc : Value) (od an : Option Addr) (kV dc pm cd ct : Value) (sl : Array (Option Value)) : Prop where
  ns : PySem.W.nsIn K mainGlobals x = some (some (.ref f))
  lk : K.lookup f = some ⟨oc, od, .func (PySem.W.fnOf x x (defArgs st) (defBody st) (defScope st) .none kV dc pm an cd ct), sl⟩
  cd : PySem.W.codeIn K cd x = true
  kp : PySem.W.keepIn K (.ref f) = true
theorem Left.fn {K : PySem.W.Frag} {x : Str} {st : Stmt} {f : Addr} {oc : Value} {od an : Option Addr} {kV dc pm cd ct : Value} {sl : Array (Option Value)} (h : Left K x st f oc od an kV dc pm cd ct sl) :
    Fun K x x st f (PySem.W.fnOf x x (defArgs st) (defBody st) (defScope st) .none kV dc pm an cd ct) := fun_mk h.lk h.cd h.kp
/-- what the top has left of a method -/
structure LeftM (K : PySem.W.Frag) (C : Addr) (x q : Str) (st : Stmt) (f : Addr) (oc : Value) (od an : Option Addr) (kV dc pm cd ct : Value) (sl : Array (Option Value)) : Prop where
  at_ : PySem.W.findIn K (.ref C) x = some (some (.ref f))
  lk : K.lookup f = some ⟨oc, od, .func (PySem.W.fnOf x q (defArgs st) (defBody st) (defScope st) .none kV dc pm an cd ct), sl⟩
  cd : PySem.W.codeIn K cd q = true
  kp : PySem.W.keepIn K (.ref f) = true
  isf : PySem.W.isFn K (.ref f) = true
theorem LeftM.fn {K : PySem.W.Frag} {C : Addr} {x q : Str} {st : Stmt} {f : Addr} {oc : Value} {od an : Option Addr} {kV dc pm cd ct : Value} {sl : Array (Option Value)} (h : LeftM K C x q st f oc od an kV dc pm cd ct sl) :
    Fun K x q st f (PySem.W.fnOf x q (defArgs st) (defBody st) (defScope st) .none kV dc pm an cd ct) := fun_mk h.lk h.cd h.kp
theorem LeftM.me {K : PySem.W.Frag} {C : Addr} {x q : Str} {st : Stmt} {f : Addr} {oc : Value} {od an : Option Addr} {kV dc pm cd ct : Value} {sl : Array (Option Value)} (h : LeftM K C x q st f oc od an kV dc pm cd ct sl) :
    Meth K C x f := ⟨h.at_, h.isf, h.kp⟩
/-- what the top has left of an own error with super().__init__ -/
structure LeftE (K : PySem.W.Frag) (pr : Program) (q : Str) (st : Stmt) (C f cc c : Addr) (nm qn : Str) (N : Addr) (bs bm : List Value) (sn : List Str) (sub : List Value) (ab : Bool) (col : Option Bool) (dd : Option Addr) (k0 k1 k2 k3 k5 : Option Value) (oc : Value) (od : Option Addr)
    (kV doc pm : Value) (an : Option Addr) (ct : Value) (osl : Array (Option Value)) (ca : Value) (cb : Option Addr) (c3 : Array (Option Value)) (ka : Value) (kb : Option Addr) (kc : Array (Option Value)) (vs : Array Value) (fl : Str) (tf : Tok) : Prop where
  lk : K.lookup C = some (excClassObj nm qn C N bs bm true sn sub ab col dd k0 k1 k2 k3 k5 "ValueError.__new__")
  rv : PySem.HandSPX.refsVE bm = true
  sa : PySem.W.findIn K (.ref C) "__setattr__" = some (some (.builtin "object.__setattr__"))
  exC : PySem.W.subIn K (.ref C) (.type "BaseException") = some true
  tyC : PySem.W.typeIn K (.ref C) = some (.type "type")
  kC : PySem.W.keepIn K (.ref C) = true
  cell : K.lookup cc = some ⟨ca, cb, .cell (some (.ref C)), c3⟩
  code : K.lookup c = some ⟨ka, kb, .fields vs, kc⟩
  v2 : vs[2]? = some (.str fl tf)
  file : ((pr.main.file : Str) == fl) = true
  hsub : PySem.W.mroIn K C (.ref C) = some true
  sup : PySem.W.ks_superIn K C C "__init__" = some (some (.builtin "ValueError.__init__"))
  sB : PySem.W.subIn K (.ref C) (.type "ValueError") = some true
  op : PySem.W.nsIn K cStatics "thirdparty.any" = some none
  cd : PySem.W.codeIn K (.ref c) q = true
  fn : K.lookup f = some ⟨oc, od, .func (PySem.W.fnX "__init__" q (defArgs st) (defBody st) (defScope st) [(("__class__" : Str), cc)] .none kV doc pm an (.ref c) ct), osl⟩
  hno : PySem.W.findIn K (.ref C) "field" = some none
  ini : PySem.W.findIn K (.ref C) "__init__" = some (some (.ref f))
  tI : PySem.W.typeIn K (.ref f) = some (.type "function")
theorem kit_self {K : PySem.W.Frag} {a : Addr} : PySem.W.kitOne K (.ref a) (.ref a) = some true := if_pos (c := ((Value.ref a) == (Value.ref a)) = true) (beq_self_eq_true (Value.ref a))
theorem cls_of {K : PySem.W.Frag} {t : Value} {C : Addr} {b : Bool} (i : PySem.W.isClsIn K C = true) (ty : PySem.W.typeIn K (.ref C) = some (.type "type")) (s : PySem.W.subIn K t (.ref C) = some b) : PySem.W.kitCls K t (.ref C) = some b := by
  have i' : (PySem.W.clsIn K C).isSome = true := i
  show (if ((PySem.W.clsIn K C).isSome && PySem.W.typeIn K (.ref C) == some (.type "type")) = true then PySem.W.subIn K t (.ref C) else none) = some b
  rw [i', ty]
  exact s
theorem kit_yes {K : PySem.W.Frag} {t : Value} {C : Addr} (i : PySem.W.isClsIn K C = true) (ty : PySem.W.typeIn K (.ref C) = some (.type "type")) (s : PySem.W.subIn K t (.ref C) = some true) : PySem.W.kitOne K t (.ref C) = some true := by
  unfold PySem.W.kitOne
  split
  · rfl
  · exact cls_of i ty s
theorem kit_no {K : PySem.W.Frag} {t : Value} {C : Addr} (i : PySem.W.isClsIn K C = true) (ty : PySem.W.typeIn K (.ref C) = some (.type "type")) (s : PySem.W.subIn K t (.ref C) = some false) (q : (t == .ref C) = false) : PySem.W.kitOne K t (.ref C) = some false := by
  unfold PySem.W.kitOne
  rw [q]
  exact cls_of i ty s
theorem kit_ve {K : PySem.W.Frag} {D : Addr} (s : PySem.W.subIn K (.ref D) (.type "ValueError") = some true) : PySem.W.kitOne K (.ref D) (.type "ValueError") = some true := by
  unfold PySem.W.kitOne
  split
  · rfl
  · show (if PySem.W.kitMeta "ValueError" = true then PySem.W.subIn K (.ref D) (.type "ValueError") else none) = some true
    rw [show PySem.W.kitMeta "ValueError" = true by decide +kernel]
    exact s
theorem exm_yes {K : PySem.W.Frag} {t : Value} {C : Addr} (b : PySem.W.subIn K (.ref C) (.type "BaseException") = some true) (i : PySem.W.isClsIn K C = true) (ty : PySem.W.typeIn K (.ref C) = some (.type "type")) (s : PySem.W.subIn K t (.ref C) = some true) : PySem.W.exmOne K t (.ref C) = some true := by
  unfold PySem.W.exmOne
  rw [b]
  exact cls_of i ty s
/-- what the top has left of the classes -/
structure LeftC (K : PySem.W.Frag) (C CN CU CT CW CL CB c1 c2 c3 : Addr) : Prop where
  n_C : PySem.W.nsIn K mainGlobals "Round" = some (some (.ref C))
  n_NoRound : PySem.W.nsIn K mainGlobals "NoRound" = some (some (.ref CN))
  n_NoNumber : PySem.W.nsIn K mainGlobals "NoNumber" = some (some (.ref CU))
  n_Wrong : PySem.W.nsIn K mainGlobals "Wrong" = some (some (.ref CW))
  n_LightsError : PySem.W.nsIn K mainGlobals "LightsError" = some (some (.ref CL))
  n_Barred : PySem.W.nsIn K mainGlobals "Barred" = some (some (.ref CB))
  n_NoBoat : PySem.W.nsIn K mainGlobals "NoBoat" = some (some (.ref c1))
  n_NoDay : PySem.W.nsIn K mainGlobals "NoDay" = some (some (.ref c2))
  n_NoSlot : PySem.W.nsIn K mainGlobals "NoSlot" = some (some (.ref c3))
  n_TooMany : PySem.W.nsIn K mainGlobals "TooMany" = some (some (.ref CT))
  pg : PySem.W.plainGet K C Str.empty = true
  hd : PySem.W.hasDictIn K C = true
  po : PySem.W.plainOver K C = true
  sa : PySem.W.findIn K (.ref C) "__setattr__" = some (some (.builtin "object.__setattr__"))
  f1 : PySem.W.findIn K (.ref C) "slots_on" = some none
  f2 : PySem.W.findIn K (.ref C) "slots_off" = some none
  f3 : PySem.W.findIn K (.ref C) "first_slots" = some none
  kC : PySem.W.keepIn K (.ref C) = true
  mks : PySem.W.makesIn K C = true
  cn : PySem.W.specialIn K (.builtin "object.__class__") "__get__" = some (some (.builtin "getset_descriptor.__get__"))
  ct : PySem.W.takesIn K (.builtin "object.__class__") = some true
  egCN : PySem.W.findIn K (.ref CN) "__getattribute__" = some (some (.builtin "BaseException.__getattribute__"))
  ekCN : PySem.W.findIn K (.ref CN) "__getattr__" = some none
  edCN : PySem.W.hasDictIn K CN = true
  eaCN : PySem.W.findIn K (.ref CN) "__class__" = some (some (.builtin "object.__class__"))
  emCN : PySem.W.mroIn K CN (.type "object") = some true
  egCU : PySem.W.findIn K (.ref CU) "__getattribute__" = some (some (.builtin "BaseException.__getattribute__"))
  ekCU : PySem.W.findIn K (.ref CU) "__getattr__" = some none
  edCU : PySem.W.hasDictIn K CU = true
  eaCU : PySem.W.findIn K (.ref CU) "__class__" = some (some (.builtin "object.__class__"))
  emCU : PySem.W.mroIn K CU (.type "object") = some true
  x_CU : PySem.W.excIn K CU [.type "ValueError", .type "Exception", .type "BaseException", .type "object"] "ValueError.__new__" = true
  kCU : PySem.W.keepIn K (.ref CU) = true
  bCU : PySem.W.subIn K (.ref CU) (.type "BaseException") = some true
  tCU : PySem.W.typeIn K (.ref CU) = some (.type "type")
  x_CT : PySem.W.excIn K CT [.type "ValueError", .type "Exception", .type "BaseException", .type "object"] "ValueError.__new__" = true
  kCT : PySem.W.keepIn K (.ref CT) = true
  bCT : PySem.W.subIn K (.ref CT) (.type "BaseException") = some true
  tCT : PySem.W.typeIn K (.ref CT) = some (.type "type")
  iCU : PySem.W.isClsIn K CU = true
  iCN : PySem.W.isClsIn K CN = true
  sVCU : PySem.W.subIn K (.ref CU) (.type "ValueError") = some true
  bL : PySem.W.subIn K (.ref CL) (.type "BaseException") = some true
  iCW : PySem.W.isClsIn K CW = true
  tCW : PySem.W.typeIn K (.ref CW) = some (.type "type")
  iCL : PySem.W.isClsIn K CL = true
  tCL : PySem.W.typeIn K (.ref CL) = some (.type "type")
  iCB : PySem.W.isClsIn K CB = true
  tCB : PySem.W.typeIn K (.ref CB) = some (.type "type")
  ic1 : PySem.W.isClsIn K c1 = true
  tc1 : PySem.W.typeIn K (.ref c1) = some (.type "type")
  ic2 : PySem.W.isClsIn K c2 = true
  tc2 : PySem.W.typeIn K (.ref c2) = some (.type "type")
  ic3 : PySem.W.isClsIn K c3 = true
  tc3 : PySem.W.typeIn K (.ref c3) = some (.type "type")
  sCNCW : PySem.W.subIn K (.ref CN) (.ref CW) = some true
  sCNCL : PySem.W.subIn K (.ref CN) (.ref CL) = some true
  sCNCB : PySem.W.subIn K (.ref CN) (.ref CB) = some false
  qCNCB : ((Value.ref CN) == (Value.ref CB)) = false
  sCNc1 : PySem.W.subIn K (.ref CN) (.ref c1) = some false
  qCNc1 : ((Value.ref CN) == (Value.ref c1)) = false
  sCNc2 : PySem.W.subIn K (.ref CN) (.ref c2) = some false
  qCNc2 : ((Value.ref CN) == (Value.ref c2)) = false
  sCNc3 : PySem.W.subIn K (.ref CN) (.ref c3) = some false
  qCNc3 : ((Value.ref CN) == (Value.ref c3)) = false
  sCNCU : PySem.W.subIn K (.ref CN) (.ref CU) = some false
  qCNCU : ((Value.ref CN) == (Value.ref CU)) = false
  sCUCW : PySem.W.subIn K (.ref CU) (.ref CW) = some true
  sCUCL : PySem.W.subIn K (.ref CU) (.ref CL) = some true
  sCUCB : PySem.W.subIn K (.ref CU) (.ref CB) = some false
  qCUCB : ((Value.ref CU) == (Value.ref CB)) = false
  sCUc1 : PySem.W.subIn K (.ref CU) (.ref c1) = some false
  qCUc1 : ((Value.ref CU) == (Value.ref c1)) = false
  sCUc2 : PySem.W.subIn K (.ref CU) (.ref c2) = some false
  qCUc2 : ((Value.ref CU) == (Value.ref c2)) = false
  sCUc3 : PySem.W.subIn K (.ref CU) (.ref c3) = some false
  qCUc3 : ((Value.ref CU) == (Value.ref c3)) = false
  sCUCN : PySem.W.subIn K (.ref CU) (.ref CN) = some false
  qCUCN : ((Value.ref CU) == (Value.ref CN)) = false
theorem all_mk {l : PySem.W.OpenLaw} {w : World} {K : PySem.W.Frag} {h : Heap} {mg : Str → Option Value} {fa : Addr} (X : K.In h) (G : h.Ns mainGlobals mg) (hfa : mg "law" = some (.ref fa))
    {C CN CU CT CW CL CB c1 c2 c3 : Addr} (D : LeftC K C CN CU CT CW CL CB c1 c2 c3)
    {fN ccN cdN : Addr} {nmN qnN : Str} {NN : Addr} {bsN bmN : List Value} {snN : List Str} {subN : List Value} {abN : Bool} {colN : Option Bool} {ddN : Option Addr} {k0N k1N k2N k3N k5N : Option Value} {ocN : Value} {odN : Option Addr} {kVN docN pmN : Value} {anN : Option Addr} {ctN : Value} {oslN : Array (Option Value)} {caN : Value} {cbN : Option Addr} {c3N : Array (Option Value)} {kaN : Value} {kbN : Option Addr} {kcN : Array (Option Value)} {vsN : Array Value} {flN : Str} {tfN : Tok} (EN : LeftE K l.prog "NoRound.__init__" s_NoRound___init__ CN fN ccN cdN nmN qnN NN bsN bmN snN subN abN colN ddN k0N k1N k2N k3N k5N ocN odN kVN docN pmN anN ctN oslN caN cbN c3N kaN kbN kcN vsN flN tfN)
    {fI : Addr} {ocI : Value} {odI anI : Option Addr} {kVI dcI pmI cdI ctI : Value} {slI : Array (Option Value)} (FI : LeftM K C "__init__" "Round.__init__" s_Round___init__ fI ocI odI anI kVI dcI pmI cdI ctI slI)
    {fwh : Addr} {ocwh : Value} {odwh anwh : Option Addr} {kVwh dcwh pmwh cdwh ctwh : Value} {slwh : Array (Option Value)} (Fwh : Left K "is_whole" s_is_whole fwh ocwh odwh anwh kVwh dcwh pmwh cdwh ctwh slwh)
    {ffr : Addr} {ocfr : Value} {odfr anfr : Option Addr} {kVfr dcfr pmfr cdfr ctfr : Value} {slfr : Array (Option Value)} (Ffr : Left K "is_from" s_is_from ffr ocfr odfr anfr kVfr dcfr pmfr cdfr ctfr slfr)
    {fwi : Addr} {ocwi : Value} {odwi anwi : Option Addr} {kVwi dcwi pmwi cdwi ctwi : Value} {slwi : Array (Option Value)} (Fwi : Left K "is_within" s_is_within fwi ocwi odwi anwi kVwi dcwi pmwi cdwi ctwi slwi)
    {fpa : Addr} {ocpa : Value} {odpa anpa : Option Addr} {kVpa dcpa pmpa cdpa ctpa : Value} {slpa : Array (Option Value)} (Fpa : Left K "parts_for" s_parts_for fpa ocpa odpa anpa kVpa dcpa pmpa cdpa ctpa slpa)
    {fev : Addr} {ocev : Value} {odev anev : Option Addr} {kVev dcev pmev cdev ctev : Value} {slev : Array (Option Value)} (Fev : Left K "even_round" s_even_round fev ocev odev anev kVev dcev pmev cdev ctev slev)
    {fke : Addr} {ocke : Value} {odke anke : Option Addr} {kVke dcke pmke cdke ctke : Value} {slke : Array (Option Value)} (Fke : Left K "keeping" s_keeping fke ocke odke anke kVke dcke pmke cdke ctke slke)
    {fch : Addr} {occh : Value} {odch anch : Option Addr} {kVch dcch pmch cdch ctch : Value} {slch : Array (Option Value)} (Fch : Left K "check_turns" s_check_turns fch occh odch anch kVch dcch pmch cdch ctch slch)
    {fbe : Addr} {ocbe : Value} {odbe anbe : Option Addr} {kVbe dcbe pmbe cdbe ctbe : Value} {slbe : Array (Option Value)} (Fbe : Left K "are_begins" s_are_begins fbe ocbe odbe anbe kVbe dcbe pmbe cdbe ctbe slbe)
    {fce : Addr} {occe : Value} {odce ance : Option Addr} {kVce dcce pmce cdce ctce : Value} {slce : Array (Option Value)} (Fce : Left K "_law_cell" s__law_cell fce occe odce ance kVce dcce pmce cdce ctce slce)
    {fpo : Addr} {ocpo : Value} {odpo anpo : Option Addr} {kVpo dcpo pmpo cdpo ctpo : Value} {slpo : Array (Option Value)} (Fpo : Left K "_law_pot" s__law_pot fpo ocpo odpo anpo kVpo dcpo pmpo cdpo ctpo slpo)
    {fta : Addr} {octa : Value} {odta anta : Option Addr} {kVta dcta pmta cdta ctta : Value} {slta : Array (Option Value)} (Fta : Left K "_law_take" s__law_take fta octa odta anta kVta dcta pmta cdta ctta slta)
    {fno : Addr} {ocno : Value} {odno anno : Option Addr} {kVno dcno pmno cdno ctno : Value} {slno : Array (Option Value)} (Fno : Left K "_law_none" s__law_none fno ocno odno anno kVno dcno pmno cdno ctno slno)
    {fto : Addr} {octo : Value} {odto anto : Option Addr} {kVto dcto pmto cdto ctto : Value} {slto : Array (Option Value)} (Fto : Left K "_law_told" s__law_told fto octo odto anto kVto dcto pmto cdto ctto slto)
    {fdu : Addr} {ocdu : Value} {oddu andu : Option Addr} {kVdu dcdu pmdu cddu ctdu : Value} {sldu : Array (Option Value)} (Fdu : Left K "_law_due" s__law_due fdu ocdu oddu andu kVdu dcdu pmdu cddu ctdu sldu)
    {ftr : Addr} {octr : Value} {odtr antr : Option Addr} {kVtr dctr pmtr cdtr cttr : Value} {sltr : Array (Option Value)} (Ftr : Left K "_law_truths_right" s__law_truths_right ftr octr odtr antr kVtr dctr pmtr cdtr cttr sltr)
    {fW : Addr} {ocW : Value} {odW anW : Option Addr} {kVW dcW pmW cdW ctW : Value} {slW : Array (Option Value)} (FW : Left K "law" s_law fW ocW odW anW kVW dcW pmW cdW ctW slW)
    (pT : (l.prog.main.scope.names.lookup ("super" : Str)).isSome = false)
    {tM : Tok} (x_M : PySem.W.nsIn K mainGlobals "MOST_KEEPERS" = some (some (.int 40 tM)))
    (z_isinstance : PySem.W.nsIn K mainGlobals "isinstance" = some none)
    (z_int : PySem.W.nsIn K mainGlobals "int" = some none)
    (z_bool : PySem.W.nsIn K mainGlobals "bool" = some none)
    (z_len : PySem.W.nsIn K mainGlobals "len" = some none)
    (z_abs : PySem.W.nsIn K mainGlobals "abs" = some none)
    (z_max : PySem.W.nsIn K mainGlobals "max" = some none)
    (z_min : PySem.W.nsIn K mainGlobals "min" = some none)
    (z_divmod : PySem.W.nsIn K mainGlobals "divmod" = some none)
    (z_range : PySem.W.nsIn K mainGlobals "range" = some none)
    (z_repr : PySem.W.nsIn K mainGlobals "repr" = some none)
    (z_zip : PySem.W.nsIn K mainGlobals "zip" = some none)
    (z_ValueError : PySem.W.nsIn K mainGlobals "ValueError" = some none)
    (z_all : PySem.W.nsIn K mainGlobals "all" = some none)
    (z_any : PySem.W.nsIn K mainGlobals "any" = some none)
    (z_sum : PySem.W.nsIn K mainGlobals "sum" = some none)
    (z_sorted : PySem.W.nsIn K mainGlobals "sorted" = some none)
    (z_list : PySem.W.nsIn K mainGlobals "list" = some none)
    (z_tuple : PySem.W.nsIn K mainGlobals "tuple" = some none)
    (z_dict : PySem.W.nsIn K mainGlobals "dict" = some none)
    (z_enumerate : PySem.W.nsIn K mainGlobals "enumerate" = some none)
    (z_reversed : PySem.W.nsIn K mainGlobals "reversed" = some none)
    (z_str : PySem.W.nsIn K mainGlobals "str" = some none)
    (z_set : PySem.W.nsIn K mainGlobals "set" = some none)
    (z_super : PySem.W.nsIn K mainGlobals "super" = some none)
    : ∃ fd : FuncData, (∀ (s : Shared) (v : Value), BindsTo s fd ⟨[v], []⟩ [("_law_script", v)]) ∧
      ∀ base : Heap, K.In base → base.Ns mainGlobals mg → FnG l.prog w K mg base CX0 10 fa fd ["_law_script"] (spLaw K) := by
  have e := hfa.symm.trans (PySem.W.mg_of X G FW.ns)
  cases e
  have N : ∀ {x : Str}, PySem.W.nsIn K mainGlobals x = some none → mg x = none := fun z => PySem.W.mg_none_of X G z
  have Bwh : Has K mg "is_whole" ["thing"] s_is_whole _ _ := ⟨Fwh.fn, Fwh.fn.binds fun _ _ _ _ _ _ us hl => match us, hl with | [_], _ => rfl, PySem.W.mg_of X G Fwh.ns⟩
  have Bfr : Has K mg "is_from" ["thing", "least"] s_is_from _ _ := ⟨Ffr.fn, Ffr.fn.binds fun _ _ _ _ _ _ us hl => match us, hl with | [_, _], _ => rfl, PySem.W.mg_of X G Ffr.ns⟩
  have Bwi : Has K mg "is_within" ["thing", "least", "most"] s_is_within _ _ := ⟨Fwi.fn, Fwi.fn.binds fun _ _ _ _ _ _ us hl => match us, hl with | [_, _, _], _ => rfl, PySem.W.mg_of X G Fwi.ns⟩
  have Bpa : Has K mg "parts_for" ["many", "most"] s_parts_for _ _ := ⟨Fpa.fn, Fpa.fn.binds fun _ _ _ _ _ _ us hl => match us, hl with | [_, _], _ => rfl, PySem.W.mg_of X G Fpa.ns⟩
  have Bev : Has K mg "even_round" ["on", "off", "many"] s_even_round _ _ := ⟨Fev.fn, Fev.fn.binds fun _ _ _ _ _ _ us hl => match us, hl with | [_, _, _], _ => rfl, PySem.W.mg_of X G Fev.ns⟩
  have Bke : Has K mg "keeping" ["many", "on", "off"] s_keeping _ _ := ⟨Fke.fn, Fke.fn.binds fun _ _ _ _ _ _ us hl => match us, hl with | [_, _, _], _ => rfl, PySem.W.mg_of X G Fke.ns⟩
  have Bch : Has K mg "check_turns" ["on", "off"] s_check_turns _ _ := ⟨Fch.fn, Fch.fn.binds fun _ _ _ _ _ _ us hl => match us, hl with | [_, _], _ => rfl, PySem.W.mg_of X G Fch.ns⟩
  have Bbe : Has K mg "are_begins" ["thing", "whole"] s_are_begins _ _ := ⟨Fbe.fn, Fbe.fn.binds fun _ _ _ _ _ _ us hl => match us, hl with | [_, _], _ => rfl, PySem.W.mg_of X G Fbe.ns⟩
  have Bce : Has K mg "_law_cell" ["_law_script", "_law_k"] s__law_cell _ _ := ⟨Fce.fn, Fce.fn.binds fun _ _ _ _ _ _ us hl => match us, hl with | [_, _], _ => rfl, PySem.W.mg_of X G Fce.ns⟩
  have Bpo : Has K mg "_law_pot" ["_law_script", "_law_k"] s__law_pot _ _ := ⟨Fpo.fn, Fpo.fn.binds fun _ _ _ _ _ _ us hl => match us, hl with | [_, _], _ => rfl, PySem.W.mg_of X G Fpo.ns⟩
  have Bta : Has K mg "_law_take" ["_law_pot_here", "_law_many"] s__law_take _ _ := ⟨Fta.fn, Fta.fn.binds fun _ _ _ _ _ _ us hl => match us, hl with | [_, _], _ => rfl, PySem.W.mg_of X G Fta.ns⟩
  have Bno : Has K mg "_law_none" ["_law_pot_here", "_law_least"] s__law_none _ _ := ⟨Fno.fn, Fno.fn.binds fun _ _ _ _ _ _ us hl => match us, hl with | [_, _], _ => rfl, PySem.W.mg_of X G Fno.ns⟩
  have Bto : Has K mg "_law_told" ["_law_way", "_law_on", "_law_off", "_law_many"] s__law_told _ _ := ⟨Fto.fn, Fto.fn.binds fun _ _ _ _ _ _ us hl => match us, hl with | [_, _, _, _], _ => rfl, PySem.W.mg_of X G Fto.ns⟩
  have Bdu : Has K mg "_law_due" ["_law_bad"] s__law_due _ _ := ⟨Fdu.fn, Fdu.fn.binds fun _ _ _ _ _ _ us hl => match us, hl with | [_], _ => rfl, PySem.W.mg_of X G Fdu.ns⟩
  have Btr : Has K mg "_law_truths_right" ["_law_way"] s__law_truths_right _ _ := ⟨Ftr.fn, Ftr.fn.binds fun _ _ _ _ _ _ us hl => match us, hl with | [_], _ => rfl, PySem.W.mg_of X G Ftr.ns⟩
  have bI : L2.Binds K _ ["self", "on", "off", "begins"] [] := FI.fn.binds fun _ _ _ _ _ _ us hl => match us, hl with | [_, _, _, _], _ => rfl
  have SN : SupC K l.prog mg CN ccN (nfI s_NoRound___init__ "NoRound.__init__" ccN cdN) (arI s_NoRound___init__) := ⟨⟨⟨nmN, qnN, NN, bsN, bmN, snN, subN, abN, colN, ddN, k0N, k1N, k2N, k3N, k5N, EN.lk, EN.rv⟩, EN.sa, EN.exC, EN.tyC, EN.kC⟩, rfl, ⟨_, _, _, EN.cell⟩, ⟨_, _, _, _, _, _, EN.code, EN.v2, EN.file⟩, EN.hsub, EN.sup, EN.sB, EN.op, rfl, EN.cd, rfl, pT, N z_super⟩
  have T : Tx mg := ⟨N z_isinstance, N z_int, N z_bool, N z_len, N z_abs, N z_max, N z_min, N z_divmod, N z_range, N z_repr, N z_zip, N z_ValueError, N z_all, N z_any, N z_sum, N z_sorted, N z_list, N z_tuple, N z_dict, N z_enumerate, N z_reversed, N z_str, N z_set⟩
  have U : Ev K mg "NoNumber" CU := ⟨PySem.W.mg_of X G D.n_NoNumber, D.x_CU, D.kCU, D.bCU, D.tCU⟩
  have V' : Ev K mg "TooMany" CT := ⟨PySem.W.mg_of X G D.n_TooMany, D.x_CT, D.kCT, D.bCT, D.tCT⟩
  have Eg' : Eg mg CN CU CW CL CB c1 c2 c3 := ⟨PySem.W.mg_of X G D.n_NoRound, PySem.W.mg_of X G D.n_NoNumber, PySem.W.mg_of X G D.n_Wrong, PySem.W.mg_of X G D.n_LightsError, PySem.W.mg_of X G D.n_Barred, PySem.W.mg_of X G D.n_NoBoat, PySem.W.mg_of X G D.n_NoDay, PySem.W.mg_of X G D.n_NoSlot⟩
  have RN : Eo K CN CN CU CW CL CB c1 c2 c3 true false := ⟨⟨D.egCN, D.ekCN, EN.exC, D.edCN, D.eaCN, D.cn, D.ct, D.emCN⟩, kit_self, kit_no D.iCU D.tCU D.sCNCU D.qCNCU, kitAny_cons (kit_no D.iCB D.tCB D.sCNCB D.qCNCB) (fun _ => kitAny_cons (kit_no D.ic1 D.tc1 D.sCNc1 D.qCNc1) (fun _ => kitAny_cons (kit_no D.ic2 D.tc2 D.sCNc2 D.qCNc2) (fun _ => kitAny_cons (kit_no D.ic3 D.tc3 D.sCNc3 D.qCNc3) (fun _ => rfl) nofun) nofun) nofun) nofun, kit_yes D.iCW D.tCW D.sCNCW, kit_ve EN.sB, exm_yes D.bL D.iCL D.tCL D.sCNCL⟩
  have RU : Eo K CU CN CU CW CL CB c1 c2 c3 false true := ⟨⟨D.egCU, D.ekCU, D.bCU, D.edCU, D.eaCU, D.cn, D.ct, D.emCU⟩, kit_no D.iCN EN.tyC D.sCUCN D.qCUCN, kit_self, kitAny_cons (kit_no D.iCB D.tCB D.sCUCB D.qCUCB) (fun _ => kitAny_cons (kit_no D.ic1 D.tc1 D.sCUc1 D.qCUc1) (fun _ => kitAny_cons (kit_no D.ic2 D.tc2 D.sCUc2 D.qCUc2) (fun _ => kitAny_cons (kit_no D.ic3 D.tc3 D.sCUc3 D.qCUc3) (fun _ => rfl) nofun) nofun) nofun) nofun, kit_yes D.iCW D.tCW D.sCUCW, kit_ve D.sVCU, exm_yes D.bL D.iCL D.tCL D.sCUCL⟩
  have DS : Ds K l.prog mg C CN := ⟨⟨_, PySem.W.mg_of X G x_M⟩, ⟨⟨D.pg, D.hd, D.po, D.sa⟩, D.f1, D.f2, D.f3, PySem.W.mg_of X G D.n_C, D.kC⟩, ⟨_, _, _, _, ⟨SN, ⟨_, _, _, _, _, _, _, _, _, rfl, EN.fn⟩, EN.hno, EN.ini, EN.tI, .all (fun us hl => match us, hl with | [_, _], _ => rfl), PySem.W.mg_of X G D.n_NoRound⟩⟩, ⟨_, _, ⟨D.mks, FI.at_, FI.isf, D.kC⟩, FI.fn, bI⟩, ⟨_, _, Bev⟩, ⟨_, _, Bke⟩, ⟨_, _, Bpa⟩, ⟨_, _, Bch⟩, ⟨_, _, Bbe⟩, ⟨_, _, Bfr⟩, ⟨_, _, Bwi⟩, ⟨_, _, Bwh⟩⟩
  have LS : Ls K mg := ⟨⟨_, _, Bce⟩, ⟨_, _, Bpo⟩, ⟨_, _, Bta⟩, ⟨_, _, Bno⟩, ⟨_, _, Bto⟩, ⟨_, _, Bdu⟩, ⟨_, _, Btr⟩⟩
  exact ⟨_, fun s v => .of_eq rfl, fun base _ _ => ok_law FW.fn T DS LS U V' ⟨D.egCN, D.ekCN, EN.exC, D.edCN⟩ Eg' RN RU⟩
end K48
open PySem PySem.W PyProof.Rows
set_option maxHeartbeats 0 in
theorem PySem.Challenge.cw_lightturns_k48_even_and_keeping_refused_holds : PySem.Challenge.rw_lightturns_k48_even_and_keeping_refused.Holds := by
  w_on; o_law; k_head; (case hw => w_witness2)
  k_fill
  refine LT.end_of (l := PySem.Challenge.rw_lightturns_k48_even_and_keeping_refused) (n := 63) (k := 10) (x := "_law_script") (CX := fun _ => L2.CX0) (sp := fun w => K48.spLaw _) rfl (by decide) rfl ⟨rfl, by decide, by decide⟩ (fun w h Y => PySem.W.kIn_of Y) ?F (fun _ _ a ns hl hb _ hS => ⟨a, ns, rfl, hS, hl, fun _ => rfl⟩) (fun _ _ _ _ _ h => h)
  case F =>
    intro w mg fa h KX G hmg
    refine' K48.all_mk (l := PySem.Challenge.rw_lightturns_k48_even_and_keeping_refused) KX G hmg ⟨?d_n_C, ?d_n_NoRound, ?d_n_NoNumber, ?d_n_Wrong, ?d_n_LightsError, ?d_n_Barred, ?d_n_NoBoat, ?d_n_NoDay, ?d_n_NoSlot, ?d_n_TooMany, ?d_pg, ?d_hd, ?d_po, ?d_sa, ?d_f1, ?d_f2, ?d_f3, ?d_kC, ?d_mks, ?d_cn, ?d_ct, ?d_egCN, ?d_ekCN, ?d_edCN, ?d_eaCN, ?d_emCN, ?d_egCU, ?d_ekCU, ?d_edCU, ?d_eaCU, ?d_emCU, ?d_x_CU, ?d_kCU, ?d_bCU, ?d_tCU, ?d_x_CT, ?d_kCT, ?d_bCT, ?d_tCT, ?d_iCU, ?d_iCN, ?d_sVCU, ?d_bL, ?d_iCW, ?d_tCW, ?d_iCL, ?d_tCL, ?d_iCB, ?d_tCB, ?d_ic1, ?d_tc1, ?d_ic2, ?d_tc2, ?d_ic3, ?d_tc3, ?d_sCNCW, ?d_sCNCL, ?d_sCNCB, ?d_qCNCB, ?d_sCNc1, ?d_qCNc1, ?d_sCNc2, ?d_qCNc2, ?d_sCNc3, ?d_qCNc3, ?d_sCNCU, ?d_qCNCU, ?d_sCUCW, ?d_sCUCL, ?d_sCUCB, ?d_qCUCB, ?d_sCUc1, ?d_qCUc1, ?d_sCUc2, ?d_qCUc2, ?d_sCUc3, ?d_qCUc3, ?d_sCUCN, ?d_qCUCN⟩ ⟨?e_N_lk, ?e_N_rv, ?e_N_sa, ?e_N_exC, ?e_N_tyC, ?e_N_kC, ?e_N_cell, ?e_N_code, ?e_N_v2, ?e_N_file, ?e_N_hsub, ?e_N_sup, ?e_N_sB, ?e_N_op, ?e_N_cd, ?e_N_fn, ?e_N_hno, ?e_N_ini, ?e_N_tI⟩ ⟨?m_I_at, ?m_I_lk, ?m_I_cd, ?m_I_kp, ?m_I_isf⟩ ⟨?f_wh_ns, ?f_wh_lk, ?f_wh_cd, ?f_wh_kp⟩ ⟨?f_fr_ns, ?f_fr_lk, ?f_fr_cd, ?f_fr_kp⟩ ⟨?f_wi_ns, ?f_wi_lk, ?f_wi_cd, ?f_wi_kp⟩ ⟨?f_pa_ns, ?f_pa_lk, ?f_pa_cd, ?f_pa_kp⟩ ⟨?f_ev_ns, ?f_ev_lk, ?f_ev_cd, ?f_ev_kp⟩ ⟨?f_ke_ns, ?f_ke_lk, ?f_ke_cd, ?f_ke_kp⟩ ⟨?f_ch_ns, ?f_ch_lk, ?f_ch_cd, ?f_ch_kp⟩ ⟨?f_be_ns, ?f_be_lk, ?f_be_cd, ?f_be_kp⟩ ⟨?f_ce_ns, ?f_ce_lk, ?f_ce_cd, ?f_ce_kp⟩ ⟨?f_po_ns, ?f_po_lk, ?f_po_cd, ?f_po_kp⟩ ⟨?f_ta_ns, ?f_ta_lk, ?f_ta_cd, ?f_ta_kp⟩ ⟨?f_no_ns, ?f_no_lk, ?f_no_cd, ?f_no_kp⟩ ⟨?f_to_ns, ?f_to_lk, ?f_to_cd, ?f_to_kp⟩ ⟨?f_du_ns, ?f_du_lk, ?f_du_cd, ?f_du_kp⟩ ⟨?f_tr_ns, ?f_tr_lk, ?f_tr_cd, ?f_tr_kp⟩ ⟨?f_W_ns, ?f_W_lk, ?f_W_cd, ?f_W_kp⟩ ?p_T ?x_M ?z_isinstance ?z_int ?z_bool ?z_len ?z_abs ?z_max ?z_min ?z_divmod ?z_range ?z_repr ?z_zip ?z_ValueError ?z_all ?z_any ?z_sum ?z_sorted ?z_list ?z_tuple ?z_dict ?z_enumerate ?z_reversed ?z_str ?z_set ?z_super
    (case d_n_C => k_is)
    (case d_n_NoRound => k_is)
    (case d_n_NoNumber => k_is)
    (case d_n_Wrong => k_is)
    (case d_n_LightsError => k_is)
    (case d_n_Barred => k_is)
    (case d_n_NoBoat => k_is)
    (case d_n_NoDay => k_is)
    (case d_n_NoSlot => k_is)
    (case d_n_TooMany => k_is)
    (case m_I_at => k_is)
    (case f_wh_ns => k_is)
    (case f_fr_ns => k_is)
    (case f_wi_ns => k_is)
    (case f_pa_ns => k_is)
    (case f_ev_ns => k_is)
    (case f_ke_ns => k_is)
    (case f_ch_ns => k_is)
    (case f_be_ns => k_is)
    (case f_ce_ns => k_is)
    (case f_po_ns => k_is)
    (case f_ta_ns => k_is)
    (case f_no_ns => k_is)
    (case f_to_ns => k_is)
    (case f_du_ns => k_is)
    (case f_tr_ns => k_is)
    (case f_W_ns => k_is)
    (case x_M => k_is)
    (case e_N_lk => k_is)
    (case e_N_ini => k_is)
    (case e_N_fn => k_is)
    (case m_I_lk => k_is)
    (case f_wh_lk => k_is)
    (case f_fr_lk => k_is)
    (case f_wi_lk => k_is)
    (case f_pa_lk => k_is)
    (case f_ev_lk => k_is)
    (case f_ke_lk => k_is)
    (case f_ch_lk => k_is)
    (case f_be_lk => k_is)
    (case f_ce_lk => k_is)
    (case f_po_lk => k_is)
    (case f_ta_lk => k_is)
    (case f_no_lk => k_is)
    (case f_to_lk => k_is)
    (case f_du_lk => k_is)
    (case f_tr_lk => k_is)
    (case f_W_lk => k_is)
    (case e_N_cell => k_is)
    (case e_N_code => k_is)
    (case e_N_v2 => rfl)
    (case e_N_rv => kernel_rfl)
    (case e_N_sa => k_is)
    (case e_N_exC => k_is)
    (case e_N_tyC => k_is)
    (case e_N_kC => k_is)
    (case e_N_file => decide +kernel)
    (case e_N_hsub => k_is)
    (case e_N_sup => ks_is)
    (case e_N_sB => k_is)
    (case e_N_op => k_is)
    (case e_N_cd => k_is)
    (case e_N_hno => k_is)
    (case e_N_tI => k_is)
    (case d_pg => k_is)
    (case d_hd => k_is)
    (case d_po => k_is)
    (case d_sa => k_is)
    (case d_f1 => k_is)
    (case d_f2 => k_is)
    (case d_f3 => k_is)
    (case d_kC => k_is)
    (case d_mks => k_is)
    (case d_cn => k_is)
    (case d_ct => k_is)
    (case d_egCN => k_is)
    (case d_ekCN => k_is)
    (case d_edCN => k_is)
    (case d_eaCN => k_is)
    (case d_emCN => k_is)
    (case d_egCU => k_is)
    (case d_ekCU => k_is)
    (case d_edCU => k_is)
    (case d_eaCU => k_is)
    (case d_emCU => k_is)
    (case d_x_CU => k_exc)
    (case d_kCU => k_is)
    (case d_bCU => k_is)
    (case d_tCU => k_is)
    (case d_x_CT => k_exc)
    (case d_kCT => k_is)
    (case d_bCT => k_is)
    (case d_tCT => k_is)
    (case d_iCU => k_is)
    (case d_iCN => k_is)
    (case d_sVCU => k_is)
    (case d_bL => k_is)
    (case d_iCW => k_is)
    (case d_tCW => k_is)
    (case d_iCL => k_is)
    (case d_tCL => k_is)
    (case d_iCB => k_is)
    (case d_tCB => k_is)
    (case d_ic1 => k_is)
    (case d_tc1 => k_is)
    (case d_ic2 => k_is)
    (case d_tc2 => k_is)
    (case d_ic3 => k_is)
    (case d_tc3 => k_is)
    (case d_sCNCW => k_is)
    (case d_sCNCL => k_is)
    (case d_sCNCB => k_is)
    (case d_qCNCB => rfl)
    (case d_sCNc1 => k_is)
    (case d_qCNc1 => rfl)
    (case d_sCNc2 => k_is)
    (case d_qCNc2 => rfl)
    (case d_sCNc3 => k_is)
    (case d_qCNc3 => rfl)
    (case d_sCNCU => k_is)
    (case d_qCNCU => rfl)
    (case d_sCUCW => k_is)
    (case d_sCUCL => k_is)
    (case d_sCUCB => k_is)
    (case d_qCUCB => rfl)
    (case d_sCUc1 => k_is)
    (case d_qCUc1 => rfl)
    (case d_sCUc2 => k_is)
    (case d_qCUc2 => rfl)
    (case d_sCUc3 => k_is)
    (case d_qCUc3 => rfl)
    (case d_sCUCN => k_is)
    (case d_qCUCN => rfl)
    (case m_I_cd => k_is)
    (case m_I_kp => k_is)
    (case m_I_isf => k_is)
    (case f_wh_cd => k_is)
    (case f_wh_kp => k_is)
    (case f_fr_cd => k_is)
    (case f_fr_kp => k_is)
    (case f_wi_cd => k_is)
    (case f_wi_kp => k_is)
    (case f_pa_cd => k_is)
    (case f_pa_kp => k_is)
    (case f_ev_cd => k_is)
    (case f_ev_kp => k_is)
    (case f_ke_cd => k_is)
    (case f_ke_kp => k_is)
    (case f_ch_cd => k_is)
    (case f_ch_kp => k_is)
    (case f_be_cd => k_is)
    (case f_be_kp => k_is)
    (case f_ce_cd => k_is)
    (case f_ce_kp => k_is)
    (case f_po_cd => k_is)
    (case f_po_kp => k_is)
    (case f_ta_cd => k_is)
    (case f_ta_kp => k_is)
    (case f_no_cd => k_is)
    (case f_no_kp => k_is)
    (case f_to_cd => k_is)
    (case f_to_kp => k_is)
    (case f_du_cd => k_is)
    (case f_du_kp => k_is)
    (case f_tr_cd => k_is)
    (case f_tr_kp => k_is)
    (case f_W_cd => k_is)
    (case f_W_kp => k_is)
    (case p_T => decide +kernel)
    (case z_isinstance => k_is)
    (case z_int => k_is)
    (case z_bool => k_is)
    (case z_len => k_is)
    (case z_abs => k_is)
    (case z_max => k_is)
    (case z_min => k_is)
    (case z_divmod => k_is)
    (case z_range => k_is)
    (case z_repr => k_is)
    (case z_zip => k_is)
    (case z_ValueError => k_is)
    (case z_all => k_is)
    (case z_any => k_is)
    (case z_sum => k_is)
    (case z_sorted => k_is)
    (case z_list => k_is)
    (case z_tuple => k_is)
    (case z_dict => k_is)
    (case z_enumerate => k_is)
    (case z_reversed => k_is)
    (case z_str => k_is)
    (case z_set => k_is)
    (case z_super => k_is)

