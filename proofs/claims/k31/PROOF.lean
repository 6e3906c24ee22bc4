import PyProof.Rows.All
import Wide.All
import OpenK.AllK
import Wide.FinOn
import HandS.ForMost
import HandS.IsInst
import HandS.Wide
import HandS.WideBits
import HandS.EndBits
import HandS.Style
import HandS.RaiseMore
import PyProof.ReprRoads
import PyProof.ListStr
import HandS.ForExc
import HandS.Exc
import HandS.ExcIs
import HandS.CallSlots
import HandS.HotCalls
import HandS.Defaults
import HandS.MakeKw
import HandS.MakeKwOnly
import HandS.Nested
import HandS.ExcInit
import KE.KExcSuper
import HandS.ExcField
import HandS.FStr
import HandS.Words
import KE.KExcIs
import HandS.Walk
import HandS.Flow
import PySem.Challenge.RW_lightturns_k31_boats_made
import HandS.Zip
set_option Elab.async false
set_option linter.all false
set_option maxRecDepth 100000
/-! Own layer: defs called where no repr is under way (FnG), repr of data, the end of a law by such a def. -/
namespace LT
open PySem PySem.Spec PyProof.Rows L2

structure FnG (P : Program) (w : World) (K : PySem.W.Frag) (mg : Str → Option Value) (base : Heap)
    (CX : CXT) (k : Nat) (f : Addr) (fd : FuncData) (ps : List Str) (sp : Sp) : Prop where
  argc : ∀ {vs : List V} {H : Hp} {Q : VK} {E : XK}, sp vs H Q E → vs.length = ps.length
  go : ∀ {A : Around} {outer : List Env} {s : Shared} {H : Hp} {args : Args} {us : List Value} {vs : List V}
    {Q : VK} {E : XK}, A.guards = some [] → Room k A → Env0 P w K mg base A outer s H →
    BindsTo s fd args (ps.zip us) → Vals vs us → sp vs H Q E →
    codeAny (model P w) A (.call (.ref f) args) (CR CX outer P w H s Q E) s

section
variable {P : Program} {w : World} {K : PySem.W.Frag} {mg : Str → Option Value} {base : Heap}
theorem FnG.of {CX : CXT} {k : Nat} {f : Addr} {fd : FuncData} {ps : List Str} {sp : Sp}
    (F : FnOk P w K mg base CX k f fd ps sp) : FnG P w K mg base CX k f fd ps sp :=
  ⟨fun h => F.len _ _ _ _ h, fun _ hr e b v h => F.run _ _ _ _ _ _ _ _ _ hr e b v h⟩

theorem okG {x qual : Str} {st : Stmt} {f : Addr} {fd : FuncData} {N ps : List Str} {k : Nat} {sp : Sp}
    (F : Fun K x qual st f fd) (S : FnScope N ps (defScope st))
    (argc : ∀ {vs : List V} {H : Hp} {Q : VK} {E : XK}, sp vs H Q E → vs.length = ps.length)
    (body : ∀ (cdv : Value) (A : Around) (outer : List Env) (s : Shared) (H : Hp) (vs : List V) (Q : VK) (E : XK),
      A.guards = some [] → Room k (A.deeper (envOfC qual (defScope st) s.heap.objs.size f cdv)) → sp vs H Q E →
      ∃ t, PSs (cxOf CX0 P w K mg base N qual (defScope st) f cdv A outer s H E).nox (defBody st) t ∧
        t { nx := fun _ H' => Q .non H', rt := Q } (start N vs) H) :
    FnG P w K mg base CX0 (k + 1) f fd ps sp := by
  obtain ⟨oc, od, kV, doc, pm, an, cdv, ct, osl, rfl, lk, hcd⟩ := F.ex
  refine ⟨argc, ?_⟩
  intro A outer s H args us vs Q E hg hr e0 hb r hsp
  have inS : ∀ b o, base.get? b = some o → s.heap.get? b = some o := fun b o e => (e0.bs b o e).1
  have KX : K.In s.heap := e0.mod.kin.keeps inS
  have hkind : ∀ y ∈ ps.zip us, (defScope st).names.lookup y.1 = some .local ∨
      ((defScope st).names.lookup y.1 = some .cell ∧
        ((cellsFrom (s.heap.objs.size + 1) (defScope st).names []).lookup y.1).isSome = true) := by
    rintro ⟨n, v⟩ hy
    rcases S.par n (List.of_mem_zip hy).1 with q | q
    · exact Or.inl q
    · exact Or.inr ⟨q, PySem.W.cellsFrom_some _ _ _ (Or.inl q)⟩
  refine codeAny_call_function hr.depth (KX _ _ lk) rfl S.co S.gen rfl (PySem.W.codeRec_of KX hcd)
    (hb _ _ _ _ (wpAny_newFunctionEnv_cells S.kind hkind fun env he s1 x => ?_))
  subst he
  refine ⟨(e0.mod.nolimit.keeps inS).keeps x.toInCall.keep, codeAny_func ?_⟩
  obtain ⟨t, ht, hq⟩ := body cdv A outer s H vs Q E hg (hr.deeper _) hsp
  have I := inv_start (CX := CX0) (N := N) (qual := qual) (f := f) (cd := cdv) (E := E) S hr.hd e0 (argc hsp) r x
  refine wpAny_mono (ht.nox.run [] s1 (start N vs) H _ I hq) (fun fl s' hs => ?_) (fun e s' hs => hs)
  cases fl with
  | brk => obtain ⟨_, _, _, q⟩ := hs; exact q.elim
  | cont => obtain ⟨_, _, _, q⟩ := hs; exact q.elim
  | next =>
    obtain ⟨σ', H', J, q⟩ := hs
    exact ⟨V.non, H', J.os, J.bare, J.base, J.hok, rfl, q⟩
  | ret u =>
    obtain ⟨v, σ', H', J, rv, q⟩ := hs
    exact ⟨v, H', J.os, J.bare, J.base, J.hok, rv, q⟩
end

/-! ### the call of such a def -/
section
variable {X : Cx} {CX : CXT} {k : Nat} {f : Addr} {fd : FuncData} {ps : List Str} {sp : Sp} {dvs : List V}
  {ds : List Value} {E : XK} {x : Str} {p pos : Pos} {e : Expr} {es : List Expr} {t : TA}
theorem runG {pins : List (Addr × Obj)} {σ : L2.St} {H : Hp} {s : Shared} {Q : VK} {us : List Value} {vs : List V}
    (F : FnG X.prog X.w X.K X.mg X.base CX k f fd ps sp) (hg : X.A.guards = some []) (hr : Room k X.A)
    (hb : Binds X.K fd ps ds) (hd : Vals dvs ds) (hx : Passes CX X E)
    (I : Inv X pins σ H s) (r : Vals vs us) (h : sp (vs ++ dvs) H Q E) :
    wpAny (model X.prog X.w) X.A (call (.ref f) us) (EP X pins σ Q) X.xe s := by
  have r2 : Vals (vs ++ dvs) (us ++ ds) := r.append hd
  have hl : (us ++ ds).length = ps.length := r2.length.symm.trans (F.argc h)
  refine wpAny_call (codeAny_mono (F.go hg hr I.env0 (hb s us I.kIn hl) r2 h) fun r s' hq => ?_)
  match r, hq with
  | .error e, hq => exact hx pins σ H s e s' I hq
  | .ok (.ret u), hq => exact I.after hq
  | .ok .next, hq => exact hq.elim
  | .ok .brk, hq => exact hq.elim
  | .ok .cont, hq => exact hq.elim
theorem pe_callG (F : FnG X.prog X.w X.K X.mg X.base CX k f fd ps sp) (hG : X.A.guards = some []) (hr : Room k X.A)
    (hg : Gl X x) (hm : X.mg x = some (.ref f)) (hk : PySem.W.keepIn X.K (.ref f) = true) (hb : Binds X.K fd ps ds)
    (hd : Vals dvs ds) (hx : Passes CX X E) (ha : PA X (e :: es) t)
    (hdb : (x == ("__debug__" : Str)) = false := by decide)
    (he : starEach (e :: es) X.env = (false, eval e X.env) :: starEach es X.env := by rfl)
    (hpl : (backTo pos (starEach es X.env)).any (·.1) = false := by rfl) :
    PE X (.Call (.Name x p) (e :: es) [] pos) (tCall sp dvs E t) := by
  refine ⟨fun pins s σ H Q I h => wpAny_Call_Name_kw (ld_glob I hg hm ?_ hdb)⟩
  refine PySem.W.callWith_K (h₀ := X.base) I.ok.mod.kin hk ?_ he hpl
  exact thn (ha.run pos pins s σ H _ I h) fun us s1 ⟨vs, H1, I1, r, q⟩ => ⟨I1.kIn, runG F hG hr hb hd hx I1 r q⟩

/-- f(k = v, ..), keywords alone -/
theorem pe_callKw {ks : List Str} {kws : List Keyword} {tk : TA} {g : List Value → List Value → List Value} {gV : List V → List V → List V}
    (F : FnOk X.prog X.w X.K X.mg X.base CX k f fd ps sp) (hr : Room k X.A) (hg : Gl X x) (hm : X.mg x = some (.ref f))
    (hk : PySem.W.keepIn X.K (.ref f) = true) (hb : KBinds X.K fd ps ks g gV) (hx : Passes CX X E) (hkw : PK X kws tk)
    (hall : (backToKw pos (keywordEach kws X.env)).all (·.1.isSome) = true := by rfl)
    (hks : (backToKw pos (keywordEach kws X.env)).filterMap (·.1) = ks := by rfl)
    (hdb : (x == ("__debug__" : Str)) = false := by decide)
    (hpl : ((backTo pos (starEach [] X.env)).any (·.1) || (backToKw pos (keywordEach kws X.env)).any (·.1.isNone)) = false := by rfl) :
    PE X (.Call (.Name x p) [] kws pos) (tCallK sp gV E tNil tk) := by
  refine ⟨fun pins s σ H Q I h => wpAny_Call_Name_kw (ld_glob I hg hm ?_ hdb)⟩
  refine PySem.W.callWith_KW0 (h₀ := X.base) I.ok.mod.kin hk hall ?_ hpl
  refine thn (hkw.run pos pins s σ H _ I h) fun ws s2 ⟨zs, H2, I2, rz, q2⟩ => ⟨I2.kIn, ?_⟩
  rw [hks]
  exact run_fnk (us := []) F hr hb hx I2 .nil rz q2
/-- positional values, then those of keywords, in the order of the parameters -/
theorem kb_of {K : PySem.W.Frag} {y qual : Str} {st : Stmt} {f : Addr} {fd : FuncData} {ps ks : List Str} (F : Fun K y qual st f fd)
    (h : ∀ (kV doc pm : Value) (an : Option Addr) (cdv ct : Value) (us ws : List Value), (us ++ ws).length = ps.length →
      bindArgs (PySem.W.fnOf y qual (defArgs st) (defBody st) (defScope st) .none kV doc pm an cdv ct) ⟨us, ks.zip ws⟩ = pure (ps.zip (us ++ ws))) :
    KBinds K fd ps ks (· ++ ·) (· ++ ·) := by
  obtain ⟨oc, od, kV, doc, pm, an, cdv, ct, osl, rfl, lk, hcd⟩ := F.ex
  exact ⟨fun s us ws _ hl => .of_eq (h kV doc pm an cdv ct us ws hl), fun r z => r.append z⟩
end

/-! ### repr of data -/
inductive Sh (K : PySem.W.Frag) (H : Hp) : V → PyData → Prop
  | dp {v : V} {d : PyData} : Dp K H v d → d.hasDict = false → Sh K H v d
  | one {a : Addr} {k : Str} {i : Int} : H a = some (.dK [(.inr k, .int i)]) → Sh K H (.ref a) (.dict [(.str k, .int i)])
section
variable {X : Cx} {pins : List (Addr × Obj)} {σ : L2.St} {H : Hp} {s : Shared}
theorem Sh.reads (I : Inv X pins σ H s) {v : V} {d : PyData} {u : Value} (h : Sh X.K H v d) (r : RelV v u) :
    ∃ as, Reads s.heap u d as ∧ (d.hasDict = true → sysModules ∉ as) := by
  cases h with
  | dp h hd =>
    obtain ⟨as, q⟩ := Dp.reads I d v u h r
    exact ⟨as, q, PyData.noDict_hsm hd⟩
  | one h =>
    rename_i a k i
    cases r
    obtain ⟨_, hs, vs, rel, o, es, ep, ho, hx, hd, hko, hp, hn⟩ := I.hok a _ h
    cases rel with
    | cons r1 r2 =>
      cases r2
      rename_i kv
      obtain ⟨kk, uu⟩ := kv
      obtain ⟨e1, t, e2⟩ := r1
      cases e1
      cases e2
      generalize hes : es.toList = l at hp
      cases hp with
      | cons k1 k2 k3 =>
        cases k3
        rename_i e
        have k0 : keyIs (Sum.inr k) e.key = true := k1
        obtain ⟨_, _, z, _⟩ | ⟨y, t', z, e3⟩ := keyIs_shape k0
        · cases z
        · cases z
          refine ⟨_, Reads.dict (as := []) (bs := []) ho hx.1 hd ?_ ?_, fun _ z => ?_⟩
          · rw [hes, List.map_cons, List.map_nil, e3]
            exact ReadsAll.cons (Reads.str _ _) .nil
          · rw [hes, List.map_cons, List.map_nil, k2]
            exact ReadsAll.cons (Reads.int _ _) .nil
          · have z2 : sysModules = a := by simpa using z
            rw [z2] at hs
            simp at hs
theorem call_reprSh (hG : X.A.guards = some []) (hu : X.A.units + 64 < cLine) : CallR X (.builtin "repr")
    (fun xs H Q => ∃ x d, xs = [x] ∧ Sh X.K H x d ∧ d.showable = true ∧ d.depth ≤ 60 ∧ d.shown.length ≤ sizeLine ∧
      Q (.str d.shown) H) := by
  intro pins s σ H xs us Q I r h
  obtain ⟨x, d, rfl, hs, sh, dp, sz, q⟩ := h
  obtain ⟨u, rfl, ru⟩ := vals1 r
  obtain ⟨as, rd, hm⟩ := hs.reads I ru
  cases rd with
  | none => exact PySem.P.repr_of_none ⟨.str _, H, I.tok _, ⟨_, rfl⟩, q⟩
  | bool b => exact PySem.P.repr_of_bool ⟨.str _, H, I.tok _, ⟨_, rfl⟩, q⟩
  | int i t => exact PySem.P.repr_of_int (of_decide_eq_true sh) ⟨.str _, H, I.tok _, ⟨_, rfl⟩, q⟩
  | str y t => exact PySem.P.repr_of_str ⟨.str _, H, I.tok _, ⟨_, rfl⟩, q⟩ sz
  | list h1 h2 h3 h4 =>
    exact repr_of_reads' (.list h1 h2 h3 h4) sh hm hG (by omega) (fun _ _ e => e) (fun h' u tk hk => ⟨.str _, H, I.kept hk, ⟨_, rfl⟩, q⟩) sz
  | tuple h1 h2 h3 h4 =>
    exact repr_of_reads' (.tuple h1 h2 h3 h4) sh hm hG (by omega) (fun _ _ e => e) (fun h' u tk hk => ⟨.str _, H, I.kept hk, ⟨_, rfl⟩, q⟩) sz
  | dict h1 h2 h3 h4 h5 =>
    exact repr_of_reads' (.dict h1 h2 h3 h4 h5) sh hm hG (by omega) (fun _ _ e => e) (fun h' u tk hk => ⟨.str _, H, I.kept hk, ⟨_, rfl⟩, q⟩) sz
end

/-! ### text * number, list(text) -/
section
variable {X : Cx}
theorem rep_list (a : Array Nat) : ∀ (n : Nat) (acc : Array Nat),
    ((List.replicate n a).foldl (· ++ ·) acc).toList = acc.toList ++ (List.replicate n a.toList).flatten
  | 0, acc => by simp
  | n + 1, acc => by
    rw [List.replicate_succ, List.foldl_cons, rep_list a n, List.replicate_succ, List.flatten_cons, Array.toList_append, List.append_assoc]
theorem rep_len (a : Str) (n : Nat) : (Str.mk ((List.replicate n a.cps).foldl (· ++ ·) #[])).length = n * a.length := by
  show Array.size _ = n * a.cps.size
  rw [← Array.length_toList, rep_list]
  simp [List.sum_replicate_nat]
theorem op_mul_str : OpR X (binaryOp .Mult) (fun x y H Q => ∃ (a : Str) (n : Int), x = .str a ∧ y = .int n ∧ 2 ≤ n ∧ n ≤ 1000 ∧ 1 ≤ a.length ∧ a.length ≤ 1000 ∧
    Q (.str ⟨(List.replicate n.toNat a.cps).foldl (· ++ ·) #[]⟩) H) := by
  intro pins s σ H x y v u Q I rx ry h
  obtain ⟨a, n, rfl, rfl, h2, hn, h1, ha, q⟩ := h
  obtain ⟨t, rfl⟩ := rx
  obtain ⟨t', rfl⟩ := ry
  have hz : a.length * n.toNat ≤ 1000000 := Nat.le_trans (Nat.mul_le_mul ha (show n.toNat ≤ 1000 by omega)) (by decide)
  refine PySem.P.mul_str ?_ (fun _ _ => ?_) (fun _ _ => ?_) ?_
  · rw [decide_eq_false (by omega), decide_eq_false (by omega)]
    rfl
  · have h3 : (1000 : Int) ≤ (2 ^ 63 - 1) / n := by
      rw [Int.le_ediv_iff_mul_le (by omega)]
      omega
    omega
  · exact decide_eq_false (by rw [sizeLine_eq]; omega)
  · rw [if_neg (by omega), if_neg]
    · refine ⟨?_, .str _, H, I.tok _, ⟨_, rfl⟩, q⟩
      rw [rep_len, sizeLine_eq, Nat.mul_comm]
      omega
    · rw [Bool.or_eq_true, beq_iff_eq, beq_iff_eq]
      omega
theorem paired_of {α β : Type} {R : α → β → Prop} : ∀ {xs : List α} {ys : List β}, xs.length = ys.length →
    (∀ (j : Nat) x y, xs[j]? = some x → ys[j]? = some y → R x y) → Paired R xs ys
  | [], [], _, _ => .nil
  | [], _ :: _, h, _ => by cases h
  | _ :: _, [], h, _ => by cases h
  | x :: xs, y :: ys, h, f => .cons (f 0 x y rfl rfl) (paired_of (Nat.succ.inj h) fun j a b h1 h2 => f (j + 1) a b h1 h2)
theorem call_list_txt (hc : X.calm = true) : CallR X (.type "list") (fun xs H Q => ∃ (a : Str), xs = [.str a] ∧ a.length ≤ sizeLine ∧
    ∀ l, H l = none → Q (.ref l) (upd H l (.lst (a.cps.toList.map fun c => V.str ⟨#[c]⟩)))) := by
  intro pins s σ H xs us Q I r h
  obtain ⟨a, rfl, hl, q⟩ := h
  obtain ⟨u, rfl, t, rfl⟩ := vals1 r
  refine call_list_str (I.ok.hd hc) a t (hn := hl) fun h' tk acc c hk ho hit => ?_
  have hn : H s.heap.objs.size = none := I.hok.fresh (Nat.le_refl _)
  refine ⟨.ref s.heap.objs.size, _, I.laid (t' := tk) hk (Nat.le_refl _) ?_, rfl, q _ hn⟩
  refine ⟨?_, acc.toList, c, ?_, by simpa using ho⟩
  · rw [List.length_map, Array.length_toList]
    exact hl
  · refine paired_of (by rw [List.length_map, Array.length_toList, Array.length_toList, hit.1]) fun j v u h1 h2 => ?_
    rw [List.getElem?_map, Array.getElem?_toList] at h1
    obtain ⟨d, t', h3, rfl⟩ := hit.2 j u (by rw [← Array.getElem?_toList]; exact h2)
    rw [h3] at h1
    cases h1
    exact ⟨t', rfl⟩
end

/-! ### the end of a law whose def wants that no repr is under way -/
theorem end_call {P : Program} {w : World} {K : PySem.W.Frag} {mg mb : Str → Option Value} {CX : CXT} {k : Nat} {fa a : Addr}
    {fd : FuncData} {x : Str} {sp : Sp} {s₁ : Shared} {vs : List Value} {ns : List Int}
    (KX : K.In s₁.heap) (hns : s₁.heap.Ns mainGlobals mg) (hb : s₁.heap.Ns builtinsNs mb)
    (hbb : ∀ x : Str, x ≠ "__name__" → mb x = bootBuiltins x) (hlim : s₁.heap.NoLimit) (hg : s₁.gens = #[])
    (ha : s₁.heap.get? a = some { cls := .type "list", data := .seq vs.toArray }) (hi : IntsAre vs ns)
    (hl : ns.length ≤ sizeLine) (hr : Room k callerA)
    (F : ∀ base : Heap, K.In base → base.Ns mainGlobals mg → FnG P w K mg base CX k fa fd [x] sp)
    (hbind : ∀ (s : Shared) (u : Value), BindsTo s fd ⟨[u], []⟩ [(x, u)])
    (hsp : ∀ H : Hp, Only H → SqL K H a (ns.map V.int) → sp [.ref a] H (fun v _ => v = .bl true) fun _ _ _ => False)
    (hCX : ∀ H e s', CX [] H s₁ (fun _ _ _ => False) e s' → False) :
    codeAny (model P w) callerA (.call (.ref fa) ⟨[.ref a], []⟩)
      (fun r s' => r = .ok (.ret (.bool true)) ∧ OldK s₁.heap s'.heap ∧ s'.os = s₁.os ∧ AllBare s'.gens) s₁ := by
  have lenV := hi.length
  have start : ∀ H : Hp, Only H → SqL K H a (ns.map V.int) → HOk P w H s₁.heap → (∀ b, H b ≠ none → b = a) →
      (H a ≠ none → K.lookup a = none) → codeAny (model P w) callerA (.call (.ref fa) ⟨[.ref a], []⟩)
        (fun r s' => r = .ok (.ret (.bool true)) ∧ OldK s₁.heap s'.heap ∧ s'.os = s₁.os ∧ AllBare s'.gens) s₁ := by
    intro H hO hS hok hA hK
    have free : ∀ {b : Addr}, (b = a → False) → H b = none := fun {b} hne => by
      cases q : H b with
      | none => rfl
      | some u => exact (hne (hA b (by rw [q]; exact Option.some_ne_none u))).elim
    have nsK : ∀ {b : Addr} {m : Str → Option Value}, s₁.heap.Ns b m → (hidT s₁.heap H).Ns b m := by
      rintro b m ⟨o, es, ep, e, d, r⟩
      refine ⟨o, es, ep, hidT_get e (free fun z => ?_), d, r⟩
      subst z
      rw [ha] at e
      cases e
      cases d
    have inK : K.In (hidT s₁.heap H) := fun b o e => hidT_get (KX b o e) (by
      cases q : H b with
      | none => rfl
      | some u =>
        obtain rfl : b = a := hA b (by rw [q]; exact Option.some_ne_none u)
        have z := hK (by rw [q]; exact Option.some_ne_none u)
        rw [z] at e
        cases e)
    have hM : Mod K mg (hidT s₁.heap H) := ⟨inK, nsK hns, ⟨mb, nsK hb, hbb⟩, hlim.imp fun _ z => ⟨nsK z.1, z.2⟩⟩
    have e0 : Env0 P w K mg (hidT s₁.heap H) callerA [] s₁ H :=
      ⟨rfl, hM, fun b o e => of_hidT e, Nat.le_of_eq (hidT_size _ _), trivial,
        fun b z => absurd (show b ∈ ([] : List Addr) from z) List.not_mem_nil, hok, .of_eq hg⟩
    refine codeAny_mono ((F _ inK (nsK hns)).go (us := [.ref a]) (vs := [.ref a]) rfl hr e0 (hbind s₁ (.ref a)) (.cons rfl .nil) (hsp H hO hS)) fun r s' h => ?_
    match r, h with
    | .error e, h => exact (hCX H e s' h).elim
    | .ok .next, h => exact h.elim
    | .ok .brk, h => exact h.elim
    | .ok .cont, h => exact h.elim
    | .ok (.ret u), h =>
      obtain ⟨v, H', os, bare, un, hok', r', rfl⟩ := h
      obtain rfl : u = Value.bool true := r'
      refine ⟨rfl, OldK.of_keep fun b o e => ?_, os, bare⟩
      rcases hO b with z | ⟨ob, xs, z⟩
      · exact un.keep b o e z (fun y => absurd (show b ∈ ([] : List Addr) from y) List.not_mem_nil) List.not_mem_nil
      · have z1 := (hok b _ z).1
        rw [e] at z1
        cases z1
        exact (hok' b _ (un.frzs b _ _ z)).1
  cases hk : K.lookup a with
  | some o =>
    have e := KX a o hk
    rw [ha] at e
    cases e
    refine start (fun _ => none) (fun _ => .inl rfl) (.inr ⟨_, vs.toArray, _, hk, rfl, rfl, rfl, ?_, by simpa using vals_ints hi⟩)
      (fun b u z => nomatch z) (fun b z => absurd rfl z) fun z => absurd rfl z
    rw [List.size_toArray, lenV]
    exact hl
  | none =>
    refine start (upd (fun _ => none) a (.frz { cls := .type "list", data := .seq vs.toArray } (.lst (ns.map V.int))))
      (fun b => ?_) (.inl (.inr ⟨_, upd_same⟩)) (fun b u z => ?_) (fun b z => ?_) fun _ => hk
    · by_cases q : b = a
      · exact .inr ⟨_, _, by rw [q]; exact upd_same⟩
      · exact .inl (upd_ne q)
    · by_cases q : b = a
      · subst q
        rw [upd_same] at z
        cases z
        exact ⟨ha, by rw [List.length_map]; exact hl, vs, _, vals_ints hi, ha⟩
      · rw [upd_ne q] at z
        cases z
    · by_cases q : b = a
      · exact q
      · exact absurd (upd_ne q) z

theorem end_of {l : PySem.W.OpenLaw} {n k : Nat} {q : Program} {loose : List Str} {XP : (Str → Option Value) → Heap → Prop}
    {YP : World → Heap → Prop} {d : DefRec} {K : Params → PySem.W.Frag} {CX : World → CXT} {sp : World → Sp} {x : Str}
    (hn : l.most = some n) (hn2 : n ≤ sizeLine) (hdf : d.params.defaults = []) (hr : Room k callerA)
    (hY : ∀ (w : World) (h : Heap), YP w h → (K w.params).In h)
    (F : ∀ (w : World) (mg : Str → Option Value) (fa : Addr) (h : Heap), (K w.params).In h → h.Ns mainGlobals mg →
      mg d.name = some (.ref fa) → ∃ fd : FuncData, (∀ (s : Shared) (u : Value), BindsTo s fd ⟨[u], []⟩ [(x, u)]) ∧
        ∀ base : Heap, (K w.params).In base → base.Ns mainGlobals mg →
          FnG l.prog w (K w.params) mg base (CX w) k fa fd [x] (sp w))
    (hsp : ∀ (w : World) (H : Hp) (a : Addr) (ns : List Int), ns.length ≤ n →
      (∀ z ∈ ns, Builtin.Int.intBits z ≤ 1048576) → Only H → SqL (K w.params) H a (ns.map V.int) →
      sp w [.ref a] H (fun v _ => v = .bl true) fun _ _ _ => False)
    (hCX : ∀ (w : World) (H : Hp) (s : Shared) (e : Value) (s' : Shared), CX w [] H s (fun _ _ _ => False) e s' → False) :
    PySem.W.WalkO q loose XP YP l.row.toRowW d [] (fun f vs => PySem.call f vs) :=
  Att.attach_callB hn hdf fun w _ s₁ mg mb fa o pm cd doc a vs ns G Y ho hd hcd hmg hobj hints hlen hbits hg => by
    obtain ⟨fd, hb, hF⟩ := F w mg fa _ (hY w _ Y) G.T.g hmg
    exact end_call (hY w _ Y) G.T.g G.T.b G.T.builtins G.T.nolimit hg hobj hints (Nat.le_trans hlen hn2) hr hF hb
      (fun H hO hS => hsp w H a ns hlen hbits hO hS) fun H e s' => hCX w H s₁ e s'
end LT

set_option Elab.async false
set_option linter.all false
set_option maxRecDepth 100000
/-! Own layer: a def to which the caught error is handed; isinstance of it there. -/
namespace LT
open PySem PySem.Spec PyProof.Rows L2
/-- as FnOk, called within an except suite; p is the caught error, which the promise may name -/
structure FnE (P : Program) (w : World) (K : PySem.W.Frag) (mg : Str → Option Value) (base : Heap)
    (k : Nat) (f : Addr) (fd : FuncData) (ps : List Str) (sp : Addr × Obj → Sp) : Prop where
  argc : ∀ {p : Addr × Obj} {vs : List V} {H : Hp} {Q : VK} {E : XK}, sp p vs H Q E → vs.length = ps.length
  go : ∀ {A : Around} {outer : List Env} {s : Shared} {H : Hp} {args : Args} {us : List Value} {vs : List V}
    {Q : VK} {E : XK} {p : Addr × Obj}, L2H.RoomH k A → L2H.PinOk outer H s p → Env0 P w K mg base A outer s H →
    BindsTo s fd args (ps.zip us) → Vals vs us → sp p vs H Q E →
    codeAny (model P w) A (.call (.ref f) args) (CR CX0 outer P w H s Q E) s
section
variable {P : Program} {w : World} {K : PySem.W.Frag} {mg : Str → Option Value} {base : Heap}
theorem okE {x qual : Str} {st : Stmt} {f : Addr} {fd : FuncData} {N ps : List Str} {k : Nat} {sp : Addr × Obj → Sp}
    (F : Fun K x qual st f fd) (S : FnScope N ps (defScope st))
    (argc : ∀ {p : Addr × Obj} {vs : List V} {H : Hp} {Q : VK} {E : XK}, sp p vs H Q E → vs.length = ps.length)
    (body : ∀ (cdv : Value) (A : Around) (outer : List Env) (s : Shared) (H : Hp) (vs : List V) (Q : VK) (E : XK) (p : Addr × Obj),
      L2H.RoomH k (A.deeper (envOfC qual (defScope st) s.heap.objs.size f cdv)) → sp p vs H Q E →
      ∃ t, PSs (L2H.cxH CX0 P w K mg base N qual (defScope st) f cdv A outer s H E p).nox (defBody st) t ∧
        t { nx := fun _ H' => Q .non H', rt := Q } (start N vs) H) :
    FnE P w K mg base (k + 1) f fd ps sp := by
  obtain ⟨oc, od, kV, doc, pm, an, cdv, ct, osl, rfl, lk, hcd⟩ := F.ex
  refine ⟨argc, ?_⟩
  intro A outer s H args us vs Q E p hr hpin e0 hb r hsp
  have inS : ∀ b o, base.get? b = some o → s.heap.get? b = some o := fun b o e => (e0.bs b o e).1
  have KX : K.In s.heap := e0.mod.kin.keeps inS
  have hkind : ∀ y ∈ ps.zip us, (defScope st).names.lookup y.1 = some .local ∨
      ((defScope st).names.lookup y.1 = some .cell ∧
        ((cellsFrom (s.heap.objs.size + 1) (defScope st).names []).lookup y.1).isSome = true) := by
    rintro ⟨n, v⟩ hy
    rcases S.par n (List.of_mem_zip hy).1 with q | q
    · exact Or.inl q
    · exact Or.inr ⟨q, PySem.W.cellsFrom_some _ _ _ (Or.inl q)⟩
  refine codeAny_call_function hr.depth (KX _ _ lk) rfl S.co S.gen rfl (PySem.W.codeRec_of KX hcd)
    (hb _ _ _ _ (wpAny_newFunctionEnv_cells S.kind hkind fun env he s1 x => ?_))
  subst he
  refine ⟨(e0.mod.nolimit.keeps inS).keeps x.toInCall.keep, codeAny_func ?_⟩
  obtain ⟨t, ht, hq⟩ := body cdv A outer s H vs Q E p (hr.deeper _) hsp
  have I := L2H.inv_startH (CX := CX0) (N := N) (qual := qual) (f := f) (cd := cdv) (E := E) S hpin e0 (argc hsp) r x
  refine wpAny_mono (ht.nox.run [] s1 (start N vs) H _ I hq) (fun fl s' hs => ?_) (fun e s' hs => hs)
  cases fl with
  | brk => obtain ⟨_, _, _, q⟩ := hs; exact q.elim
  | cont => obtain ⟨_, _, _, q⟩ := hs; exact q.elim
  | next =>
    obtain ⟨σ', H', J, q⟩ := hs
    exact ⟨V.non, H', J.os, J.bare, J.base, J.hok, rfl, q⟩
  | ret u =>
    obtain ⟨v, σ', H', J, rv, q⟩ := hs
    exact ⟨v, H', J.os, J.bare, J.base, J.hok, rv, q⟩
end
section
variable {X : Cx} {k : Nat} {f : Addr} {fd : FuncData} {ps : List Str} {sp : Addr × Obj → Sp} {x : Str} {q pos : Pos} {e : Expr}
  {es : List Expr} {t : TA} {p : Addr × Obj}
/-- the call of such a def, where p is pinned -/
def tCallE (p : Addr × Obj) (sp : Addr × Obj → Sp) (t : TA) : TE := fun σ H Q => t σ H fun vs H1 => sp p vs H1 Q E0
theorem pe_callE (F : FnE X.prog X.w X.K X.mg X.base k f fd ps sp) (hr : L2H.RoomH k X.A) (hp : p ∈ X.pn) (hg : Gl X x)
    (hm : X.mg x = some (.ref f)) (hk : PySem.W.keepIn X.K (.ref f) = true) (hb : L2.Binds X.K fd ps []) (ha : PA X (e :: es) t)
    (hdb : (x == ("__debug__" : Str)) = false := by decide)
    (he : starEach (e :: es) X.env = (false, eval e X.env) :: starEach es X.env := by rfl)
    (hpl : (backTo pos (starEach es X.env)).any (·.1) = false := by rfl) :
    PE X (.Call (.Name x q) (e :: es) [] pos) (tCallE p sp t) := by
  refine ⟨fun pins s σ H Q I h => wpAny_Call_Name_kw (ld_glob I hg hm ?_ hdb)⟩
  refine PySem.W.callWith_K (h₀ := X.base) I.ok.mod.kin hk ?_ he hpl
  refine thn (ha.run pos pins s σ H _ I h) fun us s1 ⟨vs, H1, I1, r, h1⟩ => ⟨I1.kIn, ?_⟩
  have hl : (us ++ []).length = ps.length := by
    rw [List.append_nil, ← r.length]
    exact F.argc h1
  have b := hb s1 us I1.kIn hl
  rw [List.append_nil] at b
  obtain ⟨p1, p2, p3, p4, p5⟩ := I1.pin p (List.mem_append_left _ hp)
  have pin : L2H.PinOk X.stack H1 s1 p := ⟨p1, p2, fun z => (List.mem_cons.mp (I1.stkSub p.1 z)).elim p3 p4, p5⟩
  refine wpAny_call (codeAny_mono (F.go hr pin I1.env0 b r h1) fun r s' hq => ?_)
  match r, hq with
  | .error _, hq => exact hq.elim
  | .ok (.ret u), hq => exact I1.after hq
  | .ok .next, hq => exact hq.elim
  | .ok .brk, hq => exact hq.elim
  | .ok .cont, hq => exact hq.elim
end
section
variable {X : Cx} {k : Nat} {f a : Addr} {oe : Obj} {cls : Value} {d : Option Addr} {fd : FuncData} {ps : List Str} {sp : Addr × Obj → Sp} {x : Str} {q pos : Pos} {e : Expr}
  {es : List Expr} {t : TA} {pn : List (Addr × Obj)}
/-- .. in an except suite; its reading names the error by its class and dict alone -/
def tCallZ (a : Addr) (cls : Value) (d : Option Addr) (sp : Addr × Obj → Sp) (t : TA) : TE := fun σ H Q => t σ H fun vs H1 =>
  ∀ oe : Obj, Zc cls d oe → (∃ vs, oe.data = .fields vs) → sp (a, oe) vs H1 Q E0
theorem pe_callZ (F : FnE X.prog X.w X.K X.mg X.base k f fd ps sp) (hr : Room k X.A) (hz : Zc cls d oe) (hf : ∃ vs, oe.data = .fields vs) (hg : Gl X x)
    (hm : X.mg x = some (.ref f)) (hk : PySem.W.keepIn X.K (.ref f) = true) (hb : L2.Binds X.K fd ps []) (ha : PA (X.suite a ((a, oe) :: pn)) (e :: es) t)
    (hdb : (x == ("__debug__" : Str)) = false := by decide)
    (he : starEach (e :: es) X.env = (false, eval e X.env) :: starEach es X.env := by rfl)
    (hpl : (backTo pos (starEach es X.env)).any (·.1) = false := by rfl) :
    PE (X.suite a ((a, oe) :: pn)) (.Call (.Name x q) (e :: es) [] pos) (tCallZ a cls d sp t) := by
  refine ⟨fun pins s σ H Q I h => ?_⟩
  have h2 : t σ H fun vs H1 => (fun vs H1 => ∀ oe : Obj, Zc cls d oe → (∃ vs, oe.data = .fields vs) → sp (a, oe) vs H1 Q E0) vs H1 := h
  refine (wpAny_Call_Name_kw (ld_glob (X := X.suite a ((a, oe) :: pn)) I hg hm ?_ hdb))
  refine PySem.W.callWith_K (h₀ := X.base) I.ok.mod.kin hk ?_ he hpl
  refine thn (ha.run pos pins s σ H _ I h2) fun us s1 ⟨vs, H1, I1, r, h1⟩ => ⟨I1.kIn, ?_⟩
  have h1 := h1 oe hz hf
  have hl : (us ++ []).length = ps.length := by
    rw [List.append_nil, ← r.length]
    exact F.argc h1
  have b := hb s1 us I1.kIn hl
  rw [List.append_nil] at b
  obtain ⟨p1, p2, p3, p4, p5⟩ := I1.pin (a, oe) (List.mem_append_left _ List.mem_cons_self)
  have pin : L2H.PinOk X.stack H1 s1 (a, oe) := ⟨p1, p2, fun z => (List.mem_cons.mp (I1.stkSub a z)).elim p3 p4, p5⟩
  refine wpAny_call (codeAny_mono (F.go (A := X.A.mark (some (.ref a))) ⟨hr.dp, hr.un⟩ pin I1.env0 b r h1) fun r s' hq => ?_)
  match r, hq with
  | .error _, hq => exact hq.elim
  | .ok (.ret u), hq => exact I1.after hq
  | .ok .next, hq => exact hq.elim
  | .ok .brk, hq => exact hq.elim
  | .ok .cont, hq => exact hq.elim
end
/-! ### isinstance of the pinned error -/
section
variable {X : Cx} {a D : Addr} {oe : Obj}
theorem pinned_at {pins : List (Addr × Obj)} {σ : L2.St} {H : Hp} {s : Shared} (I : Inv X pins σ H s) (hp : (a, oe) ∈ X.pn) (hz : Zc (.ref D) none oe)
    (hf : ∃ vs, oe.data = .fields vs) : PySem.W.InstAt s.heap a oe D none := by
  obtain ⟨hget, _⟩ := I.pin (a, oe) (List.mem_append_left _ hp)
  obtain ⟨vs, hv⟩ := hf
  obtain ⟨oc, od, oda, osl⟩ := oe
  obtain ⟨h1, h2⟩ := hz
  dsimp only at h1 h2 hv
  subst h1 h2 hv
  exact ⟨hget, rfl, rfl, trivial⟩
theorem call_isP (hp : (a, oe) ∈ X.pn) (C : ExcC X.K D) (hz : Zc (.ref D) none oe) (hf : ∃ vs, oe.data = .fields vs) :
    CallR X (.builtin "isinstance") (fun xs H Q => ∃ (c : V) (cv : Value) (b : Bool), xs = [.ref a, c] ∧ ClsV c cv ∧ PySem.W.kitOne X.K (.ref D) cv = some b ∧ Q (.bl b) H) := by
  intro pins s σ H xs us Q I r h
  obtain ⟨c, cv, b, rfl, hc, e, q⟩ := h
  obtain ⟨u1, u2, rfl, r1, r2⟩ := vals2 r
  have e2 := hc.eq r2
  subst e2
  cases r1
  exact PySem.W.kia_one (PySem.W.handS_kitx_exc C.hg C.hk C.hs C.hd C.ha C.hn C.ht C.hm) I.kIn (pinned_at I hp hz hf) e (fun z => nomatch z)
    fun tk => ⟨.bl b, H, I.tok tk, rfl, q⟩
theorem call_isPT (hp : (a, oe) ∈ X.pn) (C : ExcC X.K D) (hz : Zc (.ref D) none oe) (hf : ∃ vs, oe.data = .fields vs) :
    CallR X (.builtin "isinstance") (fun xs H Q => ∃ (tp : Addr) (cs : List V) (us : List Value) (b : Bool), xs = [.ref a, .ref tp] ∧ H tp = some (.tup cs) ∧ Paired ClsV cs us ∧
      PySem.W.kitAny X.K (.ref D) us = some b ∧ Q (.bl b) H) := by
  intro pins s σ H xs us Q I r h
  obtain ⟨tp, cs, ws, b, rfl, hT, k, e, q⟩ := h
  obtain ⟨u1, u2, rfl, r1, r2⟩ := vals2 r
  cases r1
  cases (show u2 = Value.ref tp from r2)
  obtain ⟨_, its, rv, o, h1, h2, n, h3⟩ := (show ObjOk X.prog X.w H s.heap tp (.tup cs) from I.hok tp _ hT)
  have e3 := ClsV.all k rv
  subst e3
  obtain ⟨oc, od, dt, sl⟩ := o
  simp only at h2 h3
  subst h2 h3
  exact PySem.W.kia_tup (PySem.W.handS_kitx_exc C.hg C.hk C.hs C.hd C.ha C.hn C.ht C.hm) I.kIn (pinned_at I hp hz hf) h1 e (fun z => nomatch z)
    fun tk => ⟨.bl b, H, I.tok tk, rfl, q⟩
end
end LT

set_option Elab.async false
set_option linter.all false
set_option maxRecDepth 100000
set_option maxHeartbeats 1600000
/-! an own error whose __init__ begins with super().__init__(..): the def by its body -/
namespace LT
open PySem PySem.Spec PyProof.Rows L2 NdefX
/-- what the written part says of it -/
structure SupC (K : PySem.W.Frag) (prog : Program) (mg : Str → Option Value) (C cc : Addr) (F : NF) (ar : Arg) : Prop where
  oex : OexC K C
  cl : F.cl = [(("__class__" : Str), cc)]
  cell : ∃ a b c, K.lookup cc = some ⟨a, b, .cell (some (.ref C)), c⟩
  file : ∃ (a : Value) (b : Option Addr) (vs : Array Value) (c : Array (Option Value)) (fl : Str) (tf : Tok), K.lookup F.c = some ⟨a, b, .fields vs, c⟩ ∧ vs[2]? = some (.str fl tf) ∧ ((prog.main.file : Str) == fl) = true
  hsub : PySem.W.mroIn K C (.ref C) = some true
  sup : PySem.W.ks_superIn K C C "__init__" = some (some (.builtin "ValueError.__init__"))
  sB : PySem.W.subIn K (.ref C) (.type "ValueError") = some true
  op : PySem.W.nsIn K cStatics "thirdparty.any" = some none
  hp : (F.params.posonlyargs ++ F.params.args).head? = some ar
  cd : PySem.W.codeIn K (.ref F.c) F.qual = true
  ks : F.scope.names.lookup ("super" : Str) = some .globalImplicit
  top : (prog.main.scope.names.lookup ("super" : Str)).isSome = false
  ms : mg "super" = none
section
variable {X : Cx} {pins : List (Addr × Obj)} {σ : L2.St} {H : Hp} {s : Shared} {a C u : Addr} {E : Value → Shared → Prop} {A : Around}
/-- the bound ValueError.__init__ called -/
theorem mw_ok {us : List Value} {Q : Value → Shared → Prop} (T : OexC X.K C) (I : Inv X pins σ H s) (e : H a = some (exo a C none)) (hu : s.heap.get? u = some (PySem.W.kxs_mw "ValueError.__init__" a)) (hl : us.length ≤ sizeLine) (h : ∀ s', Inv X pins σ H s' → Q .none s') :
    wpAny (model X.prog X.w) A (call (.ref u) us) Q E s := by
  obtain ⟨nm, q, N, bs, bm, sn, sub, ab, col, dd, k0, k1, k2, k3, k5, hC, hbm⟩ := T.cls
  obtain ⟨t1, ho⟩ := exo_at I.hok e
  have hCh := I.kIn _ _ hC
  have fin : ∀ h', (∀ b o, b ≠ a → s.heap.get? b = some o → h'.get? b = some o) → h'.get? a = some (PySem.W.excObj C s.heap.objs.size none .none) → Q .none { s with heap := h' } := fun h' k hx => by
    have J := I.write (t' := s.toks) (x := a) (e := a) (o := exo a C none) (by rw [e]; exact True.intro) (.inl rfl) k ⟨_, hx⟩ (exo_ok hx)
    have eu : upd H a (exo a C none) = H := by
      funext b
      by_cases hb : b = a
      · rw [hb, upd_same, e]
      · rw [upd_ne hb]
    rw [eu] at J
    exact h _ J
  obtain ⟨hh, g, d, tk, os⟩ := s
  refine wpAny_call (codeAny_of_tree ?_)
  show wpAny _ A.in1 (callAny (.ref u) ⟨us, []⟩) _ _ _
  simp only [callAny]
  refine wpAny_bind (wpAny_load hu ?_)
  simp only [PySem.W.kxs_mw, show (Value.type "method-wrapper" == Value.type "method" || Value.type "method-wrapper" == Value.type "builtin_function_or_method" || Value.type "method-wrapper" == Value.type "method-wrapper") = true by decide, if_true]
  refine PySem.W.KFB.if_so (by decide) ?_
  refine wpAny_bind (PySem.W.check_bound_init F.excBase_ValueError.toExcCallFacts hCh ho rfl ?_)
  refine wpAny_bind (wpAny_pure (wpAny_pure ?_))
  refine ⟨plainId_quiet F.excBase_ValueError.init.plain _, codeAny_builtin F.excBase_ValueError.initEntry ?_⟩
  exact PySem.W.exc_init_tree (cls := .ref C) (t0 := t1) (dv := none) (c2 := .none) (c3 := .none) (b4 := .bool false) ho hl fun h' k hx _ => fin h' k hx
end
section
variable {CX : CXT} {P : Program} {w : World} {K : PySem.W.Frag} {mg : Str → Option Value} {base : Heap} {N ps pr : List Str} {F : NF} {f : Addr} {fd : FuncData} {C cc : Addr} {ar : Arg} {k : Nat} {sp : Sp}
/-- THE RULE -/
theorem sup_of {e : Expr} {es : List Expr} {rest : List Stmt} {p0 p1 p2 pos pos' : Pos} {pl : Env → Sem Bool} (D : SupC K P mg C cc F ar)
    (lk : ∃ (oc : Value) (od : Option Addr) (dV kV doc pm : Value) (an : Option Addr) (ct : Value) (osl : Array (Option Value)), fd = PySem.W.fnX F.name F.qual F.params F.body F.scope F.cl dV kV doc pm an (.ref F.c) ct ∧ K.lookup f = some ⟨oc, od, .func fd, osl⟩)
    (S : NScope N ps ["__class__"] F.scope) (hps : ps = ar.arg :: pr) (hB : F.body = .Expr (.Call (.Attribute (.Call (.Name "super" p0) [] [] p1) "__init__" p2) (e :: es) [] pos) pos' :: rest)
    (len : ∀ vs H Q E, sp vs H Q E → vs.length = ps.length)
    (hc : ∀ env, eval (.Call (.Attribute (.Call (.Name "super" p0) [] [] p1) "__init__" p2) (e :: es) [] pos) env = (do
      let ov ← attributeBase (.Call (.Name "super" p0) [] [] p1) "__init__" env (eval (.Call (.Name "super" p0) [] [] p1) env)
      standAt p2.atName
      let (f, first) ← holding [ov] (getMethod ov "__init__" (pl env))
      callWith pos f first (backTo pos (starEach (e :: es) env)) []))
    (he : ∀ env, starEach (e :: es) env = (false, eval e env) :: starEach es env) (hpl : ∀ env, (backTo pos (starEach es env)).any (·.1) = false)
    (hi : ∀ env : Env, env.scope = F.scope → interactive env = false) (hs : ∀ env, swapsWith (.Call (.Attribute (.Call (.Name "super" p0) [] [] p1) "__init__" p2) (e :: es) [] pos) none pos'.line env = pure false)
    (hbody : ∀ (A : Around) (outer : List Env) (s : Shared) (H : Hp) (vs : List V) (Q : VK) (E : XK), Room k (A.deeper (envF F f s.heap.objs.size)) → sp vs H Q E →
      ∃ (a : Addr) (vr : List V) (ta : TA) (t : TS), vs = .ref a :: vr ∧ H a = some (exo a C none) ∧ PA (ncx CX P w K mg base N F f A outer s H E) (e :: es) ta ∧ PSs (ncx CX P w K mg base N F f A outer s H E) rest t ∧
        ta (startF N vs [some (.ref C)]) H (fun ws H1 => ws.length ≤ 1000 ∧ H1 a = some (exo a C none) ∧ t { nx := fun _ H' => Q .non H', rt := Q } (startF N vs [some (.ref C)]) H1)) :
    FnOk P w K mg base CX (k + 1) f fd ps sp := by
  obtain ⟨oc, od, dV, kV, doc, pm, an, ct, osl, rfl, lk⟩ := lk
  refine ⟨len, fun A outer s H args us vs Q E hr e0 hb r hsp => ?_⟩
  have KB : K.In base := e0.mod.kin
  have KX : K.In s.heap := e0.mod.kin.keeps fun b o e => (e0.bs b o e).1
  have hl := len _ _ _ _ hsp
  have lim : s.heap.NoLimit := e0.mod.nolimit.keeps fun b o e => (e0.bs b o e).1
  obtain ⟨c1, c2, c3, hcell⟩ := D.cell
  obtain ⟨f1, f2, fvs, f3, fl, tf, hfc, hfv, hfl⟩ := D.file
  refine codeAny_call_function hr.depth (KX _ _ lk) rfl S.co S.gen rfl (PySem.W.codeRec_of KX D.cd) (hb _ _ _ _ ?_)
  refine wpAny_newFunctionEnv S.nocell (fun ⟨n, _⟩ hy => S.par n (List.of_mem_zip hy).1) (fun h₁ hns hsb => ⟨lim.fresh _ hsb, ?_⟩) S.kind
  show codeAny _ _ (.func F.body (envF F f s.heap.objs.size)) _ _
  have kp : ∀ b o, s.heap.get? b = some o → h₁.get? b = some o := fun b o e => hsb.extBut b o (Nat.ne_of_lt (Heap.lt_size e)) (Heap.get?_push_of_some _ e)
  obtain ⟨a, vr, ta, t, rfl, ha, hA, hT, hq⟩ := hbody A outer s H vs Q E (hr.deeper _) hsp
  have CA : CellsAt F.cl ["__class__"] [some (.ref C)] s.heap H := by
    rw [D.cl]
    refine ⟨rfl, fun y c e => ?_, fun x y c h1 h2 => ?_, fun i y hi => ?_⟩
    · have e' : c = cc := by
        simp only [List.lookup] at e
        split at e
        · exact (Option.some.inj e).symm
        · cases e
      subst e'
      exact ⟨(e0.bs _ _ (KB _ _ hcell)).2, _, _, KX _ _ hcell, rfl⟩
    · have one : ∀ {z : Str} {c : Addr}, ([(("__class__" : Str), cc)] : List (Str × Addr)).lookup z = some c → z = "__class__" := fun {z c} e => by
        simp only [List.lookup] at e
        split at e
        · rename_i h
          exact eq_of_beq h
        · cases e
      rw [one h1, one h2]
    · cases i with
      | zero =>
        cases hi
        exact ⟨cc, by simp [List.lookup], fun v hv => by cases hv; exact ⟨.ref C, rfl, _, KX _ _ hcell, rfl⟩⟩
      | succ i => cases hi
  have I : Inv (ncx CX P w K mg base N F f A outer s H E) [] (startF N (.ref a :: vr) [some (.ref C)]) H { s with heap := h₁, toks := s.toks + (ps.zip us).length } := inv_startN S hr.hd e0 hl r CA hns kp
  refine PySem.ks_codeAny_funcAt ?_
  have fin : ∀ {σ' : L2.St} {H' : Hp} {v : V} {u : Value} {s' : Shared}, Inv (ncx CX P w K mg base N F f A outer s H E) [] σ' H' s' → L2.RelV v u → Q v H' → CE outer P w H s Q u s' :=
    fun {σ' H' v u s'} J rv q => ⟨v, H', J.os, J.bare, J.base, J.hok, rv, q⟩
  -- the rest of the body
  have last : ∀ {H1 : Hp} {s1 : Shared}, Inv (ncx CX P w K mg base N F f A outer s H E) [] (startF N (.ref a :: vr) [some (.ref C)]) H1 s1 → t { nx := fun _ H' => Q .non H', rt := Q } (startF N (.ref a :: vr) [some (.ref C)]) H1 →
      PySem.wpAt (model P w) (A.deeper (envF F f s.heap.objs.size)) (.func F.body (envF F f s.heap.objs.size)) (execs rest (envF F f s.heap.objs.size)) (fun fl s' => CR CX outer P w H s Q E (.ok (.ret (match fl with | .ret v => v | _ => .none))) s')
        (fun e s' => wpAny (model P w) (A.deeper (envF F f s.heap.objs.size)) (leaving (envF F f s.heap.objs.size) e) (fun _ s'' => CR CX outer P w H s Q E (.error e) s'') (fun e' s'' => CR CX outer P w H s Q E (.error e') s'') s') s1 := by
    intro H1 s1 J q
    refine PySem.wpAt_of_wpAny (wpAny_mono (hT.run [] s1 _ H1 _ J q) (fun fl s' hs => ?_) fun e s' hs => hs)
    cases fl with
    | ret u =>
      obtain ⟨v, σ', H', J, rv, q⟩ := hs
      exact fin J rv q
    | next =>
      obtain ⟨σ', H', J, q⟩ := hs
      exact fin (v := V.non) (u := Value.none) J rfl q
    | brk =>
      obtain ⟨_, _, _, q⟩ := hs
      exact False.elim q
    | cont =>
      obtain ⟨_, _, _, q⟩ := hs
      exact False.elim q
  rw [hB]
  rw [hB] at last
  obtain ⟨nm, qn, Nn, bs, bm, sn, sub, ab, col, dd, k0, k1, k2, k3, k5, hCk, hbm⟩ := D.oex.cls
  obtain ⟨t1, hx⟩ := exo_at I.hok ha
  obtain ⟨cd, hcl, hal⟩ : ∃ cd, PySem.W.clsIn K C = some cd ∧ PySem.W.alongIn K "__init__" ((cd.mro.dropWhile (· != .ref C)).drop 1) = some (some (.builtin "ValueError.__init__")) := by
    have z := D.sup
    unfold PySem.W.ks_superIn at z
    cases hc : PySem.W.clsIn K C with
    | none => rw [hc] at z; cases z
    | some cd => rw [hc] at z; exact ⟨cd, rfl, z⟩
  have hv : (ps.zip us).reverse.lookup ar.arg = some (.ref a) := by
    have ndP : ps.Nodup := by
      have q := S.nd.sublist (List.take_sublist (ps.length + [("__class__" : Str)].length) N)
      rw [S.pre] at q
      exact (List.nodup_append.mp q).1
    cases r with
    | @cons _ u0 _ ur ra rr =>
      obtain rfl : u0 = Value.ref a := ra
      exact zip_look (i := 0) ndP (by rw [hps]; rfl) rfl
  obtain ⟨mb, b1, b2⟩ := e0.mod.blt
  have K1 : K.In h₁ := KX.keeps kp
  have hcl0 : F.cl.lookup ("__class__" : Str) = some cc := by rw [D.cl]; simp [List.lookup]
  refine PySem.ks_wpAt_execs_cons (PySem.ks_wpAt_Expr_any (PySem.ks_wpAt_MethodCall (pl := pl _) ?_ (hc _)) (hi _ rfl) (hs _))
  refine PySem.ks_wpAt_super_base (ar := ar) D.ks (S.frk _ (.head _)) (by decide) rfl (K1 _ _ lk) rfl D.hp rfl (K1 _ _ hfc) rfl hfv hfl D.top ?_
  refine PySem.W.ks_loadName_global S.kind D.ks (PySem.Calls.loadGlobal_builtin (env := envF F f s.heap.objs.size) (e0.mod.glob.keeps I.bk) D.ms (b1.keeps I.bk) ((b2 "super" (by decide)).trans (show bootBuiltins "super" = some (.type "super") by decide +kernel)) ⟨rfl, ?_⟩)
  refine wpAny_loadName_free S.kind (S.frk _ (.head _)) hcl0 ⟨_, K1 _ _ hcell, rfl⟩ ?_
  refine wpAny_loadName_local S.kind (S.par ar.arg (by rw [hps]; exact .head _)) hns hv ?_
  refine PySem.ks_wpAny_isType_cls (K1 _ _ hCk) rfl ⟨rfl, ?_⟩
  refine PySem.ks_wpAny_call_super (K1 _ _ hCk) rfl hx rfl (fun c e => nomatch e) (PySem.W.looks_mroIn K1 D.hsub) (fun h2 eo k2 => ?_)
  have I2 := I.un (t' := s.toks + (ps.zip us).length) (h' := h2) (Un.kept k2) (I.hok.kept k2)
  have K2 : K.In h2 := K1.keeps k2
  have IA : PySem.W.InstAt h2 a (PySem.W.excObj C t1 none .none) C none := ⟨k2 _ _ hx, rfl, rfl, trivial⟩
  refine PySem.W.kxs_getMethod PySem.W.kxs_ValueError eo (PySem.W.looks_opaque K2 D.op) (l₀ := cd.mro) (fun A Q E s k q => wpAny_bind ((PySem.W.looks_clsIn K2 hcl) A _ E s k (wpAny_pure q))) rfl K2 hal (IA.type.andThen (PySem.W.looks_subIn K2 D.sB)) (PySem.W.ks_ne K2 IA hcl) (by decide) ?_
  have k3 : ∀ b o, h2.get? b = some o → (h2.push (PySem.W.kxs_mw "ValueError.__init__" a)).get? b = some o := fun b o e => Heap.get?_push_of_some _ e
  have I3 := I2.un (t' := s.toks + (ps.zip us).length + 1) (h' := h2.push (PySem.W.kxs_mw "ValueError.__init__" a)) (Un.kept k3) (I2.hok.kept k3)
  have hu3 : (h2.push (PySem.W.kxs_mw "ValueError.__init__" a)).get? h2.objs.size = some (PySem.W.kxs_mw "ValueError.__init__" a) := Heap.get?_push_at rfl rfl
  have I4 : Inv (ncx CX P w K mg base N F f A outer s H E) [(h2.objs.size, PySem.W.kxs_mw "ValueError.__init__" a)] (startF N (.ref a :: vr) [some (.ref C)]) H _ := I3.pins_of fun p hp => by
    rw [List.mem_singleton.mp hp]
    exact ⟨hu3, I2.hok.fresh (Nat.le_refl _), Nat.ne_of_gt I2.lt, I2.nofs (Nat.le_refl _), fun v z => nomatch z⟩
  have args : wpAny (model P w) (A.deeper (envF F f s.heap.objs.size)) (spliced (backTo pos (starEach (e :: es) (envF F f s.heap.objs.size)))) _ _ _ := hA.run pos _ _ _ H _ I4 hq
  rw [he] at args
  show wpAny _ _ (callWith pos (.ref h2.objs.size) [] (backTo pos (starEach (e :: es) (envF F f s.heap.objs.size))) []) _ _ _
  rw [he]
  refine PySem.W.kxs_callWith (i := "ValueError.__init__") (x := a) (by show (false || (backTo pos (starEach es _)).any (·.1)) = false; rw [hpl]; rfl) (PySem.Calls.evalArgs_plain ?_)
  refine wpAny_mono args (fun ws s1 hw => ?_) fun e s' hs => hs
  obtain ⟨vs, H1, J, rv, hlen, e1, q⟩ := hw
  have hu := (J.pin _ (List.mem_append_right _ (.head _))).1
  have J0 : Inv (ncx CX P w K mg base N F f A outer s H E) [] (startF N (.ref a :: vr) [some (.ref C)]) H1 s1 := J.pins_of fun p hp => absurd hp (by simp)
  have hlen' : ws.length ≤ sizeLine := by rw [← rv.length, sizeLine_eq]; omega
  exact ⟨hu, mw_ok (X := ncx CX P w K mg base N F f A outer s H E) D.oex J0 e1 hu hlen' fun s' J' => last J' q⟩
end
end LT

set_option Elab.async false
set_option linter.all false
set_option maxRecDepth 100000
set_option maxHeartbeats 1600000
/-! Own layer: a def to which a caught error with a field is handed: isinstance of it, its field; repr of lists of data; the __init__ of such errors. -/
namespace LT
open PySem PySem.Spec PyProof.Rows L2 NdefX
section
variable {X : Cx} {a D dd : Addr} {oe : Obj} {fs : List (Str × V)}
theorem pinned_dd {pins : List (Addr × Obj)} {σ : L2.St} {H : Hp} {s : Shared} (I : Inv X pins σ H s) (hp : (a, oe) ∈ X.pn) (hz : Zc (.ref D) (some dd) oe)
    (hf : ∃ vs, oe.data = .fields vs) (hd : H dd = some (.xd fs)) : ∃ od, PySem.W.InstAt s.heap a oe D (some od) := by
  obtain ⟨hget, _⟩ := I.pin (a, oe) (List.mem_append_left _ hp)
  obtain ⟨vs, hv⟩ := hf
  have hx : ObjOk X.prog X.w H s.heap dd (.xd fs) := I.hok dd _ hd
  obtain ⟨mA, hns, hr⟩ := hx
  obtain ⟨od, ho, hl⟩ := lookIn_ns hns
  exact ⟨od, hget, hz.1, by unfold PySem.W.notCls; rw [hv] <;> rfl, by rw [hz.2]; exact ho⟩
theorem cls_some {K : PySem.W.Frag} {D : Addr} (h : PySem.W.hasDictIn K D = true) : (PySem.W.clsIn K D).isSome = true := by
  obtain ⟨cd, hc, _⟩ := PySem.W.any_some h
  rw [hc]
  rfl
theorem call_isF (hp : (a, oe) ∈ X.pn) (C : ExcC X.K D) (hz : Zc (.ref D) (some dd) oe) (hf : ∃ vs, oe.data = .fields vs) :
    CallR X (.builtin "isinstance") (fun xs H Q => ∃ (fs : List (Str × V)) (c : V) (cv : Value) (b : Bool), H dd = some (.xd fs) ∧ xs = [.ref a, c] ∧ ClsV c cv ∧ PySem.W.kitOne X.K (.ref D) cv = some b ∧ Q (.bl b) H) := by
  intro pins s σ H xs us Q I r h
  obtain ⟨fs, c, cv, b, hd, rfl, hc, e, q⟩ := h
  obtain ⟨u1, u2, rfl, r1, r2⟩ := vals2 r
  have e2 := hc.eq r2
  subst e2
  cases r1
  obtain ⟨od, J⟩ := pinned_dd I hp hz hf hd
  exact PySem.W.kia_one (PySem.W.kitx_exc (cls_some C.hd) C.hg C.hk C.hs C.ha C.hn C.ht C.hm) I.kIn J e (fun z => nomatch z)
    fun tk => ⟨.bl b, H, I.tok tk, rfl, q⟩
theorem call_isFT (hp : (a, oe) ∈ X.pn) (C : ExcC X.K D) (hz : Zc (.ref D) (some dd) oe) (hf : ∃ vs, oe.data = .fields vs) :
    CallR X (.builtin "isinstance") (fun xs H Q => ∃ (fs : List (Str × V)) (tp : Addr) (cs : List V) (us : List Value) (b : Bool), H dd = some (.xd fs) ∧ xs = [.ref a, .ref tp] ∧ H tp = some (.tup cs) ∧ Paired ClsV cs us ∧
      PySem.W.kitAny X.K (.ref D) us = some b ∧ Q (.bl b) H) := by
  intro pins s σ H xs us Q I r h
  obtain ⟨fs, tp, cs, ws, b, hd, rfl, hT, k, e, q⟩ := h
  obtain ⟨u1, u2, rfl, r1, r2⟩ := vals2 r
  cases r1
  cases (show u2 = Value.ref tp from r2)
  obtain ⟨_, its, rv, o, h1, h2, n, h3⟩ := (show ObjOk X.prog X.w H s.heap tp (.tup cs) from I.hok tp _ hT)
  have e3 := ClsV.all k rv
  subst e3
  obtain ⟨oc, od', dt, sl⟩ := o
  simp only at h2 h3
  subst h2 h3
  obtain ⟨od, J⟩ := pinned_dd I hp hz hf hd
  exact PySem.W.kia_tup (PySem.W.kitx_exc (cls_some C.hd) C.hg C.hk C.hs C.ha C.hn C.ht C.hm) I.kIn J h1 e (fun z => nomatch z)
    fun tk => ⟨.bl b, H, I.tok tk, rfl, q⟩
/-- e.f of the pinned error -/
theorem pe_xfP {e : Expr} {te : TE} {pos : Pos} {n : Str} (hp : (a, oe) ∈ X.pn) (T : XfC X.K D) (hno : PySem.W.findIn X.K (.ref D) n = some none)
    (hz : Zc (.ref D) (some dd) oe) (hf : ∃ vs, oe.data = .fields vs) (he : PE X e te) (hb : attributeBase e n X.env (eval e X.env) = eval e X.env := by rfl) :
    PE X (.Attribute e n pos) (tXf a (.ref D) (some dd) D n te) := by
  refine ⟨fun pins s σ H Q I h => ?_⟩
  refine attr_of hb (thn (he.run pins s σ H _ I h) fun u s1 hh => ?_)
  obtain ⟨x, H1, I1, rx, ex, _, dd', fs, v, ed, ea, l, q⟩ := hh
  subst ex
  obtain rfl : u = Value.ref a := rx
  cases ed
  obtain ⟨ha, _⟩ := I1.pin (a, oe) (List.mem_append_left _ hp)
  obtain ⟨vs, hd⟩ := hf
  have hx : ObjOk X.prog X.w H1 s1.heap dd (.xd fs) := I1.hok dd _ ea
  obtain ⟨mA, hns, hr⟩ := hx
  obtain ⟨od, ho, hl⟩ := lookIn_ns hns
  obtain ⟨u, hu, ru⟩ := RelO.some_of (v := v) (o := mA n) (by rw [← l]; exact hr n)
  have J : PySem.W.InstAt s1.heap a oe D (some od) := ⟨ha, hz.1, by unfold PySem.W.notCls; rw [hd] <;> rfl, by rw [hz.2]; exact ho⟩
  exact HandSPX.exc_get I1.kIn J T.ga T.gg T.exC (PySem.W.findObj_own T.hdC hno rfl (by rw [hl, hu])) (handed_of ru) ⟨v, H1, I1.tok _, ru, q⟩
end

/-! ### an own error's __init__(self, field): super().__init__(f".. {field}"); self.field = field -/
abbrev nfI (st : Stmt) (qual : Str) (cc c : Addr) : NF := ⟨"__init__", qual, defArgs st, defBody st, defScope st, [(("__class__" : Str), cc)], c⟩
abbrev arI (st : Stmt) : Arg := ((defArgs st).posonlyargs ++ (defArgs st).args).head!
abbrev LkI (K : PySem.W.Frag) (F : NF) (f : Addr) (fd : FuncData) : Prop := ∃ (oc : Value) (od : Option Addr) (dV kV doc pm : Value) (an : Option Addr) (ct : Value) (osl : Array (Option Value)), fd = PySem.W.fnX F.name F.qual F.params F.body F.scope F.cl dV kV doc pm an (.ref F.c) ct ∧ K.lookup f = some ⟨oc, od, .func fd, osl⟩
theorem nil_app (x : Str) : Str.empty ++ x = x := by
  cases x with
  | mk a =>
    show Str.mk (#[] ++ a) = Str.mk a
    rw [Array.empty_append]
/-- its promise: the field is kept -/
def spErr (C : Addr) (fld : Str) : Sp := fun vs H Q _ => ∃ (a : Addr) (z : Str), vs = [.ref a, .str z] ∧ z.length ≤ 1000 ∧ H a = some (exo a C none) ∧ ∀ dx, H dx = none → dx ≠ a → Q .non (upd (upd H dx (exd dx [(fld, .str z)])) a (exo a C (some dx)))
/-- raise X("..."), as its maker leaves the heap -/
theorem err_made {H : Hp} {a C : Addr} {fld z : Str} {Q : XK} (na : H a = none) (hz : z.length ≤ 1000) (h : ∀ d H', H d = none → Same H H' → H' d = some (.xd [(fld, .str z)]) → Q (.ref C) (some d) H') :
    spErr C fld (.ref a :: ([.str z] ++ [])) (upd H a (exo a C none))
      (fun v H2 => v = .non ∧ ∃ (d : Addr) (fs : List (Str × V)), H2 a = some (exo a C (some d)) ∧ H2 d = some (exd d fs) ∧ H d = none ∧ Q (.ref C) (some d) (upd (del H2 a) d (.xd fs))) (fun _ _ _ => False) := by
  refine ⟨a, z, rfl, hz, upd_same, fun dx n1 n2 => ⟨rfl, dx, [(fld, .str z)], upd_same, ?_, ?_, ?_⟩⟩
  · rw [upd_ne n2, upd_same]
  · rw [upd_ne n2] at n1
    exact n1
  · rw [upd_ne n2] at n1
    refine h dx _ n1 (fun b o e => ?_) upd_same
    have nb := ne_of_none e na
    have nd := ne_of_none e n1
    rw [upd_ne nd, del_ne nb, upd_ne nb, upd_ne nd, upd_ne nb]
    exact e

/-! ### repr of a list of data, among them dicts without entries -/
inductive Sd (K : PySem.W.Frag) (H : Hp) : V → PyData → Prop
  | dp {v : V} {d : PyData} : Dp K H v d → d.hasDict = false → Sd K H v d
  | ed {a : Addr} : H a = some (.dK []) → Sd K H (.ref a) (.dict [])
theorem Sd.mono {K : PySem.W.Frag} {H H' : Hp} {v : V} {d : PyData} (s : Same H H') (h : Sd K H v d) (hm : Dp K H v d → Dp K H' v d) : Sd K H' v d := by
  cases h with
  | dp h hd => exact .dp (hm h) hd
  | ed h => exact .ed (s _ _ h)
section
variable {X : Cx} {pins : List (Addr × Obj)} {σ : L2.St} {H : Hp} {s : Shared}
theorem Sd.reads (I : Inv X pins σ H s) {v : V} {d : PyData} {u : Value} (h : Sd X.K H v d) (r : RelV v u) :
    ∃ as, Reads s.heap u d as ∧ (d.hasDict = true → sysModules ∉ as) := by
  cases h with
  | dp h hd =>
    obtain ⟨as, q⟩ := Dp.reads I d v u h r
    exact ⟨as, q, PyData.noDict_hsm hd⟩
  | ed h =>
    rename_i a
    cases r
    obtain ⟨_, hs, vs, rel, o, es, ep, ho, hx, hd, hko, hp, hn⟩ := I.hok a _ h
    cases rel
    generalize hes : es.toList = l at hp
    cases hp
    refine ⟨_, Reads.dict (as := []) (bs := []) (kvs := []) ho hx.1 hd ?_ ?_, fun _ z => ?_⟩
    · rw [hes]; exact .nil
    · rw [hes]; exact .nil
    · have z2 : sysModules = a := by simpa using z
      rw [z2] at hs
      simp at hs
theorem Sd.all (I : Inv X pins σ H s) : ∀ {vs : List V} {ds : List PyData} {us : List Value}, Paired (Sd X.K H) vs ds → Vals vs us → PyData.showableAll ds = true → (∀ t ∈ PyData.shownAll ds, t.length ≤ sizeLine) →
    ∃ as bs, ReadsAll s.heap us ds as ∧ ReadAtMost s.heap (PyData.depthAll ds) bs ∧ ReprAllK X.prog X.w bs s.heap (PyData.depthAll ds) us (PyData.shownAll ds)
  | _, _, _, .nil, r, _, _ => by
    cases r
    exact ⟨_, [], .nil, (fun _ h => nomatch h), by simp only [PyData.shownAll]; exact .nil⟩
  | _ :: _, d :: ds, _, .cons h hs, r, sh, hz => by
    cases r with
    | cons r1 r2 =>
      have sh' : d.showable = true ∧ PyData.showableAll ds = true := by simpa [PyData.showableAll] using sh
      obtain ⟨as, q1, n1⟩ := h.reads I r1
      obtain ⟨b1, hb1, k1⟩ := ReprK.of_reads (prog := X.prog) (w := X.w) q1 sh'.1 n1 (hz _ (by simp only [PyData.shownAll]; exact List.mem_cons_self ..))
      obtain ⟨bs, b2, q2, hb2, k2⟩ := Sd.all I hs r2 sh'.2 (fun t ht => hz t (by simp only [PyData.shownAll]; exact List.mem_cons_of_mem _ ht))
      refine ⟨_, b1 ++ b2, .cons q1 q2, ?_, ?_⟩
      · simp only [PyData.depthAll]
        exact (hb1.mono (Nat.le_max_left _ _)).append (hb2.mono (Nat.le_max_right _ _))
      · simp only [PyData.depthAll, PyData.shownAll]
        exact .cons ((k1.more fun b hb => List.mem_append_left _ hb).level_le (Nat.le_max_left _ _)) (k2.more_le (fun b hb => List.mem_append_right _ hb) (Nat.le_max_right _ _))
theorem call_reprSd (hG : X.A.guards = some []) (hu : X.A.units + 64 < cLine) : CallR X (.builtin "repr")
    (fun xs H Q => ∃ l vs ds, xs = [.ref l] ∧ SqL X.K H l vs ∧ Paired (Sd X.K H) vs ds ∧ (PyData.list ds).showable = true ∧ (PyData.list ds).depth ≤ 60 ∧ (PyData.list ds).shown.length ≤ sizeLine ∧
      Q (.str (PyData.list ds).shown) H) := by
  intro pins s σ H xs us Q I r h
  obtain ⟨l, vs, ds, rfl, hl, hs, sh, dp, sz, q⟩ := h
  obtain ⟨u, rfl, ru⟩ := vals1 r
  cases ru
  obtain ⟨its, rv, ⟨o, n, ho, hc, _, hd⟩, _⟩ := I.list hl
  have hz' : (listText (PyData.shownAll ds)).length ≤ sizeLine := by simpa only [PyData.shown] using sz
  obtain ⟨as, bs, rd, hb, hk⟩ := Sd.all I hs rv (by simpa [PyData.showable] using sh) (fun t ht => Nat.le_trans (listText_mem_le ht) hz')
  have hna : l ∉ bs := not_mem_of_deeper (.list ho hc hd rd) (by simp only [PyData.depth]; omega) hb
  have dp2 : PyData.depthAll ds + 1 ≤ 60 := by simpa only [PyData.depth] using dp
  have q2 : Q (.str (listText (PyData.shownAll ds))) H := by simpa only [PyData.shown] using q
  refine call_repr_slot (by omega) (show s.TypeIs (.ref l) "list" from ⟨o, ho, hc⟩) F.slot_list_repr.toG ?_
  cases its with
  | nil =>
    cases rd
    simp only [PyData.shownAll, listText_nil] at q2
    exact call_list_repr_empty ⟨o, ho, hc⟩ ho hd ⟨_, _, rfl, ⟨.str _, H, I.kept fun _ _ e => e, ⟨_, rfl⟩, q2⟩⟩
  | cons x l' =>
    exact call_list_reprK (A := X.A.in1) ho hc hd hna (by simpa using hk.length_eq) (fun i y e => hk.item i y (by simpa using e)) hG (fun b _ => Clear.nil b) (by show X.A.units + 1 + _ < cLine; omega) (fun _ _ e => e)
      (fun h' u tk hk' => ⟨_, _, rfl, ⟨.str _, H, I.kept hk', ⟨_, rfl⟩, q2⟩⟩) hz'
end
/-! ### keywords in any turn, no defaults -/
theorem vals_rev : ∀ {vs : List V} {us : List Value}, Vals vs us → Vals vs.reverse us.reverse
  | _, _, .nil => .nil
  | _, _, .cons h r => by
    rw [List.reverse_cons, List.reverse_cons]
    exact (vals_rev r).append (.cons h .nil)
theorem kbn_of {K : PySem.W.Frag} {y qual : Str} {st : Stmt} {f : Addr} {fd : FuncData} {ps : List Str} (F : Fun K y qual st f fd) (n : Nat) (ks : List Str) (g : {α : Type} → List α → List α → List α)
    (hrel : ∀ {vs zs : List V} {us ws : List Value}, Vals vs us → Vals zs ws → Vals (g vs zs) (g us ws))
    (h : ∀ (kV doc pm : Value) (an : Option Addr) (cdv ct : Value) (us ws : List Value), us.length = n → ws.length = ks.length →
      bindArgs (PySem.W.fnOf y qual (defArgs st) (defBody st) (defScope st) .none kV doc pm an cdv ct) ⟨us, ks.zip ws⟩ = pure (ps.zip (g us ws))) :
    KBn K fd ps n ks (fun us ws => g us ws) (fun vs zs => g vs zs) := by
  obtain ⟨oc, od, kV, doc, pm, an, cdv, ct, osl, rfl, lk, hcd⟩ := F.ex
  exact ⟨fun s us ws _ l1 l2 => .of_eq (h kV doc pm an cdv ct us ws l1 l2), fun r1 r2 => hrel r1 r2⟩
end LT

set_option Elab.async false
set_option linter.all false
set_option maxRecDepth 100000
set_option maxHeartbeats 1600000
namespace K31
open PySem PySem.Spec PyProof.Rows L2 LT NdefX
def topS (i : Nat) : Stmt := PySem.Challenge.pw_lightturns_k31_boats_made.main.body.getD i (.Pass ⟨0, 0, 0, 0⟩)
abbrev sWhole : Stmt := topS 13
abbrev sFrom : Stmt := topS 14
abbrev sCls : Stmt := topS 16
abbrev sCell : Stmt := topS 18
abbrev sPot : Stmt := topS 19
abbrev sTake : Stmt := topS 20
abbrev sNumber : Stmt := topS 21
abbrev sOdd : Stmt := topS 22
abbrev sWrong : Stmt := topS 23
abbrev sField : Stmt := topS 24
abbrev sMade : Stmt := topS 25
abbrev sMet : Stmt := topS 26
abbrev sLaw : Stmt := topS 27
abbrev sErrI : Stmt := inClass (topS 7) 0
abbrev sInit : Stmt := inClass sCls 0
abbrev sSeats : Stmt := inClass sCls 1
abbrev sCarries : Stmt := inClass sCls 2
abbrev sMan : Stmt := inClass sCls 3
structure Tx (mg : Str → Option Value) : Prop where
  isi : mg "isinstance" = none
  int : mg "int" = none
  bool : mg "bool" = none
  len : mg "len" = none
  abs : mg "abs" = none
  max : mg "max" = none
  min : mg "min" = none
  divmod : mg "divmod" = none
  range : mg "range" = none
  repr : mg "repr" = none
  zip : mg "zip" = none
  ve : mg "ValueError" = none
/-- a def that stands as a name of the module -/
structure Has (K : PySem.W.Frag) (mg : Str → Option Value) (x : Str) (ps : List Str) (st : Stmt) (f : Addr) (fd : FuncData) : Prop where
  fn : Fun K x x st f fd
  bd : L2.Binds K fd ps []
  gl : mg x = some (.ref f)
/-- a method of the class at C -/
structure Mth (K : PySem.W.Frag) (C : Addr) (m q : Str) (ps : List Str) (st : Stmt) (f : Addr) (fd : FuncData) : Prop where
  fn : Fun K m q st f fd
  bd : L2.Binds K fd ps []
  me : Meth K C m f
/-- what is handed in -/
inductive Odd (H : Hp) : V → Prop
  | non : Odd H .non
  | bl (b : Bool) : Odd H (.bl b)
  | int (i : Int) : Odd H (.int i)
  | str (z : Str) : Odd H (.str z)
  | lst {a : Addr} {xs : List V} : H a = some (.lst xs) → Odd H (.ref a)
  | tup {a : Addr} {xs : List V} : H a = some (.tup xs) → Odd H (.ref a)
  | dK {a : Addr} {kvs : List (Key × V)} : H a = some (.dK kvs) → Odd H (.ref a)
theorem Odd.mono {H H' : Hp} (s : Same H H') {v : V} (h : Odd H v) : Odd H' v := by
  cases h with
  | non => exact .non
  | bl b => exact .bl b
  | int i => exact .int i
  | str z => exact .str z
  | lst e => exact .lst (s _ _ e)
  | tup e => exact .tup (s _ _ e)
  | dK e => exact .dK (s _ _ e)
def isInt : V → Bool
  | .int _ => true
  | .bl _ => true
  | _ => false
def isBl : V → Bool
  | .bl _ => true
  | _ => false
theorem Odd.ty {K : PySem.W.Frag} {H : Hp} {v : V} (h : Odd H v) : ∃ t, TyX K H v t ∧ PySem.W.kitOne K t (.type "int") = some (isInt v) ∧ PySem.W.kitOne K t (.type "bool") = some (isBl v) := by
  cases h with
  | non => exact ⟨_, .base .non, kit_ty (show kitB "NoneType" "int" = some false by decide +kernel), kit_ty (show kitB "NoneType" "bool" = some false by decide +kernel)⟩
  | bl b => exact ⟨_, .base (.bl b), kit_ty (show kitB "bool" "int" = some true by decide +kernel), kit_ty (show kitB "bool" "bool" = some true by decide +kernel)⟩
  | int i => exact ⟨_, .base (.int i), kit_ty (show kitB "int" "int" = some true by decide +kernel), kit_ty (show kitB "int" "bool" = some false by decide +kernel)⟩
  | str z => exact ⟨_, .base (.str z), kit_ty (show kitB "str" "int" = some false by decide +kernel), kit_ty (show kitB "str" "bool" = some false by decide +kernel)⟩
  | lst e => exact ⟨_, .base (.lst e), kit_ty (show kitB "list" "int" = some false by decide +kernel), kit_ty (show kitB "list" "bool" = some false by decide +kernel)⟩
  | tup e => exact ⟨_, .base (.tup e), kit_ty (show kitB "tuple" "int" = some false by decide +kernel), kit_ty (show kitB "tuple" "bool" = some false by decide +kernel)⟩
  | dK e => exact ⟨_, .base (.dK e), kit_ty (show kitB "dict" "int" = some false by decide +kernel), kit_ty (show kitB "dict" "bool" = some false by decide +kernel)⟩
def wholeB : V → Bool
  | .int _ => true
  | _ => false
theorem whole_eq (v : V) : (isInt v && !isBl v) = wholeB v := by cases v <;> rfl
def fromB : V → Int → Bool
  | .int i, l => decide (l ≤ i)
  | _, _ => false
section
variable {P : Program} {w : World} {K : PySem.W.Frag} {mg : Str → Option Value} {base : Heap}
theorem scWhole : FnScope ["thing"] ["thing"] (defScope sWhole) := ⟨rfl, rfl, rfl, by decide +kernel, rfl, by decide +kernel, by decide +kernel⟩
theorem scFrom : FnScope ["thing", "least"] ["thing", "least"] (defScope sFrom) := ⟨rfl, rfl, rfl, by decide +kernel, rfl, by decide +kernel, by decide +kernel⟩
theorem scInit : FnScope ["self", "seats", "carries", "man"] ["self", "seats", "carries", "man"] (defScope sInit) := ⟨rfl, rfl, rfl, by decide +kernel, rfl, by decide +kernel, by decide +kernel⟩
theorem scErr : NScope ["self", "field", "__class__"] ["self", "field"] ["__class__"] (defScope sErrI) := nscope_by (by decide +kernel)
def spWhole : Sp := fun vs H Q _ => ∃ v, vs = [v] ∧ Odd H v ∧ Q (.bl (wholeB v)) H
def spFrom : Sp := fun vs H Q _ => ∃ v l, vs = [v, .int l] ∧ Odd H v ∧ Q (.bl (fromB v l)) H
theorem ok_whole {f : Addr} {fd : FuncData} {k : Nat} (F : Fun K "is_whole" "is_whole" sWhole f fd) (T : Tx mg) : FnOk P w K mg base CX0 (k + 1) f fd ["thing"] spWhole := by
  refine F.ok scWhole (fun vs H Q E h => ?_) (fun cdv A outer s H vs Q E hr h => ?_)
  · obtain ⟨v, rfl, _⟩ := h
    rfl
  · obtain ⟨v, rfl, hv, q⟩ := h
    refine ⟨_, pss_one (ps_ret (pe_and (pe_callB call_isi (by rfl) T.isi (by decide +kernel) (pa_cons (pv 0) (pa_cons (pe_bltn (v := .ty "int") (by rfl) T.int (by decide +kernel) rfl) pa_nil)))
      (pe_one (pe_not (pe_callB call_isi (by rfl) T.isi (by decide +kernel) (pa_cons (pv 0) (pa_cons (pe_bltn (v := .ty "bool") (by rfl) T.bool (by decide +kernel) rfl) pa_nil))))))), ?_⟩
    obtain ⟨t, ty, k1, k2⟩ := hv.ty (K := K)
    refine ⟨_, rfl, v, .ty "int", t, _, isInt v, rfl, .ty _, ty, k1, _, rfl, ?_⟩
    rw [← whole_eq v] at q
    cases hb : isInt v with
    | false =>
      rw [hb] at q
      exact q
    | true =>
      rw [hb] at q
      exact ⟨_, rfl, v, .ty "bool", t, _, isBl v, rfl, .ty _, ty, k2, _, rfl, q⟩
theorem ok_from {f fW : Addr} {fd fdW : FuncData} {k : Nat} (F : Fun K "is_from" "is_from" sFrom f fd) (T : Tx mg) (FW : Has K mg "is_whole" ["thing"] sWhole fW fdW) : FnOk P w K mg base CX0 (k + 2) f fd ["thing", "least"] spFrom := by
  have GW : FnOk P w K mg base CX0 (k + 1) fW fdW ["thing"] spWhole := ok_whole FW.fn T
  refine F.ok scFrom (fun vs H Q E h => ?_) (fun cdv A outer s H vs Q E hr h => ?_)
  · obtain ⟨v, l, rfl, _⟩ := h
    rfl
  · obtain ⟨v, l, rfl, hv, q⟩ := h
    refine ⟨_, pss_one (ps_ret (pe_and (pe_call GW hr (by rfl) FW.gl FW.fn.kp FW.bd .nil pass0 (pa_cons (pv 0) pa_nil)) (pe_one (pe_cmpR op_ge (pv 0) (pv 1) (nomark _))))), ?_⟩
    refine ⟨_, rfl, v, rfl, hv, _, rfl, ?_⟩
    cases hv with
    | int i => exact ⟨_, rfl, _, rfl, i, l, rfl, rfl, q⟩
    | _ => exact q
/-! ### NoBoat -/
structure Nb (K : PySem.W.Frag) (P : Program) (mg : Str → Option Value) (CN fN cc c : Addr) (fdN : FuncData) : Prop where
  sup : SupC K P mg CN cc (nfI sErrI "NoBoat.__init__" cc c) (arI sErrI)
  lk : LkI K (nfI sErrI "NoBoat.__init__" cc c) fN fdN
  hno : PySem.W.findIn K (.ref CN) "field" = some none
  ini : PySem.W.findIn K (.ref CN) "__init__" = some (some (.ref fN))
  tI : PySem.W.typeIn K (.ref fN) = some (.type "function")
  bd : L2.Binds K fdN ["self", "field"] []
  gl : mg "NoBoat" = some (.ref CN)
theorem ok_err {C fN cc c : Addr} {fdN : FuncData} (N : Nb K P mg C fN cc c fdN) : FnOk P w K mg base CX0 1 fN fdN ["self", "field"] (spErr C "field") := by
  refine sup_of (pr := ["field"]) (pl := fun _ => _) N.sup N.lk scErr rfl rfl (fun vs H Q E h => ?_) (fun _ => rfl) (fun _ => rfl) (fun _ => rfl) (fun _ e => ?_) (fun _ => rfl) (fun A outer s H vs Q E hr h => ?_)
  · obtain ⟨a, z, rfl, _⟩ := h
    rfl
  · unfold interactive
    rw [e]
    rfl
  · obtain ⟨a, z, rfl, hz, ha, q⟩ := h
    refine ⟨a, [.str z], _, _, rfl, ha, pa_cons (pe_joined (.cons pe_str (.cons (pe_fmt (pv 1)) .nil))) pa_nil, pss_one (ps_ost (pv 0) (pv 1)), ?_⟩
    refine ⟨_, rfl, ?_, _, rfl, .inl ⟨z, rfl, by rw [sizeLine_eq]; omega, _, rfl, ?_, ?_⟩⟩
    · rw [nil_app]; decide +kernel
    · rw [nil_app, strLen_append, sizeLine_eq, show (Str.ofString "no boat by its ").length = 15 by decide +kernel]
      omega
    · exact ⟨by show 1 ≤ 1000; decide, ha, _, rfl, _, rfl, a, C, rfl, N.sup.oex, N.hno, .inl ⟨ha, fun dx n1 n2 => q dx n1 n2⟩⟩
/-! ### Boat -/
structure Ct (K : PySem.W.Frag) (mg : Str → Option Value) (C : Addr) : Prop where
  cl : Cls K C
  nS : PySem.W.findIn K (.ref C) "many_seats" = some none
  nW : PySem.W.findIn K (.ref C) "most_weight" = some none
  nM : PySem.W.findIn K (.ref C) "man_weight" = some none
  mgC : mg "Boat" = some (.ref C)
  kC : PySem.W.keepIn K (.ref C) = true
def bf (s c m : V) : List (Str × V) := [("many_seats", s), ("most_weight", c), ("man_weight", m)]
def badF (s c m : V) : Option Str := if fromB s 1 = true then (if fromB c 1 = true then (if fromB m 1 = true then none else some "man") else some "carries") else some "seats"
def spInit (C CN : Addr) : Sp := fun vs H Q E => ∃ x dx s c m, vs = [.ref x, s, c, m] ∧ H x = some (.ins C dx []) ∧ Odd H s ∧ Odd H c ∧ Odd H m ∧
  (badF s c m = none → Q .non (upd H x (.ins C dx (bf s c m)))) ∧ (∀ z, badF s c m = some z → ∀ d H', H d = none → Same H H' → H' d = some (.xd [("field", .str z)]) → E (.ref CN) (some d) H')
theorem ok_init {f fF fW C CN fN cc c : Addr} {fd fdF fdW fdN : FuncData} {k : Nat} (F : Fun K "__init__" "Boat.__init__" sInit f fd) (T : Tx mg) (Z : Ct K mg C) (N : Nb K P mg CN fN cc c fdN)
    (FF : Has K mg "is_from" ["thing", "least"] sFrom fF fdF) (FW : Has K mg "is_whole" ["thing"] sWhole fW fdW) : FnOk P w K mg base (L2.CX P w) (k + 3) f fd ["self", "seats", "carries", "man"] (spInit C CN) := by
  have GF : FnOk P w K mg base CX0 (k + 2) fF fdF ["thing", "least"] spFrom := ok_from FF.fn T FW
  have GN : FnOk P w K mg base CX0 1 fN fdN ["self", "field"] (spErr CN "field") := ok_err N
  refine F.okX scInit (fun vs H Q E h => ?_) (fun cdv A outer s H vs Q E hr h => ?_)
  · obtain ⟨x, dx, s, c, m, rfl, _⟩ := h
    rfl
  · obtain ⟨x, dx, sv, cv, mv, rfl, hx, os, oc, om, q1, q2⟩ := h
    have hr2 : Room 2 _ := hr.mono (by omega)
    refine ⟨_, pss_cons (ps_if (pt_not (pt_val (pe_call GF hr (by rfl) FF.gl FF.fn.kp FF.bd .nil pass0 (pa_cons (pv 1) (pa_cons pe_int pa_nil)))))
        (pss_one (ps_raise rfl (takes_of rfl rfl rfl rfl) (pmk_oex N.sup.oex N.ini N.tI GN hr2 N.bd .nil pass0 (by rfl) N.gl (pa_cons pe_str pa_nil)))) pss_nil)
      (pss_cons (ps_if (pt_not (pt_val (pe_call GF hr (by rfl) FF.gl FF.fn.kp FF.bd .nil pass0 (pa_cons (pv 2) (pa_cons pe_int pa_nil)))))
        (pss_one (ps_raise rfl (takes_of rfl rfl rfl rfl) (pmk_oex N.sup.oex N.ini N.tI GN hr2 N.bd .nil pass0 (by rfl) N.gl (pa_cons pe_str pa_nil)))) pss_nil)
      (pss_cons (ps_if (pt_not (pt_val (pe_call GF hr (by rfl) FF.gl FF.fn.kp FF.bd .nil pass0 (pa_cons (pv 3) (pa_cons pe_int pa_nil)))))
        (pss_one (ps_raise rfl (takes_of rfl rfl rfl rfl) (pmk_oex N.sup.oex N.ini N.tI GN hr2 N.bd .nil pass0 (by rfl) N.gl (pa_cons pe_str pa_nil)))) pss_nil)
      (pss_cons (ps_fld (pv 0) (pv 1) rfl) (pss_cons (ps_fld (pv 0) (pv 2) rfl) (pss_one (ps_fld (pv 0) (pv 3) rfl)))))), ?_⟩
    have bad : ∀ z : Str, z.length ≤ 1000 → badF sv cv mv = some z → ∀ a, H a = none → spErr CN "field" (.ref a :: ([.str z] ++ [])) (upd H a (exo a CN none))
        (fun v H2 => v = .non ∧ ∃ (d : Addr) (fs : List (Str × V)), H2 a = some (exo a CN (some d)) ∧ H2 d = some (exd d fs) ∧ H d = none ∧ E (.ref CN) (some d) (upd (del H2 a) d (.xd fs))) (fun _ _ _ => False) :=
      fun z hz hb a na => err_made na hz (fun d H' nd sm hd => q2 z hb d H' nd sm hd)
    refine ⟨_, rfl, sv, 1, rfl, os, _, rfl, ?_⟩
    by_cases h1 : fromB sv 1 = true
    · rw [h1]
      refine ⟨_, rfl, cv, 1, rfl, oc, _, rfl, ?_⟩
      by_cases h2 : fromB cv 1 = true
      · rw [h2]
        refine ⟨_, rfl, mv, 1, rfl, om, _, rfl, ?_⟩
        by_cases h3 : fromB mv 1 = true
        · rw [h3]
          refine ⟨_, rfl, _, rfl, x, C, dx, _, rfl, hx, Z.cl, Z.nS, (by decide), ?_⟩
          refine ⟨_, rfl, _, rfl, x, C, dx, _, rfl, upd_same, Z.cl, Z.nW, (by show 1 < 1000; decide), ?_⟩
          refine ⟨_, rfl, _, rfl, x, C, dx, _, rfl, upd_same, Z.cl, Z.nM, (by show 2 < 1000; decide), ?_⟩
          rw [upd_upd, upd_upd]
          exact q1 (by unfold badF; rw [if_pos h1, if_pos h2, if_pos h3])
        · have e : fromB mv 1 = false := by cases h : fromB mv 1 <;> first | rfl | exact absurd h h3
          rw [e]
          exact ⟨by show 1 ≤ 1000; decide, bad "man" (by decide +kernel) (by unfold badF; rw [if_pos h1, if_pos h2, if_neg h3])⟩
      · have e : fromB cv 1 = false := by cases h : fromB cv 1 <;> first | rfl | exact absurd h h2
        rw [e]
        exact ⟨by show 1 ≤ 1000; decide, bad "carries" (by decide +kernel) (by unfold badF; rw [if_pos h1, if_neg h2])⟩
    · have e : fromB sv 1 = false := by cases h : fromB sv 1 <;> first | rfl | exact absurd h h1
      rw [e]
      exact ⟨by show 1 ≤ 1000; decide, bad "seats" (by decide +kernel) (by unfold badF; rw [if_neg h1])⟩
end
end K31

set_option Elab.async false
set_option linter.all false
set_option maxRecDepth 100000
set_option maxHeartbeats 1600000
namespace K31
open PySem PySem.Spec PyProof.Rows L2 LT
theorem scSeats : FnScope ["self"] ["self"] (defScope sSeats) := ⟨rfl, rfl, rfl, by decide +kernel, rfl, by decide +kernel, by decide +kernel⟩
theorem scCarries : FnScope ["self"] ["self"] (defScope sCarries) := ⟨rfl, rfl, rfl, by decide +kernel, rfl, by decide +kernel, by decide +kernel⟩
theorem scMan : FnScope ["self"] ["self"] (defScope sMan) := ⟨rfl, rfl, rfl, by decide +kernel, rfl, by decide +kernel, by decide +kernel⟩
theorem scNumber : FnScope ["_law_pot_here", "_law_most"] ["_law_pot_here", "_law_most"] (defScope sNumber) := ⟨rfl, rfl, rfl, by decide +kernel, rfl, by decide +kernel, by decide +kernel⟩
theorem scOdd : FnScope ["_law_pot_here", "_law_some"] ["_law_pot_here"] (defScope sOdd) := ⟨rfl, rfl, rfl, by decide +kernel, rfl, by decide +kernel, by decide +kernel⟩
section
variable {P : Program} {w : World} {K : PySem.W.Frag} {mg : Str → Option Value} {base : Heap} {C : Addr}
/-- a method that tells a field -/
def spGet (C : Addr) (g : V → V → V → V) : Sp := fun vs H Q _ => ∃ x dx s c m, vs = [.ref x] ∧ H x = some (.ins C dx (bf s c m)) ∧ Q (g s c m) H
theorem ok_seats {f : Addr} {fd : FuncData} {k : Nat} (F : Fun K "seats" "Boat.seats" sSeats f fd) (Z : Ct K mg C) : FnOk P w K mg base CX0 (k + 1) f fd ["self"] (spGet C fun s _ _ => s) := by
  refine F.ok scSeats (fun vs H Q E h => ?_) (fun cdv A outer s H vs Q E hr h => ?_)
  · obtain ⟨x, dx, s, c, m, rfl, _⟩ := h
    rfl
  · obtain ⟨x, dx, s, c, m, rfl, hx, q⟩ := h
    exact ⟨_, pss_one (ps_ret (pe_fld (pv 0) rfl)), _, rfl, x, C, dx, _, _, rfl, hx, Z.cl, Z.nS, (by unfold bf; rfl), q⟩
theorem ok_carries {f : Addr} {fd : FuncData} {k : Nat} (F : Fun K "carries" "Boat.carries" sCarries f fd) (Z : Ct K mg C) : FnOk P w K mg base CX0 (k + 1) f fd ["self"] (spGet C fun _ c _ => c) := by
  refine F.ok scCarries (fun vs H Q E h => ?_) (fun cdv A outer s H vs Q E hr h => ?_)
  · obtain ⟨x, dx, s, c, m, rfl, _⟩ := h
    rfl
  · obtain ⟨x, dx, s, c, m, rfl, hx, q⟩ := h
    exact ⟨_, pss_one (ps_ret (pe_fld (pv 0) rfl)), _, rfl, x, C, dx, _, _, rfl, hx, Z.cl, Z.nW, (by unfold bf; rfl), q⟩
theorem ok_man {f : Addr} {fd : FuncData} {k : Nat} (F : Fun K "man" "Boat.man" sMan f fd) (Z : Ct K mg C) : FnOk P w K mg base CX0 (k + 1) f fd ["self"] (spGet C fun _ _ m => m) := by
  refine F.ok scMan (fun vs H Q E h => ?_) (fun cdv A outer s H vs Q E hr h => ?_)
  · obtain ⟨x, dx, s, c, m, rfl, _⟩ := h
    rfl
  · obtain ⟨x, dx, s, c, m, rfl, hx, q⟩ := h
    exact ⟨_, pss_one (ps_ret (pe_fld (pv 0) rfl)), _, rfl, x, C, dx, _, _, rfl, hx, Z.cl, Z.nM, (by unfold bf; rfl), q⟩
end
theorem same_upd {H : Hp} {p : Addr} {o : HO} (h : H p = none) : Same H (upd H p o) := fun b x e => by
  rw [upd_ne (ne_of_none e h)]
  exact e
theorem same_app {H H1 : Hp} {p : Addr} {o : HO} (h : H p = none) (s : Same H H1) : Same H (upd H1 p o) := fun b x e => by
  rw [upd_ne (ne_of_none e h)]
  exact s _ _ e
theorem scCell : FnScope ["_law_script", "_law_k"] ["_law_script", "_law_k"] (defScope sCell) := ⟨rfl, rfl, rfl, by decide +kernel, rfl, by decide +kernel, by decide +kernel⟩
theorem scPot : FnScope ["_law_script", "_law_k", "_law_cell_here"] ["_law_script", "_law_k"] (defScope sPot) := ⟨rfl, rfl, rfl, by decide +kernel, rfl, by decide +kernel, by decide +kernel⟩
theorem scTake : FnScope ["_law_pot_here", "_law_room", "_law_digit"] ["_law_pot_here", "_law_room"] (defScope sTake) := ⟨rfl, rfl, rfl, by decide +kernel, rfl, by decide +kernel, by decide +kernel⟩
section
variable {P : Program} {w : World} {K : PySem.W.Frag} {mg : Str → Option Value} {base : Heap}
/-- a cell of the script -/
def spCell (K : PySem.W.Frag) : Sp := fun vs H Q _ => ∃ (a : Addr) (ns : List Int) (k : Nat), vs = [.ref a, .int (k : Nat)] ∧ SqL K H a (ns.map V.int) ∧
  ∀ z : Int, (z = 0 ∨ z ∈ ns) → Q (.int z) H
theorem ok_cell {f : Addr} {fd : FuncData} {k : Nat} (F : Fun K "_law_cell" "_law_cell" sCell f fd) (T : Tx mg) : FnOk P w K mg base CX0 (k + 1) f fd ["_law_script", "_law_k"] (spCell K) := by
  refine F.ok scCell (fun vs H Q E h => ?_) (fun cdv A outer s H vs Q E hr h => ?_)
  · obtain ⟨a, ns, k, rfl, _⟩ := h
    rfl
  · obtain ⟨a, ns, k, rfl, hS, q⟩ := h
    refine ⟨_, pss_one (ps_ret (pe_ifExp (pt_cmpR op_lt (pv 1) (pe_callB call_len_seq (by rfl) T.len PySem.boot_len (pa_cons (pv 0) pa_nil)) (nomark _))
      (pe_ix ix_list (pv 0) (pv 1) (fun _ _ => rfl)) pe_int)), ?_⟩
    refine ⟨_, rfl, _, rfl, a, _, rfl, .inl hS, _, _, rfl, rfl, _, rfl, ?_⟩
    by_cases hk : k < ns.length
    · rw [decide_eq_true (show ((k : Nat) : Int) < ((ns.map V.int).length : Nat) by rw [List.length_map]; omega)]
      refine iteT ?_
      refine ⟨_, rfl, _, rfl, a, _, _, .int ns[k], rfl, rfl, hS, atI_nat (by rw [List.getElem?_map, List.getElem?_eq_getElem hk]; rfl), ?_⟩
      exact q _ (.inr (List.getElem_mem hk))
    · rw [decide_eq_false (show ¬ ((k : Nat) : Int) < ((ns.map V.int).length : Nat) by rw [List.length_map]; omega)]
      exact iteF (q 0 (.inl rfl))
/-- a pot: two numbers -/
def Pot (H : Hp) (p : Addr) : Prop := ∃ a b : Int, H p = some (.lst [.int a, .int b]) ∧ 0 ≤ a ∧ 0 ≤ b ∧ b < 2147483647
def spPot (K : PySem.W.Frag) : Sp := fun vs H Q _ => ∃ (a : Addr) (ns : List Int) (k : Nat), vs = [.ref a, .int (k : Nat)] ∧ SqL K H a (ns.map V.int) ∧ k ≤ 1000 ∧
  ∀ p H', H p = none → Same H H' → Pot H' p → Q (.ref p) H'
theorem ok_pot {f fC : Addr} {fd fdC : FuncData} {k : Nat} (F : Fun K "_law_pot" "_law_pot" sPot f fd) (T : Tx mg) (FC : Fun K "_law_cell" "_law_cell" sCell fC fdC) (bC : L2.Binds K fdC ["_law_script", "_law_k"] []) (gC : mg "_law_cell" = some (.ref fC)) :
    FnOk P w K mg base CX0 (k + 2) f fd ["_law_script", "_law_k"] (spPot K) := by
  have GC : FnOk P w K mg base CX0 (k + 1) fC fdC ["_law_script", "_law_k"] (spCell K) := ok_cell FC T
  refine F.ok scPot (fun vs H Q E h => ?_) (fun cdv A outer s H vs Q E hr h => ?_)
  · obtain ⟨a, ns, k, rfl, _⟩ := h
    rfl
  · obtain ⟨a, ns, k, rfl, hS, hk, q⟩ := h
    refine ⟨_, pss_cons (ps_set (i := 2) scPot.nd rfl (.inl rfl) (pe_callB call_abs (by rfl) T.abs (by decide +kernel) (pa_cons (pe_call GC hr (by rfl) gC FC.kp bC .nil pass0 (pa_cons (pv 0) (pa_cons (pv 1) pa_nil))) pa_nil)))
      (pss_one (ps_ret (pe_lst (pa_cons (pe_callB (call_max2 rfl) (by rfl) T.max (by decide +kernel) (pa_cons pe_int (pa_cons (pe_op op_sub (pv 2) (pe_op op_pow pe_int pe_int)) pa_nil)))
        (pa_cons (pe_op op_mod (pe_op op_add (pe_op op_add (pe_op op_add (pe_op op_mul (pe_op op_mod (pv 2) pe_int) pe_int) (pe_op op_mul (pe_op op_mul pe_int (pv 1)) (pv 1))) (pe_op op_mul pe_int (pv 1))) pe_int) pe_int) pa_nil))))), ?_⟩
    refine ⟨_, rfl, _, rfl, a, ns, k, rfl, hS, fun z hz => ?_⟩
    refine ⟨z, rfl, ?_⟩
    have hk0 : (0 : Int) ≤ (k : Nat) := Int.natCast_nonneg k
    have hk1 : ((k : Nat) : Int) ≤ 1000 := by omega
    have hm := Int.emod_nonneg (if z < 0 then -z else z) (show (2147483563 : Int) ≠ 0 by decide)
    have hm2 := Int.emod_lt_of_pos (if z < 0 then -z else z) (show (0 : Int) < 2147483563 by decide)
    refine ⟨_, rfl, _, _, rfl, rfl, ⟨by decide, by decide, by decide⟩, _, _, rfl, rfl, 0, _, rfl, ?_⟩
    refine ⟨_, rfl, _, _, rfl, rfl, by show (0 : Int) < 2147483563; decide, _, _, rfl, rfl, .inl ⟨by omega, by omega⟩, ?_⟩
    refine ⟨_, rfl, _, _, rfl, rfl, .inl ⟨by decide, by decide⟩, _, rfl, _, _, rfl, rfl, .inr ⟨by omega, by omega⟩, _, _, rfl, rfl, ?_⟩
    refine ⟨_, rfl, _, _, rfl, rfl, .inl ⟨by decide, by decide⟩, _, _, rfl, rfl, _, _, rfl, rfl, _, _, rfl, rfl, by show (0 : Int) < 2147483563; decide, ?_⟩
    refine ⟨by show 2 ≤ sizeLine; decide, fun l nl => q l _ nl (same_upd nl) ⟨_, _, upd_same, ?_, Int.emod_nonneg _ (by decide), Int.lt_trans (Int.emod_lt_of_pos _ (by decide)) (by decide)⟩⟩
    split <;> omega
/-- all but what stands at p is as it was -/
def SameB (p : Addr) (H H' : Hp) : Prop := ∀ b o, b ≠ p → H b = some o → H' b = some o
theorem SameB.trans {p : Addr} {H H1 H2 : Hp} (a : SameB p H H1) (b : SameB p H1 H2) : SameB p H H2 := fun c o n h => b c o n (a c o n h)
theorem SameB.of {p : Addr} {H H' : Hp} (s : Same H H') : SameB p H H' := fun b o _ e => s b o e
theorem SameB.upd {p : Addr} {H H' : Hp} {o : HO} (s : SameB p H H') : SameB p H (upd H' p o) := fun b x n e => by
  rw [upd_ne n]
  exact s b x n e
theorem SameB.new {p q : Addr} {H H' : Hp} {o : HO} (h : H q = none) (s : SameB p H H') : SameB p H (L2.upd H' q o) := fun b x n e => by
  rw [upd_ne (ne_of_none e h)]
  exact s b x n e
/-- a draw from a pot -/
def spTake : Sp := fun vs H Q _ => ∃ (p : Addr) (r : Int), vs = [.ref p, .int r] ∧ Pot H p ∧ 0 < r ∧ r ≤ 1000000000 ∧
  ∀ (d : Int) (H' : Hp), 0 ≤ d → d < r → Pot H' p → SameB p H H' → Q (.int d) H'
theorem ok_take {f : Addr} {fd : FuncData} {k : Nat} (F : Fun K "_law_take" "_law_take" sTake f fd) (T : Tx mg) : FnOk P w K mg base CX0 (k + 1) f fd ["_law_pot_here", "_law_room"] spTake := by
  refine F.ok scTake (fun vs H Q E h => ?_) (fun cdv A outer s H vs Q E hr h => ?_)
  · obtain ⟨p, r, rfl, _⟩ := h
    rfl
  · obtain ⟨p, r, rfl, ⟨a, b, hp, a0, b0, bB⟩, r0, r1, q⟩ := h
    refine ⟨_, pss_cons (ps_if (pt_cmpR op_gt (pe_ix ix_list (pv 0) pe_int (fun _ _ => rfl)) pe_int (nomark _))
        (pss_cons (ps_asg (pe_callB call_divmodW (by rfl) T.divmod (by decide +kernel) (pa_cons (pe_ix ix_list (pv 0) pe_int (fun _ _ => rfl)) (pa_cons (pv 1) pa_nil)))
            (pg_tup rfl (pgs_cons (pg_sub (pv 0) pe_int set_list) (pgs_cons (pg_name (i := 2) scTake.nd rfl (.inl rfl)) pgs_nil))))
          (pss_one (ps_ret (pv 2)))) pss_nil)
      (pss_cons (ps_asg (pe_op op_mod (pe_op op_add (pe_op op_mul (pe_ix ix_list (pv 0) pe_int (fun _ _ => rfl)) pe_int) pe_int) pe_int) (pg_sub (pv 0) pe_int set_list))
        (pss_one (ps_ret (pe_op op_mod (pe_op op_fdiv (pe_op op_mod (pe_op op_mul (pe_ix ix_list (pv 0) pe_int (fun _ _ => rfl)) (pe_ix ix_list (pv 0) pe_int (fun _ _ => rfl))) pe_int) pe_int) (pv 1))))), ?_⟩
    refine ⟨_, rfl, p, _, 0, _, rfl, rfl, SqL.of hp, atI_nat (j := 0) rfl, _, _, rfl, rfl, _, rfl, ite2 (fun h => ?_) (fun h => ?_)⟩
    · have ha : 0 < a := of_decide_eq_true h
      refine ⟨_, rfl, p, _, 0, _, rfl, rfl, SqL.of hp, atI_nat (j := 0) rfl, _, rfl, a, r, rfl, ⟨r0, PyProof.noPylong_small (by omega)⟩, fun t nt => ?_⟩
      have npt : p ≠ t := ne_of_none hp nt
      have hp2 : (upd H t (.tup [.int (a / r), .int (a % r)])) p = some (.lst [.int a, .int b]) := by
        rw [upd_ne npt]
        exact hp
      refine ⟨t, _, rfl, SqT.of upd_same, rfl, _, _, rfl, ?_⟩
      refine ⟨_, rfl, p, _, 0, 0, rfl, rfl, hp2, rfl, _, _, rfl, rfl, ?_⟩
      refine ⟨_, rfl, q _ _ (Int.emod_nonneg _ (by omega)) (Int.emod_lt_of_pos _ r0) ⟨_, _, upd_same, Int.ediv_nonneg a0 (by omega), b0, bB⟩ (SameB.upd (SameB.new nt (SameB.of (Same.refl H))))⟩
    · refine ⟨_, rfl, p, _, 1, _, rfl, rfl, SqL.of hp, atI_nat (j := 1) rfl, _, _, rfl, rfl, .inl ⟨by omega, by omega⟩, _, _, rfl, rfl, _, _, rfl, rfl, by show (0 : Int) < 2147483647; decide, ?_⟩
      refine ⟨_, rfl, p, _, 1, 1, rfl, rfl, hp, rfl, ?_⟩
      have n0 := Int.emod_nonneg (b * 48271 + 12347) (show (2147483647 : Int) ≠ 0 by decide)
      have n1 := Int.emod_lt_of_pos (b * 48271 + 12347) (show (0 : Int) < 2147483647 by decide)
      refine ⟨_, rfl, p, _, 1, _, rfl, rfl, SqL.of upd_same, atI_nat (j := 1) rfl, _, rfl, p, _, 1, _, rfl, rfl, SqL.of upd_same, atI_nat (j := 1) rfl, _, _, rfl, rfl, .inl ⟨by omega, by omega⟩, ?_⟩
      refine ⟨_, _, rfl, rfl, by show (0 : Int) < 2147483629; decide, _, _, rfl, rfl, ⟨by decide, by decide⟩, _, rfl, _, _, rfl, rfl, r0, ?_⟩
      exact q _ _ (Int.emod_nonneg _ (by omega)) (Int.emod_lt_of_pos _ r0) ⟨_, _, upd_same, a0, n0, n1⟩ (SameB.upd (SameB.of (Same.refl H)))
end
theorem Pot.ne {H : Hp} {p q : Addr} (h : Pot H p) (n : H q = none) : q ≠ p := fun e => by
  obtain ⟨a, b, e1, _⟩ := h
  rw [← e, n] at e1
  cases e1
theorem SameB.none {p q : Addr} {H H1 : Hp} (s : SameB p H H1) (h : Pot H1 p) (n : H1 q = none) : H q = none := by
  cases e : H q with
  | none => rfl
  | some o =>
    rw [s q o (h.ne n) e] at n
    cases n
theorem Pot.upd {H : Hp} {p q : Addr} {o : HO} (h : Pot H p) (n : q ≠ p) : Pot (L2.upd H q o) p := by
  obtain ⟨a, b, e, r⟩ := h
  exact ⟨a, b, by rw [upd_ne n.symm]; exact e, r⟩
theorem Pot.mono {H H' : Hp} {p : Addr} (h : Pot H p) (s : Same H H') : Pot H' p := by
  obtain ⟨a, b, e, r⟩ := h
  exact ⟨a, b, s _ _ e, r⟩
theorem ne_of_pot {H : Hp} {p q : Addr} {o : HO} (h : Pot H p) (e : H q = some o) (n : ∀ a b : Int, o ≠ .lst [.int a, .int b] := by intros; nofun) : q ≠ p := by
  obtain ⟨a, b, ep, _⟩ := h
  exact ne_of e ep (n a b)
theorem sameB_new {p : Addr} {H H1 H2 : Hp} (n : H p = none) (s : Same H H1) (b : SameB p H1 H2) : Same H H2 := fun c o e => b c o (ne_of_none e n) (s c o e)

section
variable {P : Program} {w : World} {K : PySem.W.Frag} {mg : Str → Option Value} {base : Heap} {C : Addr}
def spNumber : Sp := fun vs H Q _ => ∃ (p : Addr) (r : Int), vs = [.ref p, .int r] ∧ Pot H p ∧ 0 < r ∧ r ≤ 1000000000 ∧
  ∀ (d : Int) (H' : Hp), 1 ≤ d → d ≤ 10000000000000000 → Pot H' p → SameB p H H' → Q (.int d) H'
theorem ok_number {f fT : Addr} {fd fdT : FuncData} {k : Nat} (F : Fun K "_law_number" "_law_number" sNumber f fd) (T : Tx mg) (FT : Has K mg "_law_take" ["_law_pot_here", "_law_room"] sTake fT fdT) : FnOk P w K mg base CX0 (k + 2) f fd ["_law_pot_here", "_law_most"] spNumber := by
  have GT : FnOk P w K mg base CX0 (k + 1) fT fdT ["_law_pot_here", "_law_room"] spTake := ok_take FT.fn T
  refine F.ok scNumber (fun vs H Q E h => ?_) (fun cdv A outer s H vs Q E hr h => ?_)
  · obtain ⟨p, r, rfl, _⟩ := h
    rfl
  · obtain ⟨p, r, rfl, hp, r0, r1, q⟩ := h
    refine ⟨_, pss_cons (ps_if (pt_cmpR op_eq (pe_call GT hr (by rfl) FT.gl FT.fn.kp FT.bd .nil pass0 (pa_cons (pv 0) (pa_cons pe_int pa_nil))) pe_int (nomark _))
        (pss_one (ps_ret (pe_op op_add (pe_op op_add pe_int (pe_op op_mul (pe_call GT hr (by rfl) FT.gl FT.fn.kp FT.bd .nil pass0 (pa_cons (pv 0) (pa_cons (pe_op op_pow pe_int pe_int) pa_nil))) (pe_op op_pow pe_int pe_int)))
          (pe_call GT hr (by rfl) FT.gl FT.fn.kp FT.bd .nil pass0 (pa_cons (pv 0) (pa_cons (pe_op op_pow pe_int pe_int) pa_nil)))))) pss_nil)
      (pss_one (ps_ret (pe_op op_add pe_int (pe_call GT hr (by rfl) FT.gl FT.fn.kp FT.bd .nil pass0 (pa_cons (pv 0) (pa_cons (pv 1) pa_nil)))))), ?_⟩
    refine ⟨_, rfl, p, 5, rfl, hp, by decide, by decide, fun d5 H1 _ _ hp1 sb1 => ?_⟩
    refine ⟨rfl, _, rfl, ite2 (fun _ => ?_) (fun _ => ?_)⟩
    · refine ⟨_, rfl, _, _, rfl, rfl, ⟨by decide, by decide, by decide⟩, p, 10 ^ Int.toNat 8, rfl, hp1, by decide, by decide, fun x H2 x0 x1 hp2 sb2 => ?_⟩
      have x1' : x < 100000000 := x1
      refine ⟨_, _, rfl, rfl, ⟨by decide, by decide, by decide⟩, _, _, rfl, rfl, .inl ⟨by omega, by omega⟩, _, _, rfl, rfl, ?_⟩
      refine ⟨_, rfl, _, _, rfl, rfl, ⟨by decide, by decide, by decide⟩, p, 10 ^ Int.toNat 8, rfl, hp2, by decide, by decide, fun y H3 y0 y1 hp3 sb3 => ?_⟩
      have y1' : y < 100000000 := y1
      refine ⟨_, _, rfl, rfl, q _ H3 ?_ ?_ hp3 ((sb1.trans sb2).trans sb3)⟩
      · show 1 ≤ 1 + x * 100000000 + y
        omega
      · show 1 + x * 100000000 + y ≤ 10000000000000000
        omega
    · refine ⟨_, rfl, _, rfl, p, r, rfl, hp1, r0, r1, fun x H2 x0 x1 hp2 sb2 => ?_⟩
      exact ⟨_, _, rfl, rfl, q _ H2 (by omega) (by omega) hp2 (sb1.trans sb2)⟩
/-! ### things that a boat may be made of -/
inductive Th (H : Hp) : V → PyData → Prop
  | non : Th H .non .none
  | bl (b : Bool) : Th H (.bl b) (.bool b)
  | int (i : Int) : i.natAbs ≤ 10 ^ 60 → Th H (.int i) (.int i)
  | s3 : Th H (.str (Str.ofString "3")) (.str (Str.ofString "3"))
  | s0 : Th H (.str (Str.ofString "")) (.str (Str.ofString ""))
  | lst {a : Addr} : H a = some (.lst [.int 3]) → Th H (.ref a) (.list [.int 3])
  | tup {a : Addr} : H a = some (.tup [.int 3]) → Th H (.ref a) (.tuple [.int 3])
  | dk {a : Addr} : H a = some (.dK []) → Th H (.ref a) (.dict [])
theorem Th.monoB {H H' : Hp} {p : Addr} {v : V} {d : PyData} (h : Th H v d) (hp : Pot H p) (s : SameB p H H') : Th H' v d := by
  cases h with
  | non => exact .non
  | bl b => exact .bl b
  | int i hi => exact .int i hi
  | s3 => exact .s3
  | s0 => exact .s0
  | lst e => exact .lst (s _ _ (ne_of_pot hp e) e)
  | tup e => exact .tup (s _ _ (ne_of_pot hp e) e)
  | dk e => exact .dk (s _ _ (ne_of_pot hp e) e)
theorem Th.mono {H H' : Hp} {v : V} {d : PyData} (h : Th H v d) (s : Same H H') : Th H' v d := by
  cases h with
  | non => exact .non
  | bl b => exact .bl b
  | int i hi => exact .int i hi
  | s3 => exact .s3
  | s0 => exact .s0
  | lst e => exact .lst (s _ _ e)
  | tup e => exact .tup (s _ _ e)
  | dk e => exact .dk (s _ _ e)
theorem Th.odd {H : Hp} {v : V} {d : PyData} (h : Th H v d) : Odd H v := by
  cases h with
  | non => exact .non
  | bl b => exact .bl b
  | int i hi => exact .int i
  | s3 => exact .str _
  | s0 => exact .str _
  | lst e => exact .lst e
  | tup e => exact .tup e
  | dk e => exact .dK e
theorem lg_of {i : Int} (h : i.natAbs ≤ 10 ^ 60) : i.natAbs.log2 < 1920 := by
  rcases Nat.eq_zero_or_pos i.natAbs with z | z
  · rw [z]; decide
  · rw [Nat.log2_lt (by omega)]
    exact Nat.lt_of_le_of_lt h (by decide)
theorem tlen {i : Int} (h : i.natAbs.log2 < 1920) : (Str.ofString (toString i)).length ≤ 1921 := by
  rw [PySem.ofString_length]
  exact int_text_length_le (by decide) h
theorem Th.sd {H : Hp} {v : V} {d : PyData} (h : Th H v d) : Sd K H v d := by
  cases h with
  | non => exact .dp .non (by simp [PyData.hasDict])
  | bl b => exact .dp (.bl b) (by simp [PyData.hasDict])
  | int i hi => exact .dp (.int i) (by simp [PyData.hasDict])
  | s3 => exact .dp (.str _) (by simp [PyData.hasDict])
  | s0 => exact .dp (.str _) (by simp [PyData.hasDict])
  | lst e => exact .dp (.lst (SqL.of e) (.cons (.int 3) .nil)) (by simp [PyData.hasDict, PyData.hasDictAll])
  | tup e => exact .dp (.tup (SqT.of e) (.cons (.int 3) .nil)) (by simp [PyData.hasDict, PyData.hasDictAll])
  | dk e => exact .ed e
theorem Th.fit {H : Hp} {v : V} {d : PyData} (h : Th H v d) : d.showable = true ∧ d.depth ≤ 1 ∧ d.shown.length ≤ 1921 := by
  cases h with
  | non => exact ⟨by simp [PyData.showable], by simp [PyData.depth], by decide +kernel⟩
  | bl b => cases b <;> exact ⟨by simp [PyData.showable], by simp [PyData.depth], by decide +kernel⟩
  | int i hi => exact ⟨by simpa [PyData.showable] using lg_of hi, by simp [PyData.depth], by simp only [PyData.shown]; exact tlen (lg_of hi)⟩
  | s3 => exact ⟨by decide +kernel, by simp [PyData.depth], by decide +kernel⟩
  | s0 => exact ⟨by decide +kernel, by simp [PyData.depth], by decide +kernel⟩
  | lst e => exact ⟨by decide +kernel, by simp [PyData.depth, PyData.depthAll], by decide +kernel⟩
  | tup e => exact ⟨by decide +kernel, by simp [PyData.depth, PyData.depthAll], by decide +kernel⟩
  | dk e => exact ⟨by decide +kernel, by decide +kernel, by decide +kernel⟩
def spOdd : Sp := fun vs H Q _ => ∃ p, vs = [.ref p] ∧ Pot H p ∧ ∀ v d H', Th H' v d → Pot H' p → SameB p H H' → Q v H'
theorem ok_odd {f fT : Addr} {fd fdT : FuncData} {k : Nat} (F : Fun K "_law_odd" "_law_odd" sOdd f fd) (T : Tx mg) (FT : Has K mg "_law_take" ["_law_pot_here", "_law_room"] sTake fT fdT) : FnOk P w K mg base CX0 (k + 2) f fd ["_law_pot_here"] spOdd := by
  have GT : FnOk P w K mg base CX0 (k + 1) fT fdT ["_law_pot_here", "_law_room"] spTake := ok_take FT.fn T
  refine F.ok scOdd (fun vs H Q E h => ?_) (fun cdv A outer s H vs Q E hr h => ?_)
  · obtain ⟨p, rfl, _⟩ := h
    rfl
  · obtain ⟨p, rfl, hp, q⟩ := h
    refine ⟨_, pss_cons (ps_set (i := 1) scOdd.nd rfl (.inl rfl) (pe_lst (pa_cons pe_int (pa_cons (pe_un un_neg pe_int) (pa_cons pe_non (pa_cons pe_bl (pa_cons pe_bl (pa_cons pe_str (pa_cons pe_str (pa_cons (pe_lst (pa_cons pe_int pa_nil)) (pa_cons (pe_tup (pa_cons pe_int pa_nil)) (pa_cons pe_dnewK
        (pa_cons pe_int (pa_cons (pe_op op_pow pe_int pe_int) (pa_cons (pe_un un_neg (pe_op op_pow pe_int pe_int)) (pa_cons pe_int pa_nil))))))))))))))))
      (pss_one (ps_ret (pe_ix ix_list (pv 1) (pe_call GT hr (by rfl) FT.gl FT.fn.kp FT.bd .nil pass0 (pa_cons (pv 0) (pa_cons (pe_callB call_len_seq (by rfl) T.len PySem.boot_len (pa_cons (pv 1) pa_nil)) pa_nil))) (fun _ _ => rfl)))), ?_⟩
    refine ⟨1, rfl, by show 1 ≤ sizeLine; decide, fun l nl => ⟨by show 1 ≤ sizeLine; decide, fun t nt => fun dd ndd => ?_⟩⟩
    have s1 := same_upd (o := .lst [V.int 3]) nl
    have s2 := same_upd (o := .tup [V.int 3]) nt
    have s3 := same_upd (o := .dK []) ndd
    have e1 := (s2.trans s3) _ _ (upd_same (H := H) (a := l) (o := .lst [V.int 3]))
    have e2 := s3 _ _ (upd_same (a := t) (o := .tup [V.int 3]))
    have e3 := upd_same (H := upd (upd H l (.lst [V.int 3])) t (.tup [V.int 3])) (a := dd) (o := .dK [])
    have sA := s1.trans (s2.trans s3)
    generalize upd (upd (upd H l (.lst [V.int 3])) t (.tup [V.int 3])) dd (.dK []) = H1 at *
    refine ⟨_, _, rfl, rfl, ⟨by decide, by decide, by decide⟩, _, _, rfl, rfl, ⟨by decide, by decide, by decide⟩, _, rfl, by show 14 ≤ sizeLine; decide, fun o no => ?_⟩
    have s4 := same_upd (o := .lst [V.int 0, .int (-1), .non, .bl true, .bl false, .str (Str.ofString "3"), .str (Str.ofString ""), .ref l, .ref t, .ref dd, .int 1, .int (10 ^ Int.toNat 59), .int (-(10 ^ Int.toNat 20)), .int 2]) no
    have eo := upd_same (H := H1) (a := o) (o := .lst [V.int 0, .int (-1), .non, .bl true, .bl false, .str (Str.ofString "3"), .str (Str.ofString ""), .ref l, .ref t, .ref dd, .int 1, .int (10 ^ Int.toNat 59), .int (-(10 ^ Int.toNat 20)), .int 2])
    have f1 := s4 _ _ e1
    have f2 := s4 _ _ e2
    have f3 := s4 _ _ e3
    have sB := sA.trans s4
    have hp2 := hp.mono sB
    refine ⟨_, rfl, _, rfl, _, rfl, o, _, rfl, .inl (SqL.of eo), p, 14, rfl, hp2, by decide, by decide, fun d H3 d0 d1 hp3 sb3 => ?_⟩
    have nop : o ≠ p := fun e => by
      have := hp.mono sA
      obtain ⟨_, _, h, _⟩ := this
      rw [e, h] at no
      cases no
    have eo3 := sb3 _ _ nop eo
    have sbA : SameB p H H3 := (SameB.of sB).trans sb3
    have key : ∃ v dt, atI [V.int 0, .int (-1), .non, .bl true, .bl false, .str (Str.ofString "3"), .str (Str.ofString ""), .ref l, .ref t, .ref dd, .int 1, .int (10 ^ Int.toNat 59), .int (-(10 ^ Int.toNat 20)), .int 2] d = some v ∧ Th H3 v dt := by
      have hd : d = 0 ∨ d = 1 ∨ d = 2 ∨ d = 3 ∨ d = 4 ∨ d = 5 ∨ d = 6 ∨ d = 7 ∨ d = 8 ∨ d = 9 ∨ d = 10 ∨ d = 11 ∨ d = 12 ∨ d = 13 := by omega
      rcases hd with rfl | rfl | rfl | rfl | rfl | rfl | rfl | rfl | rfl | rfl | rfl | rfl | rfl | rfl
      · exact ⟨_, _, rfl, .int 0 (by decide)⟩
      · exact ⟨_, _, rfl, .int (-1) (by decide)⟩
      · exact ⟨_, _, rfl, .non⟩
      · exact ⟨_, _, rfl, .bl true⟩
      · exact ⟨_, _, rfl, .bl false⟩
      · exact ⟨_, _, rfl, .s3⟩
      · exact ⟨_, _, rfl, .s0⟩
      · exact ⟨_, _, rfl, (Th.lst f1).monoB hp2 sb3⟩
      · exact ⟨_, _, rfl, (Th.tup f2).monoB hp2 sb3⟩
      · exact ⟨_, _, rfl, (Th.dk f3).monoB hp2 sb3⟩
      · exact ⟨_, _, rfl, .int 1 (by decide)⟩
      · exact ⟨_, _, rfl, .int _ (by decide)⟩
      · exact ⟨_, _, rfl, .int _ (by decide)⟩
      · exact ⟨_, _, rfl, .int 2 (by decide)⟩
    obtain ⟨v, dt, ea, th⟩ := key
    exact ⟨o, _, d, v, rfl, rfl, SqL.of eo3, ea, q v dt H3 th hp3 sbA⟩
end
end K31

set_option Elab.async false
set_option linter.all false
set_option maxRecDepth 100000
set_option maxHeartbeats 1600000
namespace K31
open PySem PySem.Spec PyProof.Rows L2 LT
theorem scWrong : FnScope ["_law_three", "_law_field_here", "_law_thing"] ["_law_three"] (defScope sWrong) := ⟨rfl, rfl, rfl, by decide +kernel, rfl, by decide +kernel, by decide +kernel⟩
theorem scField : FnScope ["_law_e", "_law_other", "_law_good"] ["_law_e"] (defScope sField) := ⟨rfl, rfl, rfl, by decide +kernel, rfl, by decide +kernel, by decide +kernel⟩
theorem scMade : FnScope ["_law_three", "_law_way"] ["_law_three", "_law_way"] (defScope sMade) := ⟨rfl, rfl, rfl, by decide +kernel, rfl, by decide +kernel, by decide +kernel⟩
theorem scMet : FnScope ["_law_three", "_law_way", "_law_boat", "_law_field_here", "_law_e", "_law_first"] ["_law_three", "_law_way"] (defScope sMet) := ⟨rfl, rfl, rfl, by decide +kernel, rfl, by decide +kernel, by decide +kernel⟩
section
variable {P : Program} {w : World} {K : PySem.W.Frag} {mg : Str → Option Value} {base : Heap} {C CN CW CL CB c1 c2 c3 c4 c5 c6 c7 : Addr}
def fields3 : List V := [.str (Str.ofString "seats"), .str (Str.ofString "carries"), .str (Str.ofString "man")]
def wrongS (a b c : V) : Str := (badF a b c).getD (Str.ofString "")
theorem from_ty {v : V} : (wholeB v = true → ∃ i, v = .int i) := by
  intro h
  cases v <;> first | exact ⟨_, rfl⟩ | cases h
theorem bad_at {a b c : V} {i : Nat} {x y : V} (hx : fields3[i]? = some x) (hy : [a, b, c][i]? = some y) (hj : ∀ j < i, ∀ u, [a, b, c][j]? = some u → fromB u 1 = true) (hn : fromB y 1 = false) : x = .str (wrongS a b c) := by
  unfold wrongS badF
  match i, hx, hy with
  | 0, hx, hy =>
    cases hy
    cases hx
    rw [hn]
    rfl
  | 1, hx, hy =>
    cases hy
    cases hx
    rw [hj 0 (by omega) a rfl, hn]
    rfl
  | 2, hx, hy =>
    cases hy
    cases hx
    rw [hj 0 (by omega) a rfl, hj 1 (by omega) b rfl, hn]
    rfl
def spWrong : Sp := fun vs H Q _ => ∃ t a b c, vs = [.ref t] ∧ H t = some (.lst [a, b, c]) ∧ (∀ v ∈ [a, b, c], Odd H v) ∧ ∀ H', Same H H' → Q (.str (wrongS a b c)) H'
theorem ok_wrong {f : Addr} {fd : FuncData} {k : Nat} (F : Fun K "_law_wrong" "_law_wrong" sWrong f fd) (T : Tx mg) : FnOk P w K mg base CX0 (k + 1) f fd ["_law_three"] spWrong := by
  refine F.ok scWrong (fun vs H Q E h => ?_) (fun cdv A outer s H vs Q E hr h => ?_)
  · obtain ⟨t, a, b, c, rfl, _⟩ := h
    rfl
  · obtain ⟨t, a, b, c, rfl, ht, ho, q⟩ := h
    have nd := scWrong.nd
    refine ⟨_, pss_cons (ps_for PassesOwn.never rfl (pi_zip (by rfl) T.zip (pa_cons (pe_lst (pa_cons pe_str (pa_cons pe_str (pa_cons pe_str pa_nil)))) (pa_cons (pv 0) pa_nil)))
        (pg_tup rfl (pgs_cons (pg_name (i := 1) nd rfl (.inl rfl)) (pgs_cons (pg_name (i := 2) nd rfl (.inl rfl)) pgs_nil)))
        (pss_one (ps_if (PW.pt (pw_or (pt_not (pt_val (pe_callB call_isi (by rfl) T.isi (by decide +kernel) (pa_cons (pv 2) (pa_cons (pe_bltn (v := .ty "int") (by rfl) T.int (by decide +kernel) rfl) pa_nil)))))
            (pw_or (pt_val (pe_callB call_isi (by rfl) T.isi (by decide +kernel) (pa_cons (pv 2) (pa_cons (pe_bltn (v := .ty "bool") (by rfl) T.bool (by decide +kernel) rfl) pa_nil)))) (pw_or1 (pt_cmpR op_lt (pv 2) pe_int (nomark _))))))
          (pss_one (ps_ret (pv 1))) pss_nil)))
      (pss_one (ps_ret pe_str)), ?_⟩
    refine ⟨by show 3 ≤ sizeLine; decide, fun z nz => ⟨_, rfl, z, t, _, _, rfl, SqL.of upd_same, SqL.of ((same_upd nz) _ _ ht), ?_⟩⟩
    have s1 := same_upd (o := .lst fields3) nz
    have hz := upd_same (H := H) (a := z) (o := .lst fields3)
    have ht1 := s1 _ _ ht
    show ∃ W, _
    refine RZ.for_zipL (K := K) (a := z) (b := t) (xs := fields3) (ys := [a, b, c]) rfl (fun i σ H' => (∃ y1 y2, σ = [some (.ref t), y1, y2]) ∧ Same (upd H z (.lst fields3)) H' ∧ ∀ j < i, ∀ u, [a, b, c][j]? = some u → fromB u 1 = true)
      ⟨⟨none, none, rfl⟩, Same.refl _, fun j hj => absurd hj (by omega)⟩ (fun i σ H' ⟨_, sm, _⟩ => ⟨sm.seq (SqL.of hz), sm.seq (SqL.of ht1)⟩) ?_ ?_
    · rintro i x y T1 σ H1 hx hy ⟨⟨y1, y2, rfl⟩, sm, hj⟩ nT
      have s2 := same_upd (o := .tup [x, y]) nT
      have oy : Odd (upd H1 T1 (.tup [x, y])) y := (((ho y (List.mem_of_getElem? hy)).mono s1).mono sm).mono s2
      refine ⟨T1, _, rfl, SqT.of upd_same, rfl, _, _, rfl, _, _, rfl, rfl, ?_⟩
      obtain ⟨ty, hty, k1, k2⟩ := oy.ty (K := K)
      have done : fromB y 1 = false → Q x (upd H1 T1 (.tup [x, y])) := fun hn => by
        have z := q _ ((s1.trans sm).trans s2)
        rw [← bad_at hx hy hj hn] at z
        exact z
      refine ⟨_, rfl, y, .ty "int", ty, _, isInt y, rfl, .ty _, hty, k1, _, rfl, ?_⟩
      cases oy with
      | int n =>
        refine ⟨_, rfl, .int n, .ty "bool", ty, _, isBl (.int n), rfl, .ty _, hty, k2, _, rfl, ?_⟩
        refine ⟨_, rfl, n, 1, rfl, rfl, _, rfl, ?_⟩
        by_cases h : n < 1
        · rw [decide_eq_true h]
          exact ⟨_, rfl, done (decide_eq_false (by omega))⟩
        · rw [decide_eq_false h]
          refine ⟨⟨_, _, rfl⟩, sm.trans s2, fun j hj' u hu => ?_⟩
          by_cases e : j = i
          · subst e
            rw [hy] at hu
            cases hu
            exact decide_eq_true (by omega)
          · exact hj j (by omega) u hu
      | bl n =>
        refine ⟨_, rfl, .bl n, .ty "bool", ty, _, isBl (.bl n), rfl, .ty _, hty, k2, _, rfl, ?_⟩
        exact ⟨_, rfl, done rfl⟩
      | _ => exact ⟨_, rfl, done rfl⟩
    · rintro σ H1 ⟨_, sm, hj⟩
      have e : wrongS a b c = Str.ofString "" := by
        unfold wrongS badF
        rw [hj 0 (by decide) a rfl, hj 1 (by decide) b rfl, hj 2 (by decide) c rfl]
        rfl
      have := q H1 (s1.trans sm)
      rw [e] at this
      exact this
/-! ### the error -/
structure Er (K : PySem.W.Frag) (mg : Str → Option Value) (CN CW CL CB c1 c2 c3 c4 c5 c6 c7 : Addr) : Prop where
  gN : mg "NoBoat" = some (.ref CN)
  gW : mg "Wrong" = some (.ref CW)
  gL : mg "LightsError" = some (.ref CL)
  gB : mg "Barred" = some (.ref CB)
  g1 : mg "NoDay" = some (.ref c1)
  g2 : mg "NoLight" = some (.ref c2)
  g3 : mg "NoName" = some (.ref c3)
  g4 : mg "NoNumber" = some (.ref c4)
  g5 : mg "NoRound" = some (.ref c5)
  g6 : mg "NoService" = some (.ref c6)
  g7 : mg "NoStores" = some (.ref c7)
  ex : ExcC K CN
  xf : XfC K CN
  hno : PySem.W.findIn K (.ref CN) "field" = some none
  no : PySem.W.kitAny K (.ref CN) [.ref CB, .ref c1, .ref c2, .ref c3, .ref c4, .ref c5, .ref c6, .ref c7] = some false
  kN : PySem.W.kitOne K (.ref CN) (.ref CN) = some true
  kW : PySem.W.kitOne K (.ref CN) (.ref CW) = some true
  kL : PySem.W.kitOne K (.ref CN) (.ref CL) = some true
  kV : PySem.W.kitOne K (.ref CN) (.type "ValueError") = some true
  ca : PySem.W.exmOne K (.ref CN) (.ref CL) = some true
def spField (CN : Addr) : Addr × Obj → Sp := fun p vs H Q _ => vs = [.ref p.1] ∧ ∃ (dd : Addr) (z : Str), Zc (.ref CN) (some dd) p.2 ∧ (∃ us, p.2.data = .fields us) ∧ H dd = some (.xd [("field", .str z)]) ∧ ∀ H', Same H H' → Q (.str z) H'
theorem ok_field {f : Addr} {fd : FuncData} {k : Nat} (F : Fun K "_law_field" "_law_field" sField f fd) (T : Tx mg) (R : Er K mg CN CW CL CB c1 c2 c3 c4 c5 c6 c7) : FnE P w K mg base (k + 1) f fd ["_law_e"] (spField CN) := by
  refine okE F scField (fun h => ?_) (fun cdv A outer s H vs Q E p hr h => ?_)
  · obtain ⟨rfl, _⟩ := h
    rfl
  · obtain ⟨a, oe⟩ := p
    obtain ⟨rfl, dd, z, hz, hf, hd, q⟩ := h
    have nd := scField.nd
    refine ⟨_, pss_cons (ps_set (i := 1) nd rfl (.inl rfl) (pe_callB (call_isFT (a := a) (oe := oe) List.mem_cons_self R.ex hz hf) (by rfl) T.isi (by decide +kernel) (pa_cons (pv 0) (pa_cons
        (pe_tup (pa_cons (pe_glob (v := .ref CB) (by rfl) R.gB rfl) (pa_cons (pe_glob (v := .ref c1) (by rfl) R.g1 rfl) (pa_cons (pe_glob (v := .ref c2) (by rfl) R.g2 rfl) (pa_cons (pe_glob (v := .ref c3) (by rfl) R.g3 rfl)
          (pa_cons (pe_glob (v := .ref c4) (by rfl) R.g4 rfl) (pa_cons (pe_glob (v := .ref c5) (by rfl) R.g5 rfl) (pa_cons (pe_glob (v := .ref c6) (by rfl) R.g6 rfl) (pa_cons (pe_glob (v := .ref c7) (by rfl) R.g7 rfl) pa_nil))))))))) pa_nil))))
      (pss_cons (ps_set (i := 2) nd rfl (.inl rfl) (pe_and (pe_callB (call_isF (a := a) (oe := oe) List.mem_cons_self R.ex hz hf) (by rfl) T.isi (by decide +kernel) (pa_cons (pv 0) (pa_cons (pe_glob (v := .ref CN) (by rfl) R.gN rfl) pa_nil)))
        (pe_and (pe_callB (call_isF (a := a) (oe := oe) List.mem_cons_self R.ex hz hf) (by rfl) T.isi (by decide +kernel) (pa_cons (pv 0) (pa_cons (pe_glob (v := .ref CW) (by rfl) R.gW rfl) pa_nil)))
        (pe_and (pe_callB (call_isF (a := a) (oe := oe) List.mem_cons_self R.ex hz hf) (by rfl) T.isi (by decide +kernel) (pa_cons (pv 0) (pa_cons (pe_glob (v := .ref CL) (by rfl) R.gL rfl) pa_nil)))
        (pe_one (pe_callB (call_isF (a := a) (oe := oe) List.mem_cons_self R.ex hz hf) (by rfl) T.isi (by decide +kernel) (pa_cons (pv 0) (pa_cons (pe_bltn (v := .ty "ValueError") (by rfl) T.ve (by decide +kernel) rfl) pa_nil))))))))
      (pss_one (ps_ret (pe_ifExp (PW.pt (pw_and (pt_val (pv 2)) (pw_and1 (pt_not (pt_val (pv 1)))))) (pe_xfP (a := a) (oe := oe) List.mem_cons_self R.xf R.hno hz hf (pv 0)) pe_str)))), ?_⟩
    refine ⟨_, rfl, by show 8 ≤ sizeLine; decide, fun tp ntp => ?_⟩
    have s1 := same_upd (o := .tup [V.ref CB, V.ref c1, V.ref c2, V.ref c3, V.ref c4, V.ref c5, V.ref c6, V.ref c7]) ntp
    have hd1 := s1 _ _ hd
    refine ⟨_, tp, _, [.ref CB, .ref c1, .ref c2, .ref c3, .ref c4, .ref c5, .ref c6, .ref c7], false, hd1, rfl, upd_same,
      .cons (.own _) (.cons (.own _) (.cons (.own _) (.cons (.own _) (.cons (.own _) (.cons (.own _) (.cons (.own _) (.cons (.own _) .nil))))))), R.no, ?_⟩
    refine ⟨_, rfl, _, _, _, true, hd1, rfl, .own _, R.kN, _, rfl, ?_⟩
    refine ⟨_, rfl, _, _, _, true, hd1, rfl, .own _, R.kW, _, rfl, ?_⟩
    refine ⟨_, rfl, _, _, _, true, hd1, rfl, .own _, R.kL, _, rfl, ?_⟩
    refine ⟨_, rfl, _, _, _, true, hd1, rfl, .ty _, R.kV, ?_⟩
    refine ⟨_, rfl, _, rfl, _, rfl, _, rfl, ?_⟩
    exact ⟨_, rfl, rfl, rfl, dd, _, _, rfl, hd1, rfl, q _ s1⟩
/-! ### a boat made, by any of the three ways -/
def spMade (C CN : Addr) : Sp := fun vs H Q E => ∃ t way a b c, vs = [.ref t, .int way] ∧ H t = some (.lst [a, b, c]) ∧ (∀ v ∈ [a, b, c], Odd H v) ∧
  (badF a b c = none → ∀ x dx H', H x = none → Same H H' → H' x = some (.ins C dx (bf a b c)) → Q (.ref x) H') ∧
  (∀ z, badF a b c = some z → ∀ d H', H d = none → Same H H' → H' d = some (.xd [("field", .str z)]) → E (.ref CN) (some d) H')
theorem same_made {H : Hp} {x dx C : Addr} {o : HO} (nx : H x = none) (nd : H dx = none) : Same H (upd (upd H dx (.own x)) x o) := fun b z e => by
  rw [upd_ne (ne_of_none e nx), upd_ne (ne_of_none e nd)]
  exact e
theorem made_init {H : Hp} {x dx : Addr} {a b c : V} {Q : VK} {E : XK} (nx : H x = none) (ndx : H dx = none) (nex : dx ≠ x) (ho : ∀ v ∈ [a, b, c], Odd H v)
    (h1 : badF a b c = none → ∀ x dx H', H x = none → Same H H' → H' x = some (.ins C dx (bf a b c)) → Q (.ref x) H') (h2 : ∀ z, badF a b c = some z → ∀ d H', H d = none → Same H H' → H' d = some (.xd [("field", .str z)]) → E (.ref CN) (some d) H') :
    spInit C CN [.ref x, a, b, c] (upd (upd H dx (.own x)) x (.ins C dx [])) (fun v H2 => v = .non ∧ Q (.ref x) H2) E := by
  have s1 : Same H (upd (upd H dx (.own x)) x (.ins C dx [])) := same_made (C := C) nx ndx
  refine ⟨x, dx, a, b, c, rfl, upd_same, (ho a (by simp)).mono s1, (ho b (by simp)).mono s1, (ho c (by simp)).mono s1, fun r => ⟨rfl, ?_⟩, fun z r d H' nd sm hd => h2 z r d H' (s1.free nd) (s1.trans sm) hd⟩
  refine h1 r x dx _ nx ?_ upd_same
  rw [upd_upd]
  exact same_made (C := C) nx ndx
theorem ok_made {f fI fF fW fN cc cd : Addr} {fd fdI fdF fdW fdN : FuncData} {k : Nat} (F : Fun K "_law_made" "_law_made" sMade f fd) (T : Tx mg) (Z : Ct K mg C) (N : Nb K P mg CN fN cc cd fdN) (M : Mk K C fI) (FI : Fun K "__init__" "Boat.__init__" sInit fI fdI)
    (FF : Has K mg "is_from" ["thing", "least"] sFrom fF fdF) (FW : Has K mg "is_whole" ["thing"] sWhole fW fdW) (bI : L2.Binds K fdI ["self", "seats", "carries", "man"] []) :
    FnOk P w K mg base (L2.CX P w) (k + 5) f fd ["_law_three", "_law_way"] (spMade C CN) := by
  have GI : FnOk P w K mg base (L2.CX P w) (k + 3) fI fdI ["self", "seats", "carries", "man"] (spInit C CN) := ok_init FI T Z N FF FW
  have k1 := kbn_of (ps := ["self", "seats", "carries", "man"]) FI 1 ["man", "carries", "seats"] (fun us ws => us ++ ws.reverse) (fun r1 r2 => r1.append (vals_rev r2)) (fun _ _ _ _ _ _ us ws h1 h2 => match us, ws, h1, h2 with | [_], [_, _, _], _, _ => rfl)
  have k2 := kbn_of (ps := ["self", "seats", "carries", "man"]) FI 2 ["man", "carries"] (fun us ws => us ++ ws.reverse) (fun r1 r2 => r1.append (vals_rev r2)) (fun _ _ _ _ _ _ us ws h1 h2 => match us, ws, h1, h2 with | [_, _], [_, _], _, _ => rfl)
  refine F.okX scMade (fun vs H Q E h => ?_) (fun cdv A outer s H vs Q E hr h => ?_)
  · obtain ⟨t, way, a, b, c, rfl, _⟩ := h
    rfl
  · obtain ⟨t, way, a, b, c, rfl, ht, ho, q1, q2⟩ := h
    have nd := scMade.nd
    have ps : Passes (L2.CX P w) (cxOf (L2.CX P w) P w K mg base ["_law_three", "_law_way"] "_law_made" (defScope sMade) f cdv A outer s H E) E := passes_call (takes_of rfl rfl rfl rfl) (fun _ _ _ _ h => h)
    refine ⟨_, pss_cons (ps_if (pt_cmpR op_eq (pv 1) pe_int (nomark _)) (pss_one (ps_ret (pe_make M GI hr (by rfl) Z.mgC bI .nil ps (pa_cons (pe_ix ix_list (pv 0) pe_int (fun _ _ => rfl)) (pa_cons (pe_ix ix_list (pv 0) pe_int (fun _ _ => rfl)) (pa_cons (pe_ix ix_list (pv 0) pe_int (fun _ _ => rfl)) pa_nil)))))) pss_nil)
      (pss_cons (ps_if (pt_cmpR op_eq (pv 1) pe_int (nomark _)) (pss_one (ps_ret (pe_makeK0 M GI hr (by rfl) Z.mgC k1 ps (pk_cons (pe_ix ix_list (pv 0) pe_int (fun _ _ => rfl)) (pk_cons (pe_ix ix_list (pv 0) pe_int (fun _ _ => rfl)) (pk_cons (pe_ix ix_list (pv 0) pe_int (fun _ _ => rfl)) pk_nil)))))) pss_nil)
      (pss_one (ps_ret (pe_makeK M GI hr (by rfl) Z.mgC k2 ps (pa_cons (pe_ix ix_list (pv 0) pe_int (fun _ _ => rfl)) pa_nil) (pk_cons (pe_ix ix_list (pv 0) pe_int (fun _ _ => rfl)) (pk_cons (pe_ix ix_list (pv 0) pe_int (fun _ _ => rfl)) pk_nil)))))), ?_⟩
    have i0 : atI [a, b, c] 0 = some a := atI_nat (j := 0) rfl
    have i1 : atI [a, b, c] 1 = some b := atI_nat (j := 1) rfl
    have i2 : atI [a, b, c] 2 = some c := atI_nat (j := 2) rfl
    refine ⟨_, rfl, rfl, _, rfl, ite2 (fun h => ?_) (fun n0 => ?_)⟩
    · exact ⟨_, rfl, t, _, _, _, rfl, rfl, SqL.of ht, i0, _, rfl, t, _, _, _, rfl, rfl, SqL.of ht, i1, _, rfl, t, _, _, _, rfl, rfl, SqL.of ht, i2, fun x dx nx ndx nex => made_init nx ndx nex ho q1 q2⟩
    refine ⟨_, rfl, rfl, _, rfl, ite2 (fun h => ?_) (fun n1 => ?_)⟩
    · exact ⟨_, rfl, t, _, _, _, rfl, rfl, SqL.of ht, i2, _, rfl, t, _, _, _, rfl, rfl, SqL.of ht, i1, _, rfl, t, _, _, _, rfl, rfl, SqL.of ht, i0, rfl, rfl, fun x dx nx ndx nex => made_init nx ndx nex ho q1 q2⟩
    · exact ⟨_, rfl, t, _, _, _, rfl, rfl, SqL.of ht, i0, _, rfl, t, _, _, _, rfl, rfl, SqL.of ht, i2, _, rfl, t, _, _, _, rfl, rfl, SqL.of ht, i1, rfl, rfl, fun x dx nx ndx nex => made_init nx ndx nex ho q1 q2⟩
end
end K31

set_option Elab.async false
set_option linter.all false
set_option maxRecDepth 100000
set_option maxHeartbeats 1600000
namespace K31
open PySem PySem.Spec PyProof.Rows L2 LT
theorem fit3 {H : Hp} {a b c : V} {da db dc : PyData} (ha : Th H a da) (hb : Th H b db) (hc : Th H c dc) : (PyData.list [da, db, dc]).showable = true ∧ (PyData.list [da, db, dc]).depth ≤ 60 ∧ (PyData.list [da, db, dc]).shown.length ≤ sizeLine := by
  obtain ⟨a1, a2, a3⟩ := ha.fit
  obtain ⟨b1, b2, b3⟩ := hb.fit
  obtain ⟨c1, c2, c3⟩ := hc.fit
  refine ⟨by simp [PyData.showable, PyData.showableAll, a1, b1, c1], by simp only [PyData.depth, PyData.depthAll]; omega, ?_⟩
  have e := listText_len_le [da.shown, db.shown, dc.shown]
  simp only [List.map_cons, List.map_nil, List.sum_cons, List.sum_nil, List.length_cons, List.length_nil] at e
  have e2 : PyData.shown (.list [da, db, dc]) = listText [da.shown, db.shown, dc.shown] := by simp only [PyData.shown, PyData.shownAll]
  rw [e2, sizeLine_eq]
  omega
def shown3 (da db dc : PyData) : Str := (PyData.list [da, db, dc]).shown
section
variable {P : Program} {w : World} {K : PySem.W.Frag} {mg : Str → Option Value} {base : Heap} {C CN CW CL CB c1 c2 c3 c4 c5 c6 c7 : Addr}
theorem bf_no {a b c : V} {m : Str} (h1 : m ≠ "many_seats") (h2 : m ≠ "most_weight") (h3 : m ≠ "man_weight") : (bf a b c).lookup m = none := by
  unfold bf
  rw [List.lookup_cons, show (m == ("many_seats" : Str)) = false from beq_eq_false_iff_ne.mpr h1, List.lookup_cons, show (m == ("most_weight" : Str)) = false from beq_eq_false_iff_ne.mpr h2, List.lookup_cons, show (m == ("man_weight" : Str)) = false from beq_eq_false_iff_ne.mpr h3]
  rfl
def spMet : Sp := fun vs H Q _ => ∃ t way a b c da db dc, vs = [.ref t, .int way] ∧ H t = some (.lst [a, b, c]) ∧ Th H a da ∧ Th H b db ∧ Th H c dc ∧
  (badF a b c = none → ∀ u H', Same H H' → H' u = some (.tup [.str (Str.ofString "made"), .str (shown3 da db dc), .str (shown3 da db dc)]) → Q (.ref u) H') ∧
  (∀ z, badF a b c = some z → ∀ u H', Same H H' → H' u = some (.tup [.str (Str.ofString "refused"), .str z]) → Q (.ref u) H')
theorem ok_met {f fM fX f1 f2 f3 fI fF fW fN cc cd : Addr} {fd fdM fdX fd1 fd2 fd3 fdI fdF fdW fdN : FuncData} {k : Nat} (F : Fun K "_law_met" "_law_met" sMet f fd) (T : Tx mg) (Z : Ct K mg C) (N : Nb K P mg CN fN cc cd fdN) (M : Mk K C fI) (FI : Fun K "__init__" "Boat.__init__" sInit fI fdI)
    (R : Er K mg CN CW CL CB c1 c2 c3 c4 c5 c6 c7)
    (FF : Has K mg "is_from" ["thing", "least"] sFrom fF fdF) (FW : Has K mg "is_whole" ["thing"] sWhole fW fdW) (bI : L2.Binds K fdI ["self", "seats", "carries", "man"] [])
    (FM : Has K mg "_law_made" ["_law_three", "_law_way"] sMade fM fdM) (FX : Has K mg "_law_field" ["_law_e"] sField fX fdX)
    (F1 : Mth K C "seats" "Boat.seats" ["self"] sSeats f1 fd1) (F2 : Mth K C "carries" "Boat.carries" ["self"] sCarries f2 fd2) (F3 : Mth K C "man" "Boat.man" ["self"] sMan f3 fd3) :
    FnG P w K mg base CX0 (k + 6) f fd ["_law_three", "_law_way"] spMet := by
  have GM : FnOk P w K mg base (L2.CX P w) (k + 5) fM fdM ["_law_three", "_law_way"] (spMade C CN) := ok_made FM.fn T Z N M FI FF FW bI
  have GX : FnE P w K mg base (k + 1) fX fdX ["_law_e"] (spField CN) := ok_field FX.fn T R
  have G1 : FnOk P w K mg base CX0 (k + 1) f1 fd1 ["self"] (spGet C fun s _ _ => s) := ok_seats F1.fn Z
  have G2 : FnOk P w K mg base CX0 (k + 1) f2 fd2 ["self"] (spGet C fun _ c _ => c) := ok_carries F2.fn Z
  have G3 : FnOk P w K mg base CX0 (k + 1) f3 fd3 ["self"] (spGet C fun _ _ m => m) := ok_man F3.fn Z
  refine okG F scMet (fun h => ?_) (fun cdv A outer s H vs Q E hG hr h => ?_)
  · obtain ⟨t, way, a, b, c, da, db, dc, rfl, _⟩ := h
    rfl
  · obtain ⟨t, way, a, b, c, da, db, dc, rfl, ht, ha, hb, hc, q1, q2⟩ := h
    have nd := scMet.nd
    have hu := hr.units
    have hr1 : Room (k + 1) _ := hr.mono (by omega)
    have hG2 : (cxOf CX0 P w K mg base ["_law_three", "_law_way", "_law_boat", "_law_field_here", "_law_e", "_law_first"] "_law_met" (defScope sMet) f cdv A outer s H E).nox.A.guards = some [] := hG
    refine ⟨_, pss_cons (ps_set (i := 2) nd rfl (.inl rfl) pe_non)
      (pss_cons (ps_set (i := 3) nd rfl (.inl rfl) pe_str)
      (pss_cons (ps_try_as (i := 4) rfl rfl nd rfl rfl ⟨rfl, by decide, .inl R.gL⟩ takes0
        (fun W pn xe tk _ => pss_one (ps_set (i := 2) nd rfl (.inl rfl) (pe_callS GM hr (by rfl) FM.gl FM.fn.kp FM.bd (fun σ => passAt tk σ) (pa_cons (pv 0) (pa_cons (pv 1) pa_nil)))))
        (fun a oe cls d pn hz hf => pss_one (ps_set (i := 3) nd rfl (.inl rfl) (pe_callZ GX hr1 hz hf (by rfl) FX.gl FX.fn.kp FX.bd (pa_cons (pv 4) pa_nil)))))
      (pss_cons (ps_if (pt_cmpR op_isN (pv 2) pe_non (nomark _)) (pss_one (ps_ret (pe_tup (pa_cons pe_str (pa_cons (pv 3) pa_nil))))) pss_nil)
      (pss_cons (ps_set (i := 5) nd rfl (.inl rfl) (pe_callB (call_reprSd hG2 hu) (by rfl) T.repr (by decide +kernel) (pa_cons (pe_lst (pa_cons (pe_meth0 (pv 2) Z.cl F1.me G1 hr1 F1.bd .nil pass0) (pa_cons (pe_meth0 (pv 2) Z.cl F2.me G2 hr1 F2.bd .nil pass0) (pa_cons (pe_meth0 (pv 2) Z.cl F3.me G3 hr1 F3.bd .nil pass0) pa_nil)))) pa_nil)))
      (pss_one (ps_ret (pe_tup (pa_cons pe_str (pa_cons (pv 5) (pa_cons (pe_callB (call_reprSd hG2 hu) (by rfl) T.repr (by decide +kernel) (pa_cons (pe_lst (pa_cons (pe_meth0 (pv 2) Z.cl F1.me G1 hr1 F1.bd .nil pass0) (pa_cons (pe_meth0 (pv 2) Z.cl F2.me G2 hr1 F2.bd .nil pass0) (pa_cons (pe_meth0 (pv 2) Z.cl F3.me G3 hr1 F3.bd .nil pass0) pa_nil)))) pa_nil)) pa_nil)))))))))), ?_⟩
    have ho : ∀ v ∈ [a, b, c], Odd H v := fun v hv => by
      simp only [List.mem_cons, List.not_mem_nil, or_false] at hv
      rcases hv with rfl | rfl | rfl
      · exact ha.odd
      · exact hb.odd
      · exact hc.odd
    refine ⟨_, rfl, _, rfl, t, way, a, b, c, rfl, ht, ho, fun r x dx H1 nx sm hx => ?_, fun z r d H1 nd' sm hd => ?_⟩
    · refine ⟨_, rfl, rfl, _, rfl, ?_⟩
      rw [decide_eq_false (show ¬ V.ref x = V.non from nofun)]
      have one : ∀ {Hx : Hp}, Same H1 Hx → Hx x = some (.ins C dx (bf a b c)) := fun s => s _ _ hx
      obtain ⟨n1, n2, n3⟩ := fit3 ha hb hc
      have g1 : (bf a b c).lookup ("seats" : Str) = none := bf_no (by decide +kernel) (by decide +kernel) (by decide +kernel)
      have g2 : (bf a b c).lookup ("carries" : Str) = none := bf_no (by decide +kernel) (by decide +kernel) (by decide +kernel)
      have g3 : (bf a b c).lookup ("man" : Str) = none := bf_no (by decide +kernel) (by decide +kernel) (by decide +kernel)
      refine ⟨_, rfl, x, dx, _, rfl, hx, g1, x, dx, a, b, c, rfl, hx, _, rfl, x, dx, _, rfl, hx, g2, x, dx, a, b, c, rfl, hx, _, rfl, x, dx, _, rfl, hx, g3, x, dx, a, b, c, rfl, hx, by show 3 ≤ sizeLine; decide, fun l nl => ?_⟩
      have s1 := same_upd (o := .lst [a, b, c]) nl
      have sA := sm.trans s1
      refine ⟨l, _, [da, db, dc], rfl, SqL.of upd_same, .cons (ha.mono sA).sd (.cons (hb.mono sA).sd (.cons (hc.mono sA).sd .nil)), n1, n2, n3, ?_⟩
      have hx1 := s1 _ _ hx
      refine ⟨_, rfl, _, rfl, x, dx, _, rfl, hx1, g1, x, dx, a, b, c, rfl, hx1, _, rfl, x, dx, _, rfl, hx1, g2, x, dx, a, b, c, rfl, hx1, _, rfl, x, dx, _, rfl, hx1, g3, x, dx, a, b, c, rfl, hx1, by show 3 ≤ sizeLine; decide, fun l2 nl2 => ?_⟩
      have s2 := same_upd (o := .lst [a, b, c]) nl2
      have sB := sA.trans s2
      refine ⟨l2, _, [da, db, dc], rfl, SqL.of upd_same, .cons (ha.mono sB).sd (.cons (hb.mono sB).sd (.cons (hc.mono sB).sd .nil)), n1, n2, n3, ?_⟩
      refine ⟨by show 3 ≤ sizeLine; decide, fun u nu => ?_⟩
      exact q1 r u _ (sB.trans (same_upd nu)) upd_same
    · refine ⟨true, R.ca, fun _ a na => ?_, fun z => nomatch z⟩
      refine ⟨_, rfl, fun oe hz hf => ⟨rfl, d, z, hz, hf, hd, fun H2 sm2 => ?_⟩⟩
      refine ⟨_, rfl, rfl, _, rfl, ?_⟩
      rw [decide_eq_true rfl]
      refine ⟨_, rfl, by show 2 ≤ sizeLine; decide, fun u nu => ?_⟩
      exact q2 z r u _ ((sm.trans sm2).trans (same_upd nu)) upd_same
end
end K31

set_option Elab.async false
set_option linter.all false
set_option maxRecDepth 100000
/-! Own layer: shown texts have signs of the alphabet alone (strOk). -/
namespace LT
open PySem PySem.Spec PyProof.Rows L2
theorem ok_of (s : String) : PyData.strOk (Str.ofString s) = true := by
  rw [Str.ofString_eq_toList]
  show (((s.toList.map Char.toNat).toArray).all fun c => decide (c < 0x110000)) = true
  rw [List.all_toArray, List.all_eq_true]
  intro c hc
  obtain ⟨d, _, rfl⟩ := List.mem_map.mp hc
  have h : d.val.toNat.isValidChar := d.valid
  rcases h with h | h <;> (refine decide_eq_true ?_; show d.val.toNat < _; omega)
theorem ok_app {x y : Str} (hx : PyData.strOk x = true) (hy : PyData.strOk y = true) : PyData.strOk (x ++ y) = true := by
  show ((x.cps ++ y.cps).all fun c => decide (c < 0x110000)) = true
  rw [Array.all_append]
  rw [show (x.cps.all fun c => decide (c < 0x110000)) = true from hx, show (y.cps.all fun c => decide (c < 0x110000)) = true from hy]
  rfl
theorem ok_textFrom : ∀ (ts : List Str) (k : Nat) (acc : Str), PyData.strOk acc = true → (∀ t ∈ ts, PyData.strOk t = true) → PyData.strOk (textFrom k acc ts) = true
  | [], _, _, ha, _ => ha
  | t :: r, k, acc, ha, h => ok_textFrom r (k + 1) _ (ok_app (ok_app ha (by split <;> exact ok_of _)) (h t List.mem_cons_self)) fun u hu => h u (List.mem_cons_of_mem _ hu)
theorem ok_listText {ts : List Str} (h : ∀ t ∈ ts, PyData.strOk t = true) : PyData.strOk (listText ts) = true := ok_app (ok_textFrom ts 0 _ (ok_of "[") h) (ok_of "]")
/-- a tuple of texts beside itself -/
theorem strs_lay {xs : List Str} (h : ∀ x ∈ xs, PyData.strOk x = true) : PyData.canLay0 (.tuple (xs.map .str)) = true ∧ SeqAt.shaped (.tuple (xs.map .str)) = true := by
  have a : ∀ {ys : List Str}, (∀ x ∈ ys, PyData.strOk x = true) → PyData.canLayAll0 (ys.map .str) = true ∧ PyData.depthAll (ys.map .str) = 0 := by
    intro ys
    induction ys with
    | nil => intro _; exact ⟨by simp [PyData.canLayAll0], by simp [PyData.depthAll]⟩
    | cons y ys ih =>
      intro hy
      obtain ⟨i1, i2⟩ := ih fun x hx => hy x (List.mem_cons_of_mem _ hx)
      exact ⟨by simp [PyData.canLayAll0, PyData.canLay0, hy y List.mem_cons_self, i1], by simp [PyData.depthAll, PyData.depth, i2]⟩
  obtain ⟨a1, a2⟩ := a h
  have h0 : PyData.canLay0 (.tuple (xs.map .str)) = true := by simpa [PyData.canLay0] using a1
  refine ⟨h0, ?_⟩
  unfold SeqAt.shaped
  rw [h0]
  simp [PyData.depth, a2]
end LT

set_option Elab.async false
set_option linter.all false
set_option maxRecDepth 100000
set_option maxHeartbeats 1600000
namespace K31
open PySem PySem.Spec PyProof.Rows L2 LT
abbrev nLaw : List Str := ["_law_script", "_law_k", "_law_pot_here", "_law_way", "_law_many", "_law_three", "_law_turn", "_law_kept", "_law_wrong_here", "_law_due"]
theorem scLaw : FnScope nLaw ["_law_script"] (defScope sLaw) := ⟨rfl, rfl, rfl, by decide +kernel, rfl, by decide +kernel, by decide +kernel⟩
theorem Th.ok {H : Hp} {v : V} {d : PyData} (h : Th H v d) : PyData.strOk d.shown = true := by
  cases h with
  | non => decide +kernel
  | bl b => cases b <;> decide +kernel
  | int i hi => simp only [PyData.shown]; exact ok_of _
  | s3 => decide +kernel
  | s0 => decide +kernel
  | lst e => decide +kernel
  | tup e => decide +kernel
  | dk e => decide +kernel
theorem ok_shown3 {H : Hp} {a b c : V} {da db dc : PyData} (ha : Th H a da) (hb : Th H b db) (hc : Th H c dc) : PyData.strOk (shown3 da db dc) = true := by
  unfold shown3
  rw [show PyData.shown (.list [da, db, dc]) = listText [da.shown, db.shown, dc.shown] by simp only [PyData.shown, PyData.shownAll]]
  refine ok_listText fun t ht => ?_
  simp only [List.mem_cons, List.not_mem_nil, or_false] at ht
  rcases ht with rfl | rfl | rfl
  · exact ha.ok
  · exact hb.ok
  · exact hc.ok
theorem Th.updT {H : Hp} {th : Addr} {v : V} {d : PyData} {a b c : V} {o : HO} (h : Th H v d) (ht : H th = some (.lst [a, b, c])) : Th (upd H th o) v d := by
  cases h with
  | non => exact .non
  | bl b => exact .bl b
  | int i hi => exact .int i hi
  | s3 => exact .s3
  | s0 => exact .s0
  | lst e => exact .lst (by rw [upd_ne (ne_of e ht (by intro z; cases z))]; exact e)
  | tup e => exact .tup (by rw [upd_ne (ne_of e ht (by intro z; cases z))]; exact e)
  | dk e => exact .dk (by rw [upd_ne (ne_of e ht (by intro z; cases z))]; exact e)
theorem bad_ne {a b c : V} {z : Str} (h : badF a b c = some z) : z ≠ Str.ofString "" ∧ PyData.strOk z = true := by
  unfold badF at h
  split at h
  · split at h
    · split at h
      · cases h
      · cases h; exact ⟨by decide +kernel, by decide +kernel⟩
    · cases h; exact ⟨by decide +kernel, by decide +kernel⟩
  · cases h; exact ⟨by decide +kernel, by decide +kernel⟩
/-- what stands in the three -/
structure Tr (p th : Addr) (H : Hp) (a b c : V) (da db dc : PyData) (H' : Hp) : Prop where
  at_ : H' th = some (.lst [a, b, c])
  ha : Th H' a da
  hb : Th H' b db
  hc : Th H' c dc
  pot : Pot H' p
  sm : Same H H'
theorem Tr.npt {p th : Addr} {H H' : Hp} {a b c : V} {da db dc : PyData} (h : Tr p th H a b c da db dc H') : th ≠ p := ne_of_pot h.pot h.at_
theorem Tr.stepB {p th : Addr} {H H1 H2 : Hp} {a b c : V} {da db dc : PyData} (h : Tr p th H a b c da db dc H1) (np : H p = none) (s : SameB p H1 H2) (hp : Pot H2 p) : Tr p th H a b c da db dc H2 :=
  ⟨s _ _ h.npt h.at_, h.ha.monoB h.pot s, h.hb.monoB h.pot s, h.hc.monoB h.pot s, hp, sameB_new np h.sm s⟩
theorem Tr.step {p th : Addr} {H H1 H2 : Hp} {a b c : V} {da db dc : PyData} (h : Tr p th H a b c da db dc H1) (s : Same H1 H2) : Tr p th H a b c da db dc H2 :=
  ⟨s _ _ h.at_, h.ha.mono s, h.hb.mono s, h.hc.mono s, h.pot.mono s, h.sm.trans s⟩
section
variable {P : Program} {w : World} {K : PySem.W.Frag} {mg : Str → Option Value} {base : Heap} {C CN CW CL CB c1 c2 c3 c4 c5 c6 c7 : Addr}
def spLaw (K : PySem.W.Frag) : Sp := fun vs H Q _ => ∃ (a : Addr) (ns : List Int), vs = [.ref a] ∧ SqL K H a (ns.map V.int) ∧ ns.length ≤ 63 ∧ ∀ H', Q (.bl true) H'
/-- all defs -/
structure Fs (K : PySem.W.Frag) (P : Program) (mg : Str → Option Value) (C CN : Addr) : Prop where
  fr : ∃ f fd, Has K mg "is_from" ["thing", "least"] sFrom f fd
  wh : ∃ f fd, Has K mg "is_whole" ["thing"] sWhole f fd
  nb : ∃ fN cc cd fdN, Nb K P mg CN fN cc cd fdN
  ini : ∃ f fd, Mk K C f ∧ Fun K "__init__" "Boat.__init__" sInit f fd ∧ L2.Binds K fd ["self", "seats", "carries", "man"] []
  se : ∃ f fd, Mth K C "seats" "Boat.seats" ["self"] sSeats f fd
  ca : ∃ f fd, Mth K C "carries" "Boat.carries" ["self"] sCarries f fd
  mn : ∃ f fd, Mth K C "man" "Boat.man" ["self"] sMan f fd
  ce : ∃ f fd, Has K mg "_law_cell" ["_law_script", "_law_k"] sCell f fd
  po : ∃ f fd, Has K mg "_law_pot" ["_law_script", "_law_k"] sPot f fd
  ta : ∃ f fd, Has K mg "_law_take" ["_law_pot_here", "_law_room"] sTake f fd
  nu : ∃ f fd, Has K mg "_law_number" ["_law_pot_here", "_law_most"] sNumber f fd
  od : ∃ f fd, Has K mg "_law_odd" ["_law_pot_here"] sOdd f fd
  wr : ∃ f fd, Has K mg "_law_wrong" ["_law_three"] sWrong f fd
  fi : ∃ f fd, Has K mg "_law_field" ["_law_e"] sField f fd
  ma : ∃ f fd, Has K mg "_law_made" ["_law_three", "_law_way"] sMade f fd
  me : ∃ f fd, Has K mg "_law_met" ["_law_three", "_law_way"] sMet f fd
theorem ok_law {f : Addr} {fd : FuncData} (F : Fun K "law" "law" sLaw f fd) (T : Tx mg) (Z : Ct K mg C) (R : Er K mg CN CW CL CB c1 c2 c3 c4 c5 c6 c7) (D : Fs K P mg C CN) : FnG P w K mg base CX0 7 f fd ["_law_script"] (spLaw K) := by
  obtain ⟨fF, fdF, FF⟩ := D.fr
  obtain ⟨fW, fdW, FW⟩ := D.wh
  obtain ⟨fN, cc, cd, fdN, N⟩ := D.nb
  obtain ⟨fI, fdI, M, FI, bI⟩ := D.ini
  obtain ⟨f1, fd1, F1⟩ := D.se
  obtain ⟨f2, fd2, F2⟩ := D.ca
  obtain ⟨f3, fd3, F3⟩ := D.mn
  obtain ⟨fC, fdC, FC⟩ := D.ce
  obtain ⟨fP, fdP, FP⟩ := D.po
  obtain ⟨fT, fdT, FT⟩ := D.ta
  obtain ⟨fU, fdU, FU⟩ := D.nu
  obtain ⟨fO, fdO, FO⟩ := D.od
  obtain ⟨fR, fdR, FR⟩ := D.wr
  obtain ⟨fX, fdX, FX⟩ := D.fi
  obtain ⟨fM, fdM, FM⟩ := D.ma
  obtain ⟨fE, fdE, FE⟩ := D.me
  have GP : FnOk P w K mg base CX0 2 fP fdP ["_law_script", "_law_k"] (spPot K) := ok_pot FP.fn T FC.fn FC.bd FC.gl
  have GT : FnOk P w K mg base CX0 1 fT fdT ["_law_pot_here", "_law_room"] spTake := ok_take FT.fn T
  have GU : FnOk P w K mg base CX0 2 fU fdU ["_law_pot_here", "_law_most"] spNumber := ok_number FU.fn T FT
  have GO : FnOk P w K mg base CX0 2 fO fdO ["_law_pot_here"] spOdd := ok_odd FO.fn T FT
  have GR : FnOk P w K mg base CX0 1 fR fdR ["_law_three"] spWrong := ok_wrong FR.fn T
  have GE : FnG P w K mg base CX0 6 fE fdE ["_law_three", "_law_way"] spMet := ok_met (k := 0) FE.fn T Z N M FI R FF FW bI FM FX F1 F2 F3
  refine okG F scLaw (fun h => ?_) (fun cdv A outer s H vs Q E hG hr h => ?_)
  · obtain ⟨a, ns, rfl, _⟩ := h
    rfl
  · obtain ⟨a, ns, rfl, hS, hl, q⟩ := h
    have nd := scLaw.nd
    have hu := hr.units
    have r1 : Room 1 _ := hr.mono (by decide)
    have r2 : Room 2 _ := hr.mono (by decide)
    have hG2 : (cxOf CX0 P w K mg base nLaw "law" (defScope sLaw) f cdv A outer s H E).nox.A.guards = some [] := hG
    refine ⟨_, pss_cons (ps_for PassesOwn.never rfl (pi_range1 (by rfl) T.range (pa_cons (pe_callB (call_max2 rfl) (by rfl) T.max (by decide +kernel) (pa_cons pe_int (pa_cons
          (pe_callB (call_min2 rfl) (by rfl) T.min (by decide +kernel) (pa_cons (pe_callB call_len_seq (by rfl) T.len PySem.boot_len (pa_cons (pv 0) pa_nil)) (pa_cons pe_int pa_nil))) pa_nil))) pa_nil)) (pg_name (i := 1) nd rfl (.inl rfl))
        (pss_cons (ps_set (i := 2) nd rfl (.inl rfl) (pe_call GP r2 (by rfl) FP.gl FP.fn.kp FP.bd .nil pass0 (pa_cons (pv 0) (pa_cons (pv 1) pa_nil))))
        (pss_cons (ps_set (i := 3) nd rfl (.inl rfl) (pe_call GT r1 (by rfl) FT.gl FT.fn.kp FT.bd .nil pass0 (pa_cons (pv 2) (pa_cons pe_int pa_nil))))
        (pss_cons (ps_set (i := 4) nd rfl (.inl rfl) (pe_call GT r1 (by rfl) FT.gl FT.fn.kp FT.bd .nil pass0 (pa_cons (pv 2) (pa_cons pe_int pa_nil))))
        (pss_cons (ps_set (i := 5) nd rfl (.inl rfl) (pe_lst (pa_cons (pe_call GU r2 (by rfl) FU.gl FU.fn.kp FU.bd .nil pass0 (pa_cons (pv 2) (pa_cons pe_int pa_nil))) (pa_cons (pe_call GU r2 (by rfl) FU.gl FU.fn.kp FU.bd .nil pass0 (pa_cons (pv 2) (pa_cons pe_int pa_nil))) (pa_cons (pe_call GU r2 (by rfl) FU.gl FU.fn.kp FU.bd .nil pass0 (pa_cons (pv 2) (pa_cons pe_int pa_nil))) pa_nil)))))
        (pss_cons (ps_for PassesOwn.never rfl (pi_range1 (by rfl) T.range (pa_cons (pv 4) pa_nil)) (pg_name (i := 6) nd rfl (.inl rfl))
          (pss_one (ps_asg (pe_call GO r2 (by rfl) FO.gl FO.fn.kp FO.bd .nil pass0 (pa_cons (pv 2) pa_nil)) (pg_sub (pv 5) (pe_call GT r1 (by rfl) FT.gl FT.fn.kp FT.bd .nil pass0 (pa_cons (pv 2) (pa_cons pe_int pa_nil))) set_list))))
        (pss_cons (ps_set (i := 7) nd rfl (.inl rfl) (pe_callB (call_reprSd hG2 hu) (by rfl) T.repr (by decide +kernel) (pa_cons (pv 5) pa_nil)))
        (pss_cons (ps_set (i := 8) nd rfl (.inl rfl) (pe_call GR r1 (by rfl) FR.gl FR.fn.kp FR.bd .nil pass0 (pa_cons (pv 5) pa_nil)))
        (pss_cons (ps_set (i := 9) nd rfl (.inl rfl) (pe_ifExp (pt_cmpR op_ne (pv 8) pe_str (nomark _)) (pe_tup (pa_cons pe_str (pa_cons (pv 8) pa_nil))) (pe_tup (pa_cons pe_str (pa_cons (pv 7) (pa_cons (pv 7) pa_nil))))))
        (pss_one (ps_if (PW.pt (pw_or (pt_cmpR (op_neD hu) (pe_callG GE hG2 hr (by rfl) FE.gl FE.fn.kp FE.bd .nil pass0 (pa_cons (pv 5) (pa_cons (pv 3) pa_nil))) (pv 9) (nomark _))
            (pw_or1 (pt_cmpR op_ne (pe_callB (call_reprSd hG2 hu) (by rfl) T.repr (by decide +kernel) (pa_cons (pv 5) pa_nil)) (pv 7) (nomark _))))) (pss_one (ps_ret pe_bl)) pss_nil)))))))))))
      (pss_one (ps_ret pe_bl)), ?_⟩
    refine ⟨_, rfl, a, _, rfl, .inl hS, _, _, rfl, _, _, rfl, ?_⟩
    generalize hN : (if (if (30 : Int) < ((ns.map V.int).length : Nat) then (30 : Int) else ((ns.map V.int).length : Nat)) > 1 then (if (30 : Int) < ((ns.map V.int).length : Nat) then (30 : Int) else ((ns.map V.int).length : Nat)) else 1) = N
    have hN1 : 1 ≤ N ∧ N ≤ 30 := by
      rw [← hN]
      split <;> (try split) <;> omega
    refine ⟨N, rfl, by omega, by omega, for_range (lo := 0) (n := N.toNat) (fun i σ H' => (∃ x1 x2 x3 x4 x5 x6 x7 x8 x9, σ = [some (.ref a), x1, x2, x3, x4, x5, x6, x7, x8, x9]) ∧ Same H H') ⟨⟨none, none, none, none, none, none, none, none, none, rfl⟩, Same.refl H⟩ ?_ ?_⟩
    · rintro i σ H1 hi ⟨⟨x1, x2, x3, x4, x5, x6, x7, x8, x9, rfl⟩, sm⟩
      refine ⟨_, rfl, _, rfl, a, ns, i, (by rw [Int.zero_add]; rfl), sm.seq hS, by omega, fun p H2 np s2 hp => ?_⟩
      have npH : H p = none := sm.free np
      refine ⟨_, rfl, p, 3, rfl, hp, by decide, by decide, fun way H3 w0 w1 hp3 sb3 => ?_⟩
      refine ⟨_, rfl, p, 3, rfl, hp3, by decide, by decide, fun many H4 m0 m1 hp4 sb4 => ?_⟩
      refine ⟨_, rfl, p, 12, rfl, hp4, by decide, by decide, fun u1 H5 a0 a1 hp5 sb5 => ?_⟩
      refine ⟨_, rfl, p, 200, rfl, hp5, by decide, by decide, fun u2 H6 b0 b1 hp6 sb6 => ?_⟩
      refine ⟨_, rfl, p, 12, rfl, hp6, by decide, by decide, fun u3 H7 e0 e1 hp7 sb7 => ?_⟩
      refine ⟨by show 3 ≤ sizeLine; decide, fun th nth => ?_⟩
      have sm7 : Same H H7 := sameB_new npH (sm.trans s2) ((((sb3.trans sb4).trans sb5).trans sb6).trans sb7)
      have nthH : H th = none := sm7.free nth
      have J0 : Tr p th H (.int u1) (.int u2) (.int u3) (.int u1) (.int u2) (.int u3) (upd H7 th (.lst [.int u1, .int u2, .int u3])) :=
        ⟨upd_same, .int _ (by omega), .int _ (by omega), .int _ (by omega), hp7.mono (same_upd nth), sm7.trans (same_upd nth)⟩
      refine ⟨_, rfl, many, rfl, by omega, by omega, for_range (lo := 0) (n := many.toNat) (fun j σ H' => (∃ y6, σ = [some (.ref a), some (.int (0 + (i : Nat))), some (.ref p), some (.int way), some (.int many), some (.ref th), y6, x7, x8, x9]) ∧ ∃ va vb vc da db dc, Tr p th H va vb vc da db dc H') ⟨⟨_, rfl⟩, _, _, _, _, _, _, J0⟩ ?_ ?_⟩
      · rintro j σ H8 hj ⟨⟨y6, rfl⟩, va, vb, vc, da, db, dc, J⟩
        refine ⟨_, rfl, p, rfl, J.pot, fun v dv H9 hv hp9 sb9 => ?_⟩
        have J9 := J.stepB npH sb9 hp9
        refine ⟨_, rfl, _, rfl, p, 3, rfl, J9.pot, by decide, by decide, fun d H10 d0 d1 hp10 sb10 => ?_⟩
        have J10 := J9.stepB npH sb10 hp10
        have hv10 := hv.monoB J9.pot sb10
        have put : ∀ o, Same H (upd H10 th o) := fun o => same_app nthH J10.sm
        have pp : ∀ o, Pot (upd H10 th o) p := fun o => J10.pot.upd J10.npt
        have hd : d = 0 ∨ d = 1 ∨ d = 2 := by omega
        rcases hd with rfl | rfl | rfl
        · exact ⟨th, _, 0, 0, rfl, rfl, J10.at_, rfl, ⟨_, rfl⟩, v, vb, vc, dv, db, dc, upd_same, hv10.updT J10.at_, J10.hb.updT J10.at_, J10.hc.updT J10.at_, pp _, put _⟩
        · exact ⟨th, _, 1, 1, rfl, rfl, J10.at_, rfl, ⟨_, rfl⟩, va, v, vc, da, dv, dc, upd_same, J10.ha.updT J10.at_, hv10.updT J10.at_, J10.hc.updT J10.at_, pp _, put _⟩
        · exact ⟨th, _, 2, 2, rfl, rfl, J10.at_, rfl, ⟨_, rfl⟩, va, vb, v, da, db, dv, upd_same, J10.ha.updT J10.at_, J10.hb.updT J10.at_, hv10.updT J10.at_, pp _, put _⟩
      · rintro σ H8 ⟨⟨y6, rfl⟩, va, vb, vc, da, db, dc, J⟩
        obtain ⟨n1, n2, n3⟩ := fit3 J.ha J.hb J.hc
        have ho : ∀ {Hx : Hp}, Tr p th H va vb vc da db dc Hx → ∀ v ∈ [va, vb, vc], Odd Hx v := fun {Hx} J v hv => by
          simp only [List.mem_cons, List.not_mem_nil, or_false] at hv
          rcases hv with rfl | rfl | rfl
          · exact J.ha.odd
          · exact J.hb.odd
          · exact J.hc.odd
        refine ⟨_, rfl, th, _, [da, db, dc], rfl, SqL.of J.at_, .cons J.ha.sd (.cons J.hb.sd (.cons J.hc.sd .nil)), n1, n2, n3, ?_⟩
        refine ⟨_, rfl, th, va, vb, vc, rfl, J.at_, ho J, fun H9 s9 => ?_⟩
        have J9 := J.step s9
        have fin : ∀ {Hx : Hp}, Tr p th H va vb vc da db dc Hx → (PyData.list [da, db, dc]).shown = shown3 da db dc := fun _ => rfl
        have oks := ok_shown3 J.ha J.hb J.hc
        refine ⟨_, rfl, rfl, _, rfl, ?_⟩
        cases hb : badF va vb vc with
        | none =>
          rw [show wrongS va vb vc = Str.ofString "" by unfold wrongS; rw [hb]; rfl, decide_eq_true rfl]
          refine ⟨_, rfl, _, rfl, by show 3 ≤ sizeLine; decide, fun t nt => ?_⟩
          have s10 := same_upd (o := .tup [V.str (Str.ofString "made"), .str (shown3 da db dc), .str (shown3 da db dc)]) nt
          have J10 := J9.step s10
          refine ⟨_, rfl, _, rfl, th, way, va, vb, vc, da, db, dc, rfl, J10.at_, J10.ha, J10.hb, J10.hc, fun _ u H11 s11 hu11 => ?_, fun z hz => by rw [hb] at hz; cases hz⟩
          have J11 := J10.step s11
          obtain ⟨l1, l2⟩ := strs_lay (xs := [Str.ofString "made", shown3 da db dc, shown3 da db dc]) (by
            intro x hx
            simp only [List.mem_cons, List.not_mem_nil, or_false] at hx
            rcases hx with rfl | rfl | rfl
            · exact ok_of _
            · exact oks
            · exact oks)
          refine ⟨_, rfl, .tuple [.str (Str.ofString "made"), .str (shown3 da db dc), .str (shown3 da db dc)], .tuple [.str (Str.ofString "made"), .str (shown3 da db dc), .str (shown3 da db dc)], .tup (SqT.of hu11) (.cons (.str _) (.cons (.str _) (.cons (.str _) .nil))), .tup (SqT.of (s11 _ _ upd_same)) (.cons (.str _) (.cons (.str _) (.cons (.str _) .nil))), l2, l2, _, rfl, ?_⟩
          rw [show PyData.eqv (.tuple [.str (Str.ofString "made"), .str (shown3 da db dc), .str (shown3 da db dc)]) (.tuple [.str (Str.ofString "made"), .str (shown3 da db dc), .str (shown3 da db dc)]) = true from SeqAt.eqv_refl _ l1]
          refine ⟨_, rfl, th, _, [da, db, dc], rfl, SqL.of J11.at_, .cons J11.ha.sd (.cons J11.hb.sd (.cons J11.hc.sd .nil)), n1, n2, n3, _, rfl, rfl, _, rfl, ?_⟩
          rw [decide_eq_true rfl]
          exact ⟨⟨_, _, _, _, _, _, _, _, _, rfl⟩, J11.sm⟩
        | some z =>
          obtain ⟨zn, zok⟩ := bad_ne hb
          have e : wrongS va vb vc = z := by unfold wrongS; rw [hb]; rfl
          rw [e, decide_eq_false (show ¬ V.str z = V.str (Str.ofString "") from fun h => zn (V.str.inj h))]
          refine ⟨_, rfl, by show 2 ≤ sizeLine; decide, fun t nt => ?_⟩
          have s10 := same_upd (o := .tup [V.str (Str.ofString "refused"), .str z]) nt
          have J10 := J9.step s10
          refine ⟨_, rfl, _, rfl, th, way, va, vb, vc, da, db, dc, rfl, J10.at_, J10.ha, J10.hb, J10.hc, fun hn => (by rw [hb] at hn; cases hn), fun z' hz u H11 s11 hu11 => ?_⟩
          rw [hb] at hz
          cases hz
          have J11 := J10.step s11
          obtain ⟨l1, l2⟩ := strs_lay (xs := [Str.ofString "refused", z]) (by
            intro x hx
            simp only [List.mem_cons, List.not_mem_nil, or_false] at hx
            rcases hx with rfl | rfl
            · exact ok_of _
            · exact zok)
          refine ⟨_, rfl, .tuple [.str (Str.ofString "refused"), .str z], .tuple [.str (Str.ofString "refused"), .str z], .tup (SqT.of hu11) (.cons (.str _) (.cons (.str _) .nil)), .tup (SqT.of (s11 _ _ upd_same)) (.cons (.str _) (.cons (.str _) .nil)), l2, l2, _, rfl, ?_⟩
          rw [show PyData.eqv (.tuple [.str (Str.ofString "refused"), .str z]) (.tuple [.str (Str.ofString "refused"), .str z]) = true from SeqAt.eqv_refl _ l1]
          refine ⟨_, rfl, th, _, [da, db, dc], rfl, SqL.of J11.at_, .cons J11.ha.sd (.cons J11.hb.sd (.cons J11.hc.sd .nil)), n1, n2, n3, _, rfl, rfl, _, rfl, ?_⟩
          rw [decide_eq_true rfl]
          exact ⟨⟨_, _, _, _, _, _, _, _, _, rfl⟩, J11.sm⟩
    · rintro σ H1 ⟨_, _⟩
      exact q _
end
end K31

set_option Elab.async false
set_option linter.all false
set_option maxRecDepth 100000
set_option maxHeartbeats 3200000
namespace K31
open PySem PySem.Spec PyProof.Rows L2 LT
/-- what the top has left of a def -/
structure Left (K : PySem.W.Frag) (x : Str) (st : Stmt) (f : Addr) (oc : Value) (od an : Option Addr) (kV dc pm cd ct : Value) (sl : Array (Option Value)) : Prop where
  ns : PySem.W.nsIn K mainGlobals x = some (some (.ref f))
  lk : K.lookup f = some ⟨oc, od, .func (PySem.W.fnOf x x (defArgs st) (defBody st) (defScope st) .none kV dc pm an cd ct), sl⟩
  cd : PySem.W.codeIn K cd x = true
  kp : PySem.W.keepIn K (.ref f) = true
theorem Left.fn {K : PySem.W.Frag} {x : Str} {st : Stmt} {f : Addr} {oc : Value} {od an : Option Addr} {kV dc pm cd ct : Value} {sl : Array (Option Value)} (h : Left K x st f oc od an kV dc pm cd ct sl) :
    Fun K x x st f (PySem.W.fnOf x x (defArgs st) (defBody st) (defScope st) .none kV dc pm an cd ct) := fun_mk h.lk h.cd h.kp
/-- what the top has left of a method -/
structure LeftM (K : PySem.W.Frag) (C : Addr) (x q : Str) (st : Stmt) (f : Addr) (oc : Value) (od an : Option Addr) (kV dc pm cd ct : Value) (sl : Array (Option Value)) : Prop where
  at_ : PySem.W.findIn K (.ref C) x = some (some (.ref f))
  lk : K.lookup f = some ⟨oc, od, .func (PySem.W.fnOf x q (defArgs st) (defBody st) (defScope st) .none kV dc pm an cd ct), sl⟩
  cd : PySem.W.codeIn K cd q = true
  kp : PySem.W.keepIn K (.ref f) = true
  isf : PySem.W.isFn K (.ref f) = true
theorem LeftM.fn {K : PySem.W.Frag} {C : Addr} {x q : Str} {st : Stmt} {f : Addr} {oc : Value} {od an : Option Addr} {kV dc pm cd ct : Value} {sl : Array (Option Value)} (h : LeftM K C x q st f oc od an kV dc pm cd ct sl) :
    Fun K x q st f (PySem.W.fnOf x q (defArgs st) (defBody st) (defScope st) .none kV dc pm an cd ct) := fun_mk h.lk h.cd h.kp
theorem LeftM.me {K : PySem.W.Frag} {C : Addr} {x q : Str} {st : Stmt} {f : Addr} {oc : Value} {od an : Option Addr} {kV dc pm cd ct : Value} {sl : Array (Option Value)} (h : LeftM K C x q st f oc od an kV dc pm cd ct sl) :
    Meth K C x f := ⟨h.at_, h.isf, h.kp⟩
/-- what the top has left of an own error with super().__init__ -/
structure LeftE (K : PySem.W.Frag) (pr : Program) (q : Str) (st : Stmt) (C f cc c : Addr) (nm qn : Str) (N : Addr) (bs bm : List Value) (sn : List Str) (sub : List Value) (ab : Bool) (col : Option Bool) (dd : Option Addr) (k0 k1 k2 k3 k5 : Option Value) (oc : Value) (od : Option Addr)
    (kV doc pm : Value) (an : Option Addr) (ct : Value) (osl : Array (Option Value)) (ca : Value) (cb : Option Addr) (c3 : Array (Option Value)) (ka : Value) (kb : Option Addr) (kc : Array (Option Value)) (vs : Array Value) (fl : Str) (tf : Tok) : Prop where
  lk : K.lookup C = some (excClassObj nm qn C N bs bm true sn sub ab col dd k0 k1 k2 k3 k5 "ValueError.__new__")
  rv : PySem.HandSPX.refsVE bm = true
  sa : PySem.W.findIn K (.ref C) "__setattr__" = some (some (.builtin "object.__setattr__"))
  exC : PySem.W.subIn K (.ref C) (.type "BaseException") = some true
  tyC : PySem.W.typeIn K (.ref C) = some (.type "type")
  kC : PySem.W.keepIn K (.ref C) = true
  cell : K.lookup cc = some ⟨ca, cb, .cell (some (.ref C)), c3⟩
  code : K.lookup c = some ⟨ka, kb, .fields vs, kc⟩
  v2 : vs[2]? = some (.str fl tf)
  file : ((pr.main.file : Str) == fl) = true
  hsub : PySem.W.mroIn K C (.ref C) = some true
  sup : PySem.W.ks_superIn K C C "__init__" = some (some (.builtin "ValueError.__init__"))
  sB : PySem.W.subIn K (.ref C) (.type "ValueError") = some true
  op : PySem.W.nsIn K cStatics "thirdparty.any" = some none
  cd : PySem.W.codeIn K (.ref c) q = true
  fn : K.lookup f = some ⟨oc, od, .func (PySem.W.fnX "__init__" q (defArgs st) (defBody st) (defScope st) [(("__class__" : Str), cc)] .none kV doc pm an (.ref c) ct), osl⟩
  hno : PySem.W.findIn K (.ref C) "field" = some none
  ini : PySem.W.findIn K (.ref C) "__init__" = some (some (.ref f))
  tI : PySem.W.typeIn K (.ref f) = some (.type "function")
theorem kit_self {K : PySem.W.Frag} {a : Addr} : PySem.W.kitOne K (.ref a) (.ref a) = some true := if_pos (c := ((Value.ref a) == (Value.ref a)) = true) (beq_self_eq_true (Value.ref a))
theorem cls_of {K : PySem.W.Frag} {t : Value} {C : Addr} {b : Bool} (i : PySem.W.isClsIn K C = true) (ty : PySem.W.typeIn K (.ref C) = some (.type "type")) (s : PySem.W.subIn K t (.ref C) = some b) : PySem.W.kitCls K t (.ref C) = some b := by
  have i' : (PySem.W.clsIn K C).isSome = true := i
  show (if ((PySem.W.clsIn K C).isSome && PySem.W.typeIn K (.ref C) == some (.type "type")) = true then PySem.W.subIn K t (.ref C) else none) = some b
  rw [i', ty]
  exact s
theorem kit_yes {K : PySem.W.Frag} {t : Value} {C : Addr} (i : PySem.W.isClsIn K C = true) (ty : PySem.W.typeIn K (.ref C) = some (.type "type")) (s : PySem.W.subIn K t (.ref C) = some true) : PySem.W.kitOne K t (.ref C) = some true := by
  unfold PySem.W.kitOne
  split
  · rfl
  · exact cls_of i ty s
theorem kit_no {K : PySem.W.Frag} {t : Value} {C : Addr} (i : PySem.W.isClsIn K C = true) (ty : PySem.W.typeIn K (.ref C) = some (.type "type")) (s : PySem.W.subIn K t (.ref C) = some false) (q : (t == .ref C) = false) : PySem.W.kitOne K t (.ref C) = some false := by
  unfold PySem.W.kitOne
  rw [q]
  exact cls_of i ty s
theorem kit_ve {K : PySem.W.Frag} {D : Addr} (s : PySem.W.subIn K (.ref D) (.type "ValueError") = some true) : PySem.W.kitOne K (.ref D) (.type "ValueError") = some true := by
  unfold PySem.W.kitOne
  split
  · rfl
  · show (if PySem.W.kitMeta "ValueError" = true then PySem.W.subIn K (.ref D) (.type "ValueError") else none) = some true
    rw [show PySem.W.kitMeta "ValueError" = true by decide +kernel]
    exact s
theorem exm_yes {K : PySem.W.Frag} {t : Value} {C : Addr} (b : PySem.W.subIn K (.ref C) (.type "BaseException") = some true) (i : PySem.W.isClsIn K C = true) (ty : PySem.W.typeIn K (.ref C) = some (.type "type")) (s : PySem.W.subIn K t (.ref C) = some true) : PySem.W.exmOne K t (.ref C) = some true := by
  unfold PySem.W.exmOne
  rw [b]
  exact cls_of i ty s
/-- what the top has left of the classes -/
structure LeftC (K : PySem.W.Frag) (C CN CW CL CB c1 c2 c3 c4 c5 c6 c7 : Addr) : Prop where
  n_C : PySem.W.nsIn K mainGlobals "Boat" = some (some (.ref C))
  n_NoBoat : PySem.W.nsIn K mainGlobals "NoBoat" = some (some (.ref CN))
  n_Wrong : PySem.W.nsIn K mainGlobals "Wrong" = some (some (.ref CW))
  n_LightsError : PySem.W.nsIn K mainGlobals "LightsError" = some (some (.ref CL))
  n_Barred : PySem.W.nsIn K mainGlobals "Barred" = some (some (.ref CB))
  n_NoDay : PySem.W.nsIn K mainGlobals "NoDay" = some (some (.ref c1))
  n_NoLight : PySem.W.nsIn K mainGlobals "NoLight" = some (some (.ref c2))
  n_NoName : PySem.W.nsIn K mainGlobals "NoName" = some (some (.ref c3))
  n_NoNumber : PySem.W.nsIn K mainGlobals "NoNumber" = some (some (.ref c4))
  n_NoRound : PySem.W.nsIn K mainGlobals "NoRound" = some (some (.ref c5))
  n_NoService : PySem.W.nsIn K mainGlobals "NoService" = some (some (.ref c6))
  n_NoStores : PySem.W.nsIn K mainGlobals "NoStores" = some (some (.ref c7))
  pg : PySem.W.plainGet K C Str.empty = true
  hd : PySem.W.hasDictIn K C = true
  po : PySem.W.plainOver K C = true
  sa : PySem.W.findIn K (.ref C) "__setattr__" = some (some (.builtin "object.__setattr__"))
  f1 : PySem.W.findIn K (.ref C) "many_seats" = some none
  f2 : PySem.W.findIn K (.ref C) "most_weight" = some none
  f3 : PySem.W.findIn K (.ref C) "man_weight" = some none
  kC : PySem.W.keepIn K (.ref C) = true
  mks : PySem.W.makesIn K C = true
  cn : PySem.W.specialIn K (.builtin "object.__class__") "__get__" = some (some (.builtin "getset_descriptor.__get__"))
  ct : PySem.W.takesIn K (.builtin "object.__class__") = some true
  eg : PySem.W.findIn K (.ref CN) "__getattribute__" = some (some (.builtin "BaseException.__getattribute__"))
  ek : PySem.W.findIn K (.ref CN) "__getattr__" = some none
  ed : PySem.W.hasDictIn K CN = true
  ea : PySem.W.findIn K (.ref CN) "__class__" = some (some (.builtin "object.__class__"))
  em : PySem.W.mroIn K CN (.type "object") = some true
  iW : PySem.W.isClsIn K CW = true
  tW : PySem.W.typeIn K (.ref CW) = some (.type "type")
  sW : PySem.W.subIn K (.ref CN) (.ref CW) = some true
  iL : PySem.W.isClsIn K CL = true
  tL : PySem.W.typeIn K (.ref CL) = some (.type "type")
  sL : PySem.W.subIn K (.ref CN) (.ref CL) = some true
  bL : PySem.W.subIn K (.ref CL) (.type "BaseException") = some true
  iCB : PySem.W.isClsIn K CB = true
  tCB : PySem.W.typeIn K (.ref CB) = some (.type "type")
  sCB : PySem.W.subIn K (.ref CN) (.ref CB) = some false
  qCB : ((Value.ref CN) == (Value.ref CB)) = false
  ic1 : PySem.W.isClsIn K c1 = true
  tc1 : PySem.W.typeIn K (.ref c1) = some (.type "type")
  sc1 : PySem.W.subIn K (.ref CN) (.ref c1) = some false
  qc1 : ((Value.ref CN) == (Value.ref c1)) = false
  ic2 : PySem.W.isClsIn K c2 = true
  tc2 : PySem.W.typeIn K (.ref c2) = some (.type "type")
  sc2 : PySem.W.subIn K (.ref CN) (.ref c2) = some false
  qc2 : ((Value.ref CN) == (Value.ref c2)) = false
  ic3 : PySem.W.isClsIn K c3 = true
  tc3 : PySem.W.typeIn K (.ref c3) = some (.type "type")
  sc3 : PySem.W.subIn K (.ref CN) (.ref c3) = some false
  qc3 : ((Value.ref CN) == (Value.ref c3)) = false
  ic4 : PySem.W.isClsIn K c4 = true
  tc4 : PySem.W.typeIn K (.ref c4) = some (.type "type")
  sc4 : PySem.W.subIn K (.ref CN) (.ref c4) = some false
  qc4 : ((Value.ref CN) == (Value.ref c4)) = false
  ic5 : PySem.W.isClsIn K c5 = true
  tc5 : PySem.W.typeIn K (.ref c5) = some (.type "type")
  sc5 : PySem.W.subIn K (.ref CN) (.ref c5) = some false
  qc5 : ((Value.ref CN) == (Value.ref c5)) = false
  ic6 : PySem.W.isClsIn K c6 = true
  tc6 : PySem.W.typeIn K (.ref c6) = some (.type "type")
  sc6 : PySem.W.subIn K (.ref CN) (.ref c6) = some false
  qc6 : ((Value.ref CN) == (Value.ref c6)) = false
  ic7 : PySem.W.isClsIn K c7 = true
  tc7 : PySem.W.typeIn K (.ref c7) = some (.type "type")
  sc7 : PySem.W.subIn K (.ref CN) (.ref c7) = some false
  qc7 : ((Value.ref CN) == (Value.ref c7)) = false
theorem all_mk {l : PySem.W.OpenLaw} {w : World} {K : PySem.W.Frag} {h : Heap} {mg : Str → Option Value} {fa : Addr} (X : K.In h) (G : h.Ns mainGlobals mg) (hfa : mg "law" = some (.ref fa))
    {C CN CW CL CB c1 c2 c3 c4 c5 c6 c7 : Addr} (D : LeftC K C CN CW CL CB c1 c2 c3 c4 c5 c6 c7)
    {fN ccN cdN : Addr} {nmN qnN : Str} {NN : Addr} {bsN bmN : List Value} {snN : List Str} {subN : List Value} {abN : Bool} {colN : Option Bool} {ddN : Option Addr} {k0N k1N k2N k3N k5N : Option Value} {ocN : Value} {odN : Option Addr} {kVN docN pmN : Value} {anN : Option Addr} {ctN : Value} {oslN : Array (Option Value)} {caN : Value} {cbN : Option Addr} {c3N : Array (Option Value)} {kaN : Value} {kbN : Option Addr} {kcN : Array (Option Value)} {vsN : Array Value} {flN : Str} {tfN : Tok} (EN : LeftE K l.prog "NoBoat.__init__" sErrI CN fN ccN cdN nmN qnN NN bsN bmN snN subN abN colN ddN k0N k1N k2N k3N k5N ocN odN kVN docN pmN anN ctN oslN caN cbN c3N kaN kbN kcN vsN flN tfN)
    {fI : Addr} {ocI : Value} {odI anI : Option Addr} {kVI dcI pmI cdI ctI : Value} {slI : Array (Option Value)} (FI : LeftM K C "__init__" "Boat.__init__" sInit fI ocI odI anI kVI dcI pmI cdI ctI slI)
    {fse : Addr} {ocse : Value} {odse anse : Option Addr} {kVse dcse pmse cdse ctse : Value} {slse : Array (Option Value)} (Fse : LeftM K C "seats" "Boat.seats" sSeats fse ocse odse anse kVse dcse pmse cdse ctse slse)
    {fca : Addr} {occa : Value} {odca anca : Option Addr} {kVca dcca pmca cdca ctca : Value} {slca : Array (Option Value)} (Fca : LeftM K C "carries" "Boat.carries" sCarries fca occa odca anca kVca dcca pmca cdca ctca slca)
    {fmn : Addr} {ocmn : Value} {odmn anmn : Option Addr} {kVmn dcmn pmmn cdmn ctmn : Value} {slmn : Array (Option Value)} (Fmn : LeftM K C "man" "Boat.man" sMan fmn ocmn odmn anmn kVmn dcmn pmmn cdmn ctmn slmn)
    {fwh : Addr} {ocwh : Value} {odwh anwh : Option Addr} {kVwh dcwh pmwh cdwh ctwh : Value} {slwh : Array (Option Value)} (Fwh : Left K "is_whole" sWhole fwh ocwh odwh anwh kVwh dcwh pmwh cdwh ctwh slwh)
    {ffr : Addr} {ocfr : Value} {odfr anfr : Option Addr} {kVfr dcfr pmfr cdfr ctfr : Value} {slfr : Array (Option Value)} (Ffr : Left K "is_from" sFrom ffr ocfr odfr anfr kVfr dcfr pmfr cdfr ctfr slfr)
    {fce : Addr} {occe : Value} {odce ance : Option Addr} {kVce dcce pmce cdce ctce : Value} {slce : Array (Option Value)} (Fce : Left K "_law_cell" sCell fce occe odce ance kVce dcce pmce cdce ctce slce)
    {fpo : Addr} {ocpo : Value} {odpo anpo : Option Addr} {kVpo dcpo pmpo cdpo ctpo : Value} {slpo : Array (Option Value)} (Fpo : Left K "_law_pot" sPot fpo ocpo odpo anpo kVpo dcpo pmpo cdpo ctpo slpo)
    {fta : Addr} {octa : Value} {odta anta : Option Addr} {kVta dcta pmta cdta ctta : Value} {slta : Array (Option Value)} (Fta : Left K "_law_take" sTake fta octa odta anta kVta dcta pmta cdta ctta slta)
    {fnu : Addr} {ocnu : Value} {odnu annu : Option Addr} {kVnu dcnu pmnu cdnu ctnu : Value} {slnu : Array (Option Value)} (Fnu : Left K "_law_number" sNumber fnu ocnu odnu annu kVnu dcnu pmnu cdnu ctnu slnu)
    {fod : Addr} {ocod : Value} {odod anod : Option Addr} {kVod dcod pmod cdod ctod : Value} {slod : Array (Option Value)} (Fod : Left K "_law_odd" sOdd fod ocod odod anod kVod dcod pmod cdod ctod slod)
    {fwr : Addr} {ocwr : Value} {odwr anwr : Option Addr} {kVwr dcwr pmwr cdwr ctwr : Value} {slwr : Array (Option Value)} (Fwr : Left K "_law_wrong" sWrong fwr ocwr odwr anwr kVwr dcwr pmwr cdwr ctwr slwr)
    {ffi : Addr} {ocfi : Value} {odfi anfi : Option Addr} {kVfi dcfi pmfi cdfi ctfi : Value} {slfi : Array (Option Value)} (Ffi : Left K "_law_field" sField ffi ocfi odfi anfi kVfi dcfi pmfi cdfi ctfi slfi)
    {fma : Addr} {ocma : Value} {odma anma : Option Addr} {kVma dcma pmma cdma ctma : Value} {slma : Array (Option Value)} (Fma : Left K "_law_made" sMade fma ocma odma anma kVma dcma pmma cdma ctma slma)
    {fme : Addr} {ocme : Value} {odme anme : Option Addr} {kVme dcme pmme cdme ctme : Value} {slme : Array (Option Value)} (Fme : Left K "_law_met" sMet fme ocme odme anme kVme dcme pmme cdme ctme slme)
    {fW : Addr} {ocW : Value} {odW anW : Option Addr} {kVW dcW pmW cdW ctW : Value} {slW : Array (Option Value)} (FW : Left K "law" sLaw fW ocW odW anW kVW dcW pmW cdW ctW slW)
    (pT : (l.prog.main.scope.names.lookup ("super" : Str)).isSome = false)
    (z_isinstance : PySem.W.nsIn K mainGlobals "isinstance" = some none)
    (z_int : PySem.W.nsIn K mainGlobals "int" = some none)
    (z_bool : PySem.W.nsIn K mainGlobals "bool" = some none)
    (z_len : PySem.W.nsIn K mainGlobals "len" = some none)
    (z_abs : PySem.W.nsIn K mainGlobals "abs" = some none)
    (z_max : PySem.W.nsIn K mainGlobals "max" = some none)
    (z_min : PySem.W.nsIn K mainGlobals "min" = some none)
    (z_divmod : PySem.W.nsIn K mainGlobals "divmod" = some none)
    (z_range : PySem.W.nsIn K mainGlobals "range" = some none)
    (z_repr : PySem.W.nsIn K mainGlobals "repr" = some none)
    (z_zip : PySem.W.nsIn K mainGlobals "zip" = some none)
    (z_ValueError : PySem.W.nsIn K mainGlobals "ValueError" = some none)
    (z_super : PySem.W.nsIn K mainGlobals "super" = some none)
    : ∃ fd : FuncData, (∀ (s : Shared) (v : Value), BindsTo s fd ⟨[v], []⟩ [("_law_script", v)]) ∧
      ∀ base : Heap, K.In base → base.Ns mainGlobals mg → FnG l.prog w K mg base CX0 7 fa fd ["_law_script"] (spLaw K) := by
  have e := hfa.symm.trans (PySem.W.mg_of X G FW.ns)
  cases e
  have N : ∀ {x : Str}, PySem.W.nsIn K mainGlobals x = some none → mg x = none := fun z => PySem.W.mg_none_of X G z
  have Bwh : Has K mg "is_whole" ["thing"] sWhole _ _ := ⟨Fwh.fn, Fwh.fn.binds fun _ _ _ _ _ _ us hl => match us, hl with | [_], _ => rfl, PySem.W.mg_of X G Fwh.ns⟩
  have Bfr : Has K mg "is_from" ["thing", "least"] sFrom _ _ := ⟨Ffr.fn, Ffr.fn.binds fun _ _ _ _ _ _ us hl => match us, hl with | [_, _], _ => rfl, PySem.W.mg_of X G Ffr.ns⟩
  have Bce : Has K mg "_law_cell" ["_law_script", "_law_k"] sCell _ _ := ⟨Fce.fn, Fce.fn.binds fun _ _ _ _ _ _ us hl => match us, hl with | [_, _], _ => rfl, PySem.W.mg_of X G Fce.ns⟩
  have Bpo : Has K mg "_law_pot" ["_law_script", "_law_k"] sPot _ _ := ⟨Fpo.fn, Fpo.fn.binds fun _ _ _ _ _ _ us hl => match us, hl with | [_, _], _ => rfl, PySem.W.mg_of X G Fpo.ns⟩
  have Bta : Has K mg "_law_take" ["_law_pot_here", "_law_room"] sTake _ _ := ⟨Fta.fn, Fta.fn.binds fun _ _ _ _ _ _ us hl => match us, hl with | [_, _], _ => rfl, PySem.W.mg_of X G Fta.ns⟩
  have Bnu : Has K mg "_law_number" ["_law_pot_here", "_law_most"] sNumber _ _ := ⟨Fnu.fn, Fnu.fn.binds fun _ _ _ _ _ _ us hl => match us, hl with | [_, _], _ => rfl, PySem.W.mg_of X G Fnu.ns⟩
  have Bod : Has K mg "_law_odd" ["_law_pot_here"] sOdd _ _ := ⟨Fod.fn, Fod.fn.binds fun _ _ _ _ _ _ us hl => match us, hl with | [_], _ => rfl, PySem.W.mg_of X G Fod.ns⟩
  have Bwr : Has K mg "_law_wrong" ["_law_three"] sWrong _ _ := ⟨Fwr.fn, Fwr.fn.binds fun _ _ _ _ _ _ us hl => match us, hl with | [_], _ => rfl, PySem.W.mg_of X G Fwr.ns⟩
  have Bfi : Has K mg "_law_field" ["_law_e"] sField _ _ := ⟨Ffi.fn, Ffi.fn.binds fun _ _ _ _ _ _ us hl => match us, hl with | [_], _ => rfl, PySem.W.mg_of X G Ffi.ns⟩
  have Bma : Has K mg "_law_made" ["_law_three", "_law_way"] sMade _ _ := ⟨Fma.fn, Fma.fn.binds fun _ _ _ _ _ _ us hl => match us, hl with | [_, _], _ => rfl, PySem.W.mg_of X G Fma.ns⟩
  have Bme : Has K mg "_law_met" ["_law_three", "_law_way"] sMet _ _ := ⟨Fme.fn, Fme.fn.binds fun _ _ _ _ _ _ us hl => match us, hl with | [_, _], _ => rfl, PySem.W.mg_of X G Fme.ns⟩
  have bI : L2.Binds K _ ["self", "seats", "carries", "man"] [] := FI.fn.binds fun _ _ _ _ _ _ us hl => match us, hl with | [_, _, _, _], _ => rfl
  have bse : L2.Binds K _ ["self"] [] := Fse.fn.binds fun _ _ _ _ _ _ us hl => match us, hl with | [_], _ => rfl
  have bca : L2.Binds K _ ["self"] [] := Fca.fn.binds fun _ _ _ _ _ _ us hl => match us, hl with | [_], _ => rfl
  have bmn : L2.Binds K _ ["self"] [] := Fmn.fn.binds fun _ _ _ _ _ _ us hl => match us, hl with | [_], _ => rfl
  have SN : SupC K l.prog mg CN ccN (nfI sErrI "NoBoat.__init__" ccN cdN) (arI sErrI) := ⟨⟨⟨nmN, qnN, NN, bsN, bmN, snN, subN, abN, colN, ddN, k0N, k1N, k2N, k3N, k5N, EN.lk, EN.rv⟩, EN.sa, EN.exC, EN.tyC, EN.kC⟩, rfl, ⟨_, _, _, EN.cell⟩, ⟨_, _, _, _, _, _, EN.code, EN.v2, EN.file⟩, EN.hsub, EN.sup, EN.sB, EN.op, rfl, EN.cd, rfl, pT, N z_super⟩
  have T : Tx mg := ⟨N z_isinstance, N z_int, N z_bool, N z_len, N z_abs, N z_max, N z_min, N z_divmod, N z_range, N z_repr, N z_zip, N z_ValueError⟩
  have Z : Ct K mg C := ⟨⟨D.pg, D.hd, D.po, D.sa⟩, D.f1, D.f2, D.f3, PySem.W.mg_of X G D.n_C, D.kC⟩
  have R : Er K mg CN CW CL CB c1 c2 c3 c4 c5 c6 c7 := ⟨PySem.W.mg_of X G D.n_NoBoat, PySem.W.mg_of X G D.n_Wrong, PySem.W.mg_of X G D.n_LightsError, PySem.W.mg_of X G D.n_Barred, PySem.W.mg_of X G D.n_NoDay, PySem.W.mg_of X G D.n_NoLight, PySem.W.mg_of X G D.n_NoName, PySem.W.mg_of X G D.n_NoNumber, PySem.W.mg_of X G D.n_NoRound, PySem.W.mg_of X G D.n_NoService, PySem.W.mg_of X G D.n_NoStores, ⟨D.eg, D.ek, EN.exC, D.ed, D.ea, D.cn, D.ct, D.em⟩, ⟨D.eg, D.ek, EN.exC, D.ed⟩, EN.hno, kitAny_cons (kit_no D.iCB D.tCB D.sCB D.qCB) (fun _ => kitAny_cons (kit_no D.ic1 D.tc1 D.sc1 D.qc1) (fun _ => kitAny_cons (kit_no D.ic2 D.tc2 D.sc2 D.qc2) (fun _ => kitAny_cons (kit_no D.ic3 D.tc3 D.sc3 D.qc3) (fun _ => kitAny_cons (kit_no D.ic4 D.tc4 D.sc4 D.qc4) (fun _ => kitAny_cons (kit_no D.ic5 D.tc5 D.sc5 D.qc5) (fun _ => kitAny_cons (kit_no D.ic6 D.tc6 D.sc6 D.qc6) (fun _ => kitAny_cons (kit_no D.ic7 D.tc7 D.sc7 D.qc7) (fun _ => rfl) nofun) nofun) nofun) nofun) nofun) nofun) nofun) nofun, kit_self, kit_yes D.iW D.tW D.sW, kit_yes D.iL D.tL D.sL, kit_ve EN.sB, exm_yes D.bL D.iL D.tL D.sL⟩
  have S : Fs K l.prog mg C CN := ⟨⟨_, _, Bfr⟩, ⟨_, _, Bwh⟩, ⟨_, _, _, _, ⟨SN, ⟨_, _, _, _, _, _, _, _, _, rfl, EN.fn⟩, EN.hno, EN.ini, EN.tI, .all (fun us hl => match us, hl with | [_, _], _ => rfl), PySem.W.mg_of X G D.n_NoBoat⟩⟩, ⟨_, _, ⟨D.mks, FI.at_, FI.isf, D.kC⟩, FI.fn, bI⟩, ⟨_, _, Fse.fn, bse, Fse.me⟩, ⟨_, _, Fca.fn, bca, Fca.me⟩, ⟨_, _, Fmn.fn, bmn, Fmn.me⟩, ⟨_, _, Bce⟩, ⟨_, _, Bpo⟩, ⟨_, _, Bta⟩, ⟨_, _, Bnu⟩, ⟨_, _, Bod⟩, ⟨_, _, Bwr⟩, ⟨_, _, Bfi⟩, ⟨_, _, Bma⟩, ⟨_, _, Bme⟩⟩
  exact ⟨_, fun s v => .of_eq rfl, fun base _ _ => ok_law FW.fn T Z R S⟩
end K31
open PySem PySem.W PyProof.Rows
set_option maxHeartbeats 0 in
theorem PySem.Challenge.cw_lightturns_k31_boats_made_holds : PySem.Challenge.rw_lightturns_k31_boats_made.Holds := by
  w_on; o_law; k_head; (case hw => w_witness2)
  k_fill
  refine LT.end_of (l := PySem.Challenge.rw_lightturns_k31_boats_made) (n := 63) (k := 7) (x := "_law_script") (CX := fun _ => L2.CX0) (sp := fun w => K31.spLaw _) rfl (by decide) rfl ⟨rfl, by decide, by decide⟩ (fun w h Y => PySem.W.kIn_of Y) ?F (fun _ _ a ns hl hb _ hS => ⟨a, ns, rfl, hS, hl, fun _ => rfl⟩) (fun _ _ _ _ _ h => h)
  case F =>
    intro w mg fa h KX G hmg
    refine' K31.all_mk (l := PySem.Challenge.rw_lightturns_k31_boats_made) KX G hmg ⟨?d_n_C, ?d_n_NoBoat, ?d_n_Wrong, ?d_n_LightsError, ?d_n_Barred, ?d_n_NoDay, ?d_n_NoLight, ?d_n_NoName, ?d_n_NoNumber, ?d_n_NoRound, ?d_n_NoService, ?d_n_NoStores, ?d_pg, ?d_hd, ?d_po, ?d_sa, ?d_f1, ?d_f2, ?d_f3, ?d_kC, ?d_mks, ?d_cn, ?d_ct, ?d_eg, ?d_ek, ?d_ed, ?d_ea, ?d_em, ?d_iW, ?d_tW, ?d_sW, ?d_iL, ?d_tL, ?d_sL, ?d_bL, ?d_iCB, ?d_tCB, ?d_sCB, ?d_qCB, ?d_ic1, ?d_tc1, ?d_sc1, ?d_qc1, ?d_ic2, ?d_tc2, ?d_sc2, ?d_qc2, ?d_ic3, ?d_tc3, ?d_sc3, ?d_qc3, ?d_ic4, ?d_tc4, ?d_sc4, ?d_qc4, ?d_ic5, ?d_tc5, ?d_sc5, ?d_qc5, ?d_ic6, ?d_tc6, ?d_sc6, ?d_qc6, ?d_ic7, ?d_tc7, ?d_sc7, ?d_qc7⟩ ⟨?e_N_lk, ?e_N_rv, ?e_N_sa, ?e_N_exC, ?e_N_tyC, ?e_N_kC, ?e_N_cell, ?e_N_code, ?e_N_v2, ?e_N_file, ?e_N_hsub, ?e_N_sup, ?e_N_sB, ?e_N_op, ?e_N_cd, ?e_N_fn, ?e_N_hno, ?e_N_ini, ?e_N_tI⟩ ⟨?m_I_at, ?m_I_lk, ?m_I_cd, ?m_I_kp, ?m_I_isf⟩ ⟨?m_se_at, ?m_se_lk, ?m_se_cd, ?m_se_kp, ?m_se_isf⟩ ⟨?m_ca_at, ?m_ca_lk, ?m_ca_cd, ?m_ca_kp, ?m_ca_isf⟩ ⟨?m_mn_at, ?m_mn_lk, ?m_mn_cd, ?m_mn_kp, ?m_mn_isf⟩ ⟨?f_wh_ns, ?f_wh_lk, ?f_wh_cd, ?f_wh_kp⟩ ⟨?f_fr_ns, ?f_fr_lk, ?f_fr_cd, ?f_fr_kp⟩ ⟨?f_ce_ns, ?f_ce_lk, ?f_ce_cd, ?f_ce_kp⟩ ⟨?f_po_ns, ?f_po_lk, ?f_po_cd, ?f_po_kp⟩ ⟨?f_ta_ns, ?f_ta_lk, ?f_ta_cd, ?f_ta_kp⟩ ⟨?f_nu_ns, ?f_nu_lk, ?f_nu_cd, ?f_nu_kp⟩ ⟨?f_od_ns, ?f_od_lk, ?f_od_cd, ?f_od_kp⟩ ⟨?f_wr_ns, ?f_wr_lk, ?f_wr_cd, ?f_wr_kp⟩ ⟨?f_fi_ns, ?f_fi_lk, ?f_fi_cd, ?f_fi_kp⟩ ⟨?f_ma_ns, ?f_ma_lk, ?f_ma_cd, ?f_ma_kp⟩ ⟨?f_me_ns, ?f_me_lk, ?f_me_cd, ?f_me_kp⟩ ⟨?f_W_ns, ?f_W_lk, ?f_W_cd, ?f_W_kp⟩ ?p_T ?z_isinstance ?z_int ?z_bool ?z_len ?z_abs ?z_max ?z_min ?z_divmod ?z_range ?z_repr ?z_zip ?z_ValueError ?z_super
    (case d_n_C => k_is)
    (case d_n_NoBoat => k_is)
    (case d_n_Wrong => k_is)
    (case d_n_LightsError => k_is)
    (case d_n_Barred => k_is)
    (case d_n_NoDay => k_is)
    (case d_n_NoLight => k_is)
    (case d_n_NoName => k_is)
    (case d_n_NoNumber => k_is)
    (case d_n_NoRound => k_is)
    (case d_n_NoService => k_is)
    (case d_n_NoStores => k_is)
    (case m_I_at => k_is)
    (case m_se_at => k_is)
    (case m_ca_at => k_is)
    (case m_mn_at => k_is)
    (case f_wh_ns => k_is)
    (case f_fr_ns => k_is)
    (case f_ce_ns => k_is)
    (case f_po_ns => k_is)
    (case f_ta_ns => k_is)
    (case f_nu_ns => k_is)
    (case f_od_ns => k_is)
    (case f_wr_ns => k_is)
    (case f_fi_ns => k_is)
    (case f_ma_ns => k_is)
    (case f_me_ns => k_is)
    (case f_W_ns => k_is)
    (case e_N_lk => k_is)
    (case e_N_ini => k_is)
    (case e_N_fn => k_is)
    (case m_I_lk => k_is)
    (case m_se_lk => k_is)
    (case m_ca_lk => k_is)
    (case m_mn_lk => k_is)
    (case f_wh_lk => k_is)
    (case f_fr_lk => k_is)
    (case f_ce_lk => k_is)
    (case f_po_lk => k_is)
    (case f_ta_lk => k_is)
    (case f_nu_lk => k_is)
    (case f_od_lk => k_is)
    (case f_wr_lk => k_is)
    (case f_fi_lk => k_is)
    (case f_ma_lk => k_is)
    (case f_me_lk => k_is)
    (case f_W_lk => k_is)
    (case e_N_cell => k_is)
    (case e_N_code => k_is)
    (case e_N_v2 => rfl)
    (case e_N_rv => kernel_rfl)
    (case e_N_sa => k_is)
    (case e_N_exC => k_is)
    (case e_N_tyC => k_is)
    (case e_N_kC => k_is)
    (case e_N_file => decide +kernel)
    (case e_N_hsub => k_is)
    (case e_N_sup => ks_is)
    (case e_N_sB => k_is)
    (case e_N_op => k_is)
    (case e_N_cd => k_is)
    (case e_N_hno => k_is)
    (case e_N_tI => k_is)
    (case d_pg => k_is)
    (case d_hd => k_is)
    (case d_po => k_is)
    (case d_sa => k_is)
    (case d_f1 => k_is)
    (case d_f2 => k_is)
    (case d_f3 => k_is)
    (case d_kC => k_is)
    (case d_mks => k_is)
    (case d_cn => k_is)
    (case d_ct => k_is)
    (case d_eg => k_is)
    (case d_ek => k_is)
    (case d_ed => k_is)
    (case d_ea => k_is)
    (case d_em => k_is)
    (case d_iW => k_is)
    (case d_tW => k_is)
    (case d_sW => k_is)
    (case d_iL => k_is)
    (case d_tL => k_is)
    (case d_sL => k_is)
    (case d_bL => k_is)
    (case d_iCB => k_is)
    (case d_tCB => k_is)
    (case d_sCB => k_is)
    (case d_qCB => rfl)
    (case d_ic1 => k_is)
    (case d_tc1 => k_is)
    (case d_sc1 => k_is)
    (case d_qc1 => rfl)
    (case d_ic2 => k_is)
    (case d_tc2 => k_is)
    (case d_sc2 => k_is)
    (case d_qc2 => rfl)
    (case d_ic3 => k_is)
    (case d_tc3 => k_is)
    (case d_sc3 => k_is)
    (case d_qc3 => rfl)
    (case d_ic4 => k_is)
    (case d_tc4 => k_is)
    (case d_sc4 => k_is)
    (case d_qc4 => rfl)
    (case d_ic5 => k_is)
    (case d_tc5 => k_is)
    (case d_sc5 => k_is)
    (case d_qc5 => rfl)
    (case d_ic6 => k_is)
    (case d_tc6 => k_is)
    (case d_sc6 => k_is)
    (case d_qc6 => rfl)
    (case d_ic7 => k_is)
    (case d_tc7 => k_is)
    (case d_sc7 => k_is)
    (case d_qc7 => rfl)
    (case m_I_cd => k_is)
    (case m_I_kp => k_is)
    (case m_I_isf => k_is)
    (case m_se_cd => k_is)
    (case m_se_kp => k_is)
    (case m_se_isf => k_is)
    (case m_ca_cd => k_is)
    (case m_ca_kp => k_is)
    (case m_ca_isf => k_is)
    (case m_mn_cd => k_is)
    (case m_mn_kp => k_is)
    (case m_mn_isf => k_is)
    (case f_wh_cd => k_is)
    (case f_wh_kp => k_is)
    (case f_fr_cd => k_is)
    (case f_fr_kp => k_is)
    (case f_ce_cd => k_is)
    (case f_ce_kp => k_is)
    (case f_po_cd => k_is)
    (case f_po_kp => k_is)
    (case f_ta_cd => k_is)
    (case f_ta_kp => k_is)
    (case f_nu_cd => k_is)
    (case f_nu_kp => k_is)
    (case f_od_cd => k_is)
    (case f_od_kp => k_is)
    (case f_wr_cd => k_is)
    (case f_wr_kp => k_is)
    (case f_fi_cd => k_is)
    (case f_fi_kp => k_is)
    (case f_ma_cd => k_is)
    (case f_ma_kp => k_is)
    (case f_me_cd => k_is)
    (case f_me_kp => k_is)
    (case f_W_cd => k_is)
    (case f_W_kp => k_is)
    (case p_T => decide +kernel)
    (case z_isinstance => k_is)
    (case z_int => k_is)
    (case z_bool => k_is)
    (case z_len => k_is)
    (case z_abs => k_is)
    (case z_max => k_is)
    (case z_min => k_is)
    (case z_divmod => k_is)
    (case z_range => k_is)
    (case z_repr => k_is)
    (case z_zip => k_is)
    (case z_ValueError => k_is)
    (case z_super => k_is)

