import PyProof.Rows.All
import Wide.All
import OpenK.AllK
import Wide.FinOn
import HandS.ForMost
import HandS.IsInst
import HandS.Wide
import HandS.WideBits
import HandS.EndBits
import HandS.Style
import HandS.RaiseMore
import PyProof.ReprRoads
import PyProof.ListStr
import HandS.ForExc
import HandS.Exc
import HandS.ExcIs
import HandS.CallSlots
import HandS.HotCalls
import HandS.Defaults
import HandS.MakeKw
import HandS.MakeKwOnly
import HandS.Nested
import HandS.ExcInit
import KE.KExcSuper
import HandS.ExcField
import HandS.FStr
import HandS.Words
import KE.KExcIs
import HandS.Walk
import HandS.Flow
import HandS.Zip
import HandS.Sort
import HandS.More
import HandS.Finally
import HandS.DictComp
import PySem.Challenge.RW_lightturns_k32_goings_barred
set_option Elab.async false
set_option linter.all false
set_option maxRecDepth 100000
/-! Own layer: defs called where no repr is under way (FnG), repr of data, the end of a law by such a def. -/
namespace LT
open PySem PySem.Spec PyProof.Rows L2

structure FnG (P : Program) (w : World) (K : PySem.W.Frag) (mg : Str → Option Value) (base : Heap)
    (CX : CXT) (k : Nat) (f : Addr) (fd : FuncData) (ps : List Str) (sp : Sp) : Prop where
  argc : ∀ {vs : List V} {H : Hp} {Q : VK} {E : XK}, sp vs H Q E → vs.length = ps.length
  go : ∀ {A : Around} {outer : List Env} {s : Shared} {H : Hp} {args : Args} {us : List Value} {vs : List V}
    {Q : VK} {E : XK}, A.guards = some [] → Room k A → Env0 P w K mg base A outer s H →
    BindsTo s fd args (ps.zip us) → Vals vs us → sp vs H Q E →
    codeAny (model P w) A (.call (.ref f) args) (CR CX outer P w H s Q E) s

section
variable {P : Program} {w : World} {K : PySem.W.Frag} {mg : Str → Option Value} {base : Heap}
theorem FnG.of {CX : CXT} {k : Nat} {f : Addr} {fd : FuncData} {ps : List Str} {sp : Sp}
    (F : FnOk P w K mg base CX k f fd ps sp) : FnG P w K mg base CX k f fd ps sp :=
  ⟨fun h => F.len _ _ _ _ h, fun _ hr e b v h => F.run _ _ _ _ _ _ _ _ _ hr e b v h⟩

theorem okG {x qual : Str} {st : Stmt} {f : Addr} {fd : FuncData} {N ps : List Str} {k : Nat} {sp : Sp}
    (F : Fun K x qual st f fd) (S : FnScope N ps (defScope st))
    (argc : ∀ {vs : List V} {H : Hp} {Q : VK} {E : XK}, sp vs H Q E → vs.length = ps.length)
    (body : ∀ (cdv : Value) (A : Around) (outer : List Env) (s : Shared) (H : Hp) (vs : List V) (Q : VK) (E : XK),
      A.guards = some [] → Room k (A.deeper (envOfC qual (defScope st) s.heap.objs.size f cdv)) → sp vs H Q E →
      ∃ t, PSs (cxOf CX0 P w K mg base N qual (defScope st) f cdv A outer s H E).nox (defBody st) t ∧
        t { nx := fun _ H' => Q .non H', rt := Q } (start N vs) H) :
    FnG P w K mg base CX0 (k + 1) f fd ps sp := by
  obtain ⟨oc, od, kV, doc, pm, an, cdv, ct, osl, rfl, lk, hcd⟩ := F.ex
  refine ⟨argc, ?_⟩
  intro A outer s H args us vs Q E hg hr e0 hb r hsp
  have inS : ∀ b o, base.get? b = some o → s.heap.get? b = some o := fun b o e => (e0.bs b o e).1
  have KX : K.In s.heap := e0.mod.kin.keeps inS
  have hkind : ∀ y ∈ ps.zip us, (defScope st).names.lookup y.1 = some .local ∨
      ((defScope st).names.lookup y.1 = some .cell ∧
        ((cellsFrom (s.heap.objs.size + 1) (defScope st).names []).lookup y.1).isSome = true) := by
    rintro ⟨n, v⟩ hy
    rcases S.par n (List.of_mem_zip hy).1 with q | q
    · exact Or.inl q
    · exact Or.inr ⟨q, PySem.W.cellsFrom_some _ _ _ (Or.inl q)⟩
  refine codeAny_call_function hr.depth (KX _ _ lk) rfl S.co S.gen rfl (PySem.W.codeRec_of KX hcd)
    (hb _ _ _ _ (wpAny_newFunctionEnv_cells S.kind hkind fun env he s1 x => ?_))
  subst he
  refine ⟨(e0.mod.nolimit.keeps inS).keeps x.toInCall.keep, codeAny_func ?_⟩
  obtain ⟨t, ht, hq⟩ := body cdv A outer s H vs Q E hg (hr.deeper _) hsp
  have I := inv_start (CX := CX0) (N := N) (qual := qual) (f := f) (cd := cdv) (E := E) S hr.hd e0 (argc hsp) r x
  refine wpAny_mono (ht.nox.run [] s1 (start N vs) H _ I hq) (fun fl s' hs => ?_) (fun e s' hs => hs)
  cases fl with
  | brk => obtain ⟨_, _, _, q⟩ := hs; exact q.elim
  | cont => obtain ⟨_, _, _, q⟩ := hs; exact q.elim
  | next =>
    obtain ⟨σ', H', J, q⟩ := hs
    exact ⟨V.non, H', J.os, J.bare, J.base, J.hok, rfl, q⟩
  | ret u =>
    obtain ⟨v, σ', H', J, rv, q⟩ := hs
    exact ⟨v, H', J.os, J.bare, J.base, J.hok, rv, q⟩
end

/-! ### the call of such a def -/
section
variable {X : Cx} {CX : CXT} {k : Nat} {f : Addr} {fd : FuncData} {ps : List Str} {sp : Sp} {dvs : List V}
  {ds : List Value} {E : XK} {x : Str} {p pos : Pos} {e : Expr} {es : List Expr} {t : TA}
theorem runG {pins : List (Addr × Obj)} {σ : L2.St} {H : Hp} {s : Shared} {Q : VK} {us : List Value} {vs : List V}
    (F : FnG X.prog X.w X.K X.mg X.base CX k f fd ps sp) (hg : X.A.guards = some []) (hr : Room k X.A)
    (hb : Binds X.K fd ps ds) (hd : Vals dvs ds) (hx : Passes CX X E)
    (I : Inv X pins σ H s) (r : Vals vs us) (h : sp (vs ++ dvs) H Q E) :
    wpAny (model X.prog X.w) X.A (call (.ref f) us) (EP X pins σ Q) X.xe s := by
  have r2 : Vals (vs ++ dvs) (us ++ ds) := r.append hd
  have hl : (us ++ ds).length = ps.length := r2.length.symm.trans (F.argc h)
  refine wpAny_call (codeAny_mono (F.go hg hr I.env0 (hb s us I.kIn hl) r2 h) fun r s' hq => ?_)
  match r, hq with
  | .error e, hq => exact hx pins σ H s e s' I hq
  | .ok (.ret u), hq => exact I.after hq
  | .ok .next, hq => exact hq.elim
  | .ok .brk, hq => exact hq.elim
  | .ok .cont, hq => exact hq.elim
theorem pe_callG (F : FnG X.prog X.w X.K X.mg X.base CX k f fd ps sp) (hG : X.A.guards = some []) (hr : Room k X.A)
    (hg : Gl X x) (hm : X.mg x = some (.ref f)) (hk : PySem.W.keepIn X.K (.ref f) = true) (hb : Binds X.K fd ps ds)
    (hd : Vals dvs ds) (hx : Passes CX X E) (ha : PA X (e :: es) t)
    (hdb : (x == ("__debug__" : Str)) = false := by decide)
    (he : starEach (e :: es) X.env = (false, eval e X.env) :: starEach es X.env := by rfl)
    (hpl : (backTo pos (starEach es X.env)).any (·.1) = false := by rfl) :
    PE X (.Call (.Name x p) (e :: es) [] pos) (tCall sp dvs E t) := by
  refine ⟨fun pins s σ H Q I h => wpAny_Call_Name_kw (ld_glob I hg hm ?_ hdb)⟩
  refine PySem.W.callWith_K (h₀ := X.base) I.ok.mod.kin hk ?_ he hpl
  exact thn (ha.run pos pins s σ H _ I h) fun us s1 ⟨vs, H1, I1, r, q⟩ => ⟨I1.kIn, runG F hG hr hb hd hx I1 r q⟩

/-- f(k = v, ..), keywords alone -/
theorem pe_callKw {ks : List Str} {kws : List Keyword} {tk : TA} {g : List Value → List Value → List Value} {gV : List V → List V → List V}
    (F : FnOk X.prog X.w X.K X.mg X.base CX k f fd ps sp) (hr : Room k X.A) (hg : Gl X x) (hm : X.mg x = some (.ref f))
    (hk : PySem.W.keepIn X.K (.ref f) = true) (hb : KBinds X.K fd ps ks g gV) (hx : Passes CX X E) (hkw : PK X kws tk)
    (hall : (backToKw pos (keywordEach kws X.env)).all (·.1.isSome) = true := by rfl)
    (hks : (backToKw pos (keywordEach kws X.env)).filterMap (·.1) = ks := by rfl)
    (hdb : (x == ("__debug__" : Str)) = false := by decide)
    (hpl : ((backTo pos (starEach [] X.env)).any (·.1) || (backToKw pos (keywordEach kws X.env)).any (·.1.isNone)) = false := by rfl) :
    PE X (.Call (.Name x p) [] kws pos) (tCallK sp gV E tNil tk) := by
  refine ⟨fun pins s σ H Q I h => wpAny_Call_Name_kw (ld_glob I hg hm ?_ hdb)⟩
  refine PySem.W.callWith_KW0 (h₀ := X.base) I.ok.mod.kin hk hall ?_ hpl
  refine thn (hkw.run pos pins s σ H _ I h) fun ws s2 ⟨zs, H2, I2, rz, q2⟩ => ⟨I2.kIn, ?_⟩
  rw [hks]
  exact run_fnk (us := []) F hr hb hx I2 .nil rz q2
/-- positional values, then those of keywords, in the order of the parameters -/
theorem kb_of {K : PySem.W.Frag} {y qual : Str} {st : Stmt} {f : Addr} {fd : FuncData} {ps ks : List Str} (F : Fun K y qual st f fd)
    (h : ∀ (kV doc pm : Value) (an : Option Addr) (cdv ct : Value) (us ws : List Value), (us ++ ws).length = ps.length →
      bindArgs (PySem.W.fnOf y qual (defArgs st) (defBody st) (defScope st) .none kV doc pm an cdv ct) ⟨us, ks.zip ws⟩ = pure (ps.zip (us ++ ws))) :
    KBinds K fd ps ks (· ++ ·) (· ++ ·) := by
  obtain ⟨oc, od, kV, doc, pm, an, cdv, ct, osl, rfl, lk, hcd⟩ := F.ex
  exact ⟨fun s us ws _ hl => .of_eq (h kV doc pm an cdv ct us ws hl), fun r z => r.append z⟩
end

/-! ### repr of data -/
inductive Sh (K : PySem.W.Frag) (H : Hp) : V → PyData → Prop
  | dp {v : V} {d : PyData} : Dp K H v d → d.hasDict = false → Sh K H v d
  | one {a : Addr} {k : Str} {i : Int} : H a = some (.dK [(.inr k, .int i)]) → Sh K H (.ref a) (.dict [(.str k, .int i)])
section
variable {X : Cx} {pins : List (Addr × Obj)} {σ : L2.St} {H : Hp} {s : Shared}
theorem Sh.reads (I : Inv X pins σ H s) {v : V} {d : PyData} {u : Value} (h : Sh X.K H v d) (r : RelV v u) :
    ∃ as, Reads s.heap u d as ∧ (d.hasDict = true → sysModules ∉ as) := by
  cases h with
  | dp h hd =>
    obtain ⟨as, q⟩ := Dp.reads I d v u h r
    exact ⟨as, q, PyData.noDict_hsm hd⟩
  | one h =>
    rename_i a k i
    cases r
    obtain ⟨_, hs, vs, rel, o, es, ep, ho, hx, hd, hko, hp, hn⟩ := I.hok a _ h
    cases rel with
    | cons r1 r2 =>
      cases r2
      rename_i kv
      obtain ⟨kk, uu⟩ := kv
      obtain ⟨e1, t, e2⟩ := r1
      cases e1
      cases e2
      generalize hes : es.toList = l at hp
      cases hp with
      | cons k1 k2 k3 =>
        cases k3
        rename_i e
        have k0 : keyIs (Sum.inr k) e.key = true := k1
        obtain ⟨_, _, z, _⟩ | ⟨y, t', z, e3⟩ := keyIs_shape k0
        · cases z
        · cases z
          refine ⟨_, Reads.dict (as := []) (bs := []) ho hx.1 hd ?_ ?_, fun _ z => ?_⟩
          · rw [hes, List.map_cons, List.map_nil, e3]
            exact ReadsAll.cons (Reads.str _ _) .nil
          · rw [hes, List.map_cons, List.map_nil, k2]
            exact ReadsAll.cons (Reads.int _ _) .nil
          · have z2 : sysModules = a := by simpa using z
            rw [z2] at hs
            simp at hs
theorem call_reprSh (hG : X.A.guards = some []) (hu : X.A.units + 64 < cLine) : CallR X (.builtin "repr")
    (fun xs H Q => ∃ x d, xs = [x] ∧ Sh X.K H x d ∧ d.showable = true ∧ d.depth ≤ 60 ∧ d.shown.length ≤ sizeLine ∧
      Q (.str d.shown) H) := by
  intro pins s σ H xs us Q I r h
  obtain ⟨x, d, rfl, hs, sh, dp, sz, q⟩ := h
  obtain ⟨u, rfl, ru⟩ := vals1 r
  obtain ⟨as, rd, hm⟩ := hs.reads I ru
  cases rd with
  | none => exact PySem.P.repr_of_none ⟨.str _, H, I.tok _, ⟨_, rfl⟩, q⟩
  | bool b => exact PySem.P.repr_of_bool ⟨.str _, H, I.tok _, ⟨_, rfl⟩, q⟩
  | int i t => exact PySem.P.repr_of_int (of_decide_eq_true sh) ⟨.str _, H, I.tok _, ⟨_, rfl⟩, q⟩
  | str y t => exact PySem.P.repr_of_str ⟨.str _, H, I.tok _, ⟨_, rfl⟩, q⟩ sz
  | list h1 h2 h3 h4 =>
    exact repr_of_reads' (.list h1 h2 h3 h4) sh hm hG (by omega) (fun _ _ e => e) (fun h' u tk hk => ⟨.str _, H, I.kept hk, ⟨_, rfl⟩, q⟩) sz
  | tuple h1 h2 h3 h4 =>
    exact repr_of_reads' (.tuple h1 h2 h3 h4) sh hm hG (by omega) (fun _ _ e => e) (fun h' u tk hk => ⟨.str _, H, I.kept hk, ⟨_, rfl⟩, q⟩) sz
  | dict h1 h2 h3 h4 h5 =>
    exact repr_of_reads' (.dict h1 h2 h3 h4 h5) sh hm hG (by omega) (fun _ _ e => e) (fun h' u tk hk => ⟨.str _, H, I.kept hk, ⟨_, rfl⟩, q⟩) sz
end

/-! ### text * number, list(text) -/
section
variable {X : Cx}
theorem rep_list (a : Array Nat) : ∀ (n : Nat) (acc : Array Nat),
    ((List.replicate n a).foldl (· ++ ·) acc).toList = acc.toList ++ (List.replicate n a.toList).flatten
  | 0, acc => by simp
  | n + 1, acc => by
    rw [List.replicate_succ, List.foldl_cons, rep_list a n, List.replicate_succ, List.flatten_cons, Array.toList_append, List.append_assoc]
theorem rep_len (a : Str) (n : Nat) : (Str.mk ((List.replicate n a.cps).foldl (· ++ ·) #[])).length = n * a.length := by
  show Array.size _ = n * a.cps.size
  rw [← Array.length_toList, rep_list]
  simp [List.sum_replicate_nat]
theorem op_mul_str : OpR X (binaryOp .Mult) (fun x y H Q => ∃ (a : Str) (n : Int), x = .str a ∧ y = .int n ∧ 2 ≤ n ∧ n ≤ 1000 ∧ 1 ≤ a.length ∧ a.length ≤ 1000 ∧
    Q (.str ⟨(List.replicate n.toNat a.cps).foldl (· ++ ·) #[]⟩) H) := by
  intro pins s σ H x y v u Q I rx ry h
  obtain ⟨a, n, rfl, rfl, h2, hn, h1, ha, q⟩ := h
  obtain ⟨t, rfl⟩ := rx
  obtain ⟨t', rfl⟩ := ry
  have hz : a.length * n.toNat ≤ 1000000 := Nat.le_trans (Nat.mul_le_mul ha (show n.toNat ≤ 1000 by omega)) (by decide)
  refine PySem.P.mul_str ?_ (fun _ _ => ?_) (fun _ _ => ?_) ?_
  · rw [decide_eq_false (by omega), decide_eq_false (by omega)]
    rfl
  · have h3 : (1000 : Int) ≤ (2 ^ 63 - 1) / n := by
      rw [Int.le_ediv_iff_mul_le (by omega)]
      omega
    omega
  · exact decide_eq_false (by rw [sizeLine_eq]; omega)
  · rw [if_neg (by omega), if_neg]
    · refine ⟨?_, .str _, H, I.tok _, ⟨_, rfl⟩, q⟩
      rw [rep_len, sizeLine_eq, Nat.mul_comm]
      omega
    · rw [Bool.or_eq_true, beq_iff_eq, beq_iff_eq]
      omega
theorem paired_of {α β : Type} {R : α → β → Prop} : ∀ {xs : List α} {ys : List β}, xs.length = ys.length →
    (∀ (j : Nat) x y, xs[j]? = some x → ys[j]? = some y → R x y) → Paired R xs ys
  | [], [], _, _ => .nil
  | [], _ :: _, h, _ => by cases h
  | _ :: _, [], h, _ => by cases h
  | x :: xs, y :: ys, h, f => .cons (f 0 x y rfl rfl) (paired_of (Nat.succ.inj h) fun j a b h1 h2 => f (j + 1) a b h1 h2)
theorem call_list_txt (hc : X.calm = true) : CallR X (.type "list") (fun xs H Q => ∃ (a : Str), xs = [.str a] ∧ a.length ≤ sizeLine ∧
    ∀ l, H l = none → Q (.ref l) (upd H l (.lst (a.cps.toList.map fun c => V.str ⟨#[c]⟩)))) := by
  intro pins s σ H xs us Q I r h
  obtain ⟨a, rfl, hl, q⟩ := h
  obtain ⟨u, rfl, t, rfl⟩ := vals1 r
  refine call_list_str (I.ok.hd hc) a t (hn := hl) fun h' tk acc c hk ho hit => ?_
  have hn : H s.heap.objs.size = none := I.hok.fresh (Nat.le_refl _)
  refine ⟨.ref s.heap.objs.size, _, I.laid (t' := tk) hk (Nat.le_refl _) ?_, rfl, q _ hn⟩
  refine ⟨?_, acc.toList, c, ?_, by simpa using ho⟩
  · rw [List.length_map, Array.length_toList]
    exact hl
  · refine paired_of (by rw [List.length_map, Array.length_toList, Array.length_toList, hit.1]) fun j v u h1 h2 => ?_
    rw [List.getElem?_map, Array.getElem?_toList] at h1
    obtain ⟨d, t', h3, rfl⟩ := hit.2 j u (by rw [← Array.getElem?_toList]; exact h2)
    rw [h3] at h1
    cases h1
    exact ⟨t', rfl⟩
end

/-! ### the end of a law whose def wants that no repr is under way -/
theorem end_call {P : Program} {w : World} {K : PySem.W.Frag} {mg mb : Str → Option Value} {CX : CXT} {k : Nat} {fa a : Addr}
    {fd : FuncData} {x : Str} {sp : Sp} {s₁ : Shared} {vs : List Value} {ns : List Int}
    (KX : K.In s₁.heap) (hns : s₁.heap.Ns mainGlobals mg) (hb : s₁.heap.Ns builtinsNs mb)
    (hbb : ∀ x : Str, x ≠ "__name__" → mb x = bootBuiltins x) (hlim : s₁.heap.NoLimit) (hg : s₁.gens = #[])
    (ha : s₁.heap.get? a = some { cls := .type "list", data := .seq vs.toArray }) (hi : IntsAre vs ns)
    (hl : ns.length ≤ sizeLine) (hr : Room k callerA)
    (F : ∀ base : Heap, K.In base → base.Ns mainGlobals mg → FnG P w K mg base CX k fa fd [x] sp)
    (hbind : ∀ (s : Shared) (u : Value), BindsTo s fd ⟨[u], []⟩ [(x, u)])
    (hsp : ∀ H : Hp, Only H → SqL K H a (ns.map V.int) → sp [.ref a] H (fun v _ => v = .bl true) fun _ _ _ => False)
    (hCX : ∀ H e s', CX [] H s₁ (fun _ _ _ => False) e s' → False) :
    codeAny (model P w) callerA (.call (.ref fa) ⟨[.ref a], []⟩)
      (fun r s' => r = .ok (.ret (.bool true)) ∧ OldK s₁.heap s'.heap ∧ s'.os = s₁.os ∧ AllBare s'.gens) s₁ := by
  have lenV := hi.length
  have start : ∀ H : Hp, Only H → SqL K H a (ns.map V.int) → HOk P w H s₁.heap → (∀ b, H b ≠ none → b = a) →
      (H a ≠ none → K.lookup a = none) → codeAny (model P w) callerA (.call (.ref fa) ⟨[.ref a], []⟩)
        (fun r s' => r = .ok (.ret (.bool true)) ∧ OldK s₁.heap s'.heap ∧ s'.os = s₁.os ∧ AllBare s'.gens) s₁ := by
    intro H hO hS hok hA hK
    have free : ∀ {b : Addr}, (b = a → False) → H b = none := fun {b} hne => by
      cases q : H b with
      | none => rfl
      | some u => exact (hne (hA b (by rw [q]; exact Option.some_ne_none u))).elim
    have nsK : ∀ {b : Addr} {m : Str → Option Value}, s₁.heap.Ns b m → (hidT s₁.heap H).Ns b m := by
      rintro b m ⟨o, es, ep, e, d, r⟩
      refine ⟨o, es, ep, hidT_get e (free fun z => ?_), d, r⟩
      subst z
      rw [ha] at e
      cases e
      cases d
    have inK : K.In (hidT s₁.heap H) := fun b o e => hidT_get (KX b o e) (by
      cases q : H b with
      | none => rfl
      | some u =>
        obtain rfl : b = a := hA b (by rw [q]; exact Option.some_ne_none u)
        have z := hK (by rw [q]; exact Option.some_ne_none u)
        rw [z] at e
        cases e)
    have hM : Mod K mg (hidT s₁.heap H) := ⟨inK, nsK hns, ⟨mb, nsK hb, hbb⟩, hlim.imp fun _ z => ⟨nsK z.1, z.2⟩⟩
    have e0 : Env0 P w K mg (hidT s₁.heap H) callerA [] s₁ H :=
      ⟨rfl, hM, fun b o e => of_hidT e, Nat.le_of_eq (hidT_size _ _), trivial,
        fun b z => absurd (show b ∈ ([] : List Addr) from z) List.not_mem_nil, hok, .of_eq hg⟩
    refine codeAny_mono ((F _ inK (nsK hns)).go (us := [.ref a]) (vs := [.ref a]) rfl hr e0 (hbind s₁ (.ref a)) (.cons rfl .nil) (hsp H hO hS)) fun r s' h => ?_
    match r, h with
    | .error e, h => exact (hCX H e s' h).elim
    | .ok .next, h => exact h.elim
    | .ok .brk, h => exact h.elim
    | .ok .cont, h => exact h.elim
    | .ok (.ret u), h =>
      obtain ⟨v, H', os, bare, un, hok', r', rfl⟩ := h
      obtain rfl : u = Value.bool true := r'
      refine ⟨rfl, OldK.of_keep fun b o e => ?_, os, bare⟩
      rcases hO b with z | ⟨ob, xs, z⟩
      · exact un.keep b o e z (fun y => absurd (show b ∈ ([] : List Addr) from y) List.not_mem_nil) List.not_mem_nil
      · have z1 := (hok b _ z).1
        rw [e] at z1
        cases z1
        exact (hok' b _ (un.frzs b _ _ z)).1
  cases hk : K.lookup a with
  | some o =>
    have e := KX a o hk
    rw [ha] at e
    cases e
    refine start (fun _ => none) (fun _ => .inl rfl) (.inr ⟨_, vs.toArray, _, hk, rfl, rfl, rfl, ?_, by simpa using vals_ints hi⟩)
      (fun b u z => nomatch z) (fun b z => absurd rfl z) fun z => absurd rfl z
    rw [List.size_toArray, lenV]
    exact hl
  | none =>
    refine start (upd (fun _ => none) a (.frz { cls := .type "list", data := .seq vs.toArray } (.lst (ns.map V.int))))
      (fun b => ?_) (.inl (.inr ⟨_, upd_same⟩)) (fun b u z => ?_) (fun b z => ?_) fun _ => hk
    · by_cases q : b = a
      · exact .inr ⟨_, _, by rw [q]; exact upd_same⟩
      · exact .inl (upd_ne q)
    · by_cases q : b = a
      · subst q
        rw [upd_same] at z
        cases z
        exact ⟨ha, by rw [List.length_map]; exact hl, vs, _, vals_ints hi, ha⟩
      · rw [upd_ne q] at z
        cases z
    · by_cases q : b = a
      · exact q
      · exact absurd (upd_ne q) z

theorem end_of {l : PySem.W.OpenLaw} {n k : Nat} {q : Program} {loose : List Str} {XP : (Str → Option Value) → Heap → Prop}
    {YP : World → Heap → Prop} {d : DefRec} {K : Params → PySem.W.Frag} {CX : World → CXT} {sp : World → Sp} {x : Str}
    (hn : l.most = some n) (hn2 : n ≤ sizeLine) (hdf : d.params.defaults = []) (hr : Room k callerA)
    (hY : ∀ (w : World) (h : Heap), YP w h → (K w.params).In h)
    (F : ∀ (w : World) (mg : Str → Option Value) (fa : Addr) (h : Heap), (K w.params).In h → h.Ns mainGlobals mg →
      mg d.name = some (.ref fa) → ∃ fd : FuncData, (∀ (s : Shared) (u : Value), BindsTo s fd ⟨[u], []⟩ [(x, u)]) ∧
        ∀ base : Heap, (K w.params).In base → base.Ns mainGlobals mg →
          FnG l.prog w (K w.params) mg base (CX w) k fa fd [x] (sp w))
    (hsp : ∀ (w : World) (H : Hp) (a : Addr) (ns : List Int), ns.length ≤ n →
      (∀ z ∈ ns, Builtin.Int.intBits z ≤ 1048576) → Only H → SqL (K w.params) H a (ns.map V.int) →
      sp w [.ref a] H (fun v _ => v = .bl true) fun _ _ _ => False)
    (hCX : ∀ (w : World) (H : Hp) (s : Shared) (e : Value) (s' : Shared), CX w [] H s (fun _ _ _ => False) e s' → False) :
    PySem.W.WalkO q loose XP YP l.row.toRowW d [] (fun f vs => PySem.call f vs) :=
  Att.attach_callB hn hdf fun w _ s₁ mg mb fa o pm cd doc a vs ns G Y ho hd hcd hmg hobj hints hlen hbits hg => by
    obtain ⟨fd, hb, hF⟩ := F w mg fa _ (hY w _ Y) G.T.g hmg
    exact end_call (hY w _ Y) G.T.g G.T.b G.T.builtins G.T.nolimit hg hobj hints (Nat.le_trans hlen hn2) hr hF hb
      (fun H hO hS => hsp w H a ns hlen hbits hO hS) fun H e s' => hCX w H s₁ e s'
end LT

set_option Elab.async false
set_option linter.all false
set_option maxRecDepth 100000
/-! Own layer: a def to which the caught error is handed; isinstance of it there. -/
namespace LT
open PySem PySem.Spec PyProof.Rows L2
/-- as FnOk, called within an except suite; p is the caught error, which the promise may name -/
structure FnE (P : Program) (w : World) (K : PySem.W.Frag) (mg : Str → Option Value) (base : Heap)
    (k : Nat) (f : Addr) (fd : FuncData) (ps : List Str) (sp : Addr × Obj → Sp) : Prop where
  argc : ∀ {p : Addr × Obj} {vs : List V} {H : Hp} {Q : VK} {E : XK}, sp p vs H Q E → vs.length = ps.length
  go : ∀ {A : Around} {outer : List Env} {s : Shared} {H : Hp} {args : Args} {us : List Value} {vs : List V}
    {Q : VK} {E : XK} {p : Addr × Obj}, L2H.RoomH k A → L2H.PinOk outer H s p → Env0 P w K mg base A outer s H →
    BindsTo s fd args (ps.zip us) → Vals vs us → sp p vs H Q E →
    codeAny (model P w) A (.call (.ref f) args) (CR CX0 outer P w H s Q E) s
section
variable {P : Program} {w : World} {K : PySem.W.Frag} {mg : Str → Option Value} {base : Heap}
theorem okE {x qual : Str} {st : Stmt} {f : Addr} {fd : FuncData} {N ps : List Str} {k : Nat} {sp : Addr × Obj → Sp}
    (F : Fun K x qual st f fd) (S : FnScope N ps (defScope st))
    (argc : ∀ {p : Addr × Obj} {vs : List V} {H : Hp} {Q : VK} {E : XK}, sp p vs H Q E → vs.length = ps.length)
    (body : ∀ (cdv : Value) (A : Around) (outer : List Env) (s : Shared) (H : Hp) (vs : List V) (Q : VK) (E : XK) (p : Addr × Obj),
      L2H.RoomH k (A.deeper (envOfC qual (defScope st) s.heap.objs.size f cdv)) → sp p vs H Q E →
      ∃ t, PSs (L2H.cxH CX0 P w K mg base N qual (defScope st) f cdv A outer s H E p).nox (defBody st) t ∧
        t { nx := fun _ H' => Q .non H', rt := Q } (start N vs) H) :
    FnE P w K mg base (k + 1) f fd ps sp := by
  obtain ⟨oc, od, kV, doc, pm, an, cdv, ct, osl, rfl, lk, hcd⟩ := F.ex
  refine ⟨argc, ?_⟩
  intro A outer s H args us vs Q E p hr hpin e0 hb r hsp
  have inS : ∀ b o, base.get? b = some o → s.heap.get? b = some o := fun b o e => (e0.bs b o e).1
  have KX : K.In s.heap := e0.mod.kin.keeps inS
  have hkind : ∀ y ∈ ps.zip us, (defScope st).names.lookup y.1 = some .local ∨
      ((defScope st).names.lookup y.1 = some .cell ∧
        ((cellsFrom (s.heap.objs.size + 1) (defScope st).names []).lookup y.1).isSome = true) := by
    rintro ⟨n, v⟩ hy
    rcases S.par n (List.of_mem_zip hy).1 with q | q
    · exact Or.inl q
    · exact Or.inr ⟨q, PySem.W.cellsFrom_some _ _ _ (Or.inl q)⟩
  refine codeAny_call_function hr.depth (KX _ _ lk) rfl S.co S.gen rfl (PySem.W.codeRec_of KX hcd)
    (hb _ _ _ _ (wpAny_newFunctionEnv_cells S.kind hkind fun env he s1 x => ?_))
  subst he
  refine ⟨(e0.mod.nolimit.keeps inS).keeps x.toInCall.keep, codeAny_func ?_⟩
  obtain ⟨t, ht, hq⟩ := body cdv A outer s H vs Q E p (hr.deeper _) hsp
  have I := L2H.inv_startH (CX := CX0) (N := N) (qual := qual) (f := f) (cd := cdv) (E := E) S hpin e0 (argc hsp) r x
  refine wpAny_mono (ht.nox.run [] s1 (start N vs) H _ I hq) (fun fl s' hs => ?_) (fun e s' hs => hs)
  cases fl with
  | brk => obtain ⟨_, _, _, q⟩ := hs; exact q.elim
  | cont => obtain ⟨_, _, _, q⟩ := hs; exact q.elim
  | next =>
    obtain ⟨σ', H', J, q⟩ := hs
    exact ⟨V.non, H', J.os, J.bare, J.base, J.hok, rfl, q⟩
  | ret u =>
    obtain ⟨v, σ', H', J, rv, q⟩ := hs
    exact ⟨v, H', J.os, J.bare, J.base, J.hok, rv, q⟩
end
section
variable {X : Cx} {k : Nat} {f : Addr} {fd : FuncData} {ps : List Str} {sp : Addr × Obj → Sp} {x : Str} {q pos : Pos} {e : Expr}
  {es : List Expr} {t : TA} {p : Addr × Obj}
/-- the call of such a def, where p is pinned -/
def tCallE (p : Addr × Obj) (sp : Addr × Obj → Sp) (t : TA) : TE := fun σ H Q => t σ H fun vs H1 => sp p vs H1 Q E0
theorem pe_callE (F : FnE X.prog X.w X.K X.mg X.base k f fd ps sp) (hr : L2H.RoomH k X.A) (hp : p ∈ X.pn) (hg : Gl X x)
    (hm : X.mg x = some (.ref f)) (hk : PySem.W.keepIn X.K (.ref f) = true) (hb : L2.Binds X.K fd ps []) (ha : PA X (e :: es) t)
    (hdb : (x == ("__debug__" : Str)) = false := by decide)
    (he : starEach (e :: es) X.env = (false, eval e X.env) :: starEach es X.env := by rfl)
    (hpl : (backTo pos (starEach es X.env)).any (·.1) = false := by rfl) :
    PE X (.Call (.Name x q) (e :: es) [] pos) (tCallE p sp t) := by
  refine ⟨fun pins s σ H Q I h => wpAny_Call_Name_kw (ld_glob I hg hm ?_ hdb)⟩
  refine PySem.W.callWith_K (h₀ := X.base) I.ok.mod.kin hk ?_ he hpl
  refine thn (ha.run pos pins s σ H _ I h) fun us s1 ⟨vs, H1, I1, r, h1⟩ => ⟨I1.kIn, ?_⟩
  have hl : (us ++ []).length = ps.length := by
    rw [List.append_nil, ← r.length]
    exact F.argc h1
  have b := hb s1 us I1.kIn hl
  rw [List.append_nil] at b
  obtain ⟨p1, p2, p3, p4, p5⟩ := I1.pin p (List.mem_append_left _ hp)
  have pin : L2H.PinOk X.stack H1 s1 p := ⟨p1, p2, fun z => (List.mem_cons.mp (I1.stkSub p.1 z)).elim p3 p4, p5⟩
  refine wpAny_call (codeAny_mono (F.go hr pin I1.env0 b r h1) fun r s' hq => ?_)
  match r, hq with
  | .error _, hq => exact hq.elim
  | .ok (.ret u), hq => exact I1.after hq
  | .ok .next, hq => exact hq.elim
  | .ok .brk, hq => exact hq.elim
  | .ok .cont, hq => exact hq.elim
end
section
variable {X : Cx} {k : Nat} {f a : Addr} {oe : Obj} {cls : Value} {d : Option Addr} {fd : FuncData} {ps : List Str} {sp : Addr × Obj → Sp} {x : Str} {q pos : Pos} {e : Expr}
  {es : List Expr} {t : TA} {pn : List (Addr × Obj)}
/-- .. in an except suite; its reading names the error by its class and dict alone -/
def tCallZ (a : Addr) (cls : Value) (d : Option Addr) (sp : Addr × Obj → Sp) (t : TA) : TE := fun σ H Q => t σ H fun vs H1 =>
  ∀ oe : Obj, Zc cls d oe → (∃ vs, oe.data = .fields vs) → sp (a, oe) vs H1 Q E0
theorem pe_callZ (F : FnE X.prog X.w X.K X.mg X.base k f fd ps sp) (hr : Room k X.A) (hz : Zc cls d oe) (hf : ∃ vs, oe.data = .fields vs) (hg : Gl X x)
    (hm : X.mg x = some (.ref f)) (hk : PySem.W.keepIn X.K (.ref f) = true) (hb : L2.Binds X.K fd ps []) (ha : PA (X.suite a ((a, oe) :: pn)) (e :: es) t)
    (hdb : (x == ("__debug__" : Str)) = false := by decide)
    (he : starEach (e :: es) X.env = (false, eval e X.env) :: starEach es X.env := by rfl)
    (hpl : (backTo pos (starEach es X.env)).any (·.1) = false := by rfl) :
    PE (X.suite a ((a, oe) :: pn)) (.Call (.Name x q) (e :: es) [] pos) (tCallZ a cls d sp t) := by
  refine ⟨fun pins s σ H Q I h => ?_⟩
  have h2 : t σ H fun vs H1 => (fun vs H1 => ∀ oe : Obj, Zc cls d oe → (∃ vs, oe.data = .fields vs) → sp (a, oe) vs H1 Q E0) vs H1 := h
  refine (wpAny_Call_Name_kw (ld_glob (X := X.suite a ((a, oe) :: pn)) I hg hm ?_ hdb))
  refine PySem.W.callWith_K (h₀ := X.base) I.ok.mod.kin hk ?_ he hpl
  refine thn (ha.run pos pins s σ H _ I h2) fun us s1 ⟨vs, H1, I1, r, h1⟩ => ⟨I1.kIn, ?_⟩
  have h1 := h1 oe hz hf
  have hl : (us ++ []).length = ps.length := by
    rw [List.append_nil, ← r.length]
    exact F.argc h1
  have b := hb s1 us I1.kIn hl
  rw [List.append_nil] at b
  obtain ⟨p1, p2, p3, p4, p5⟩ := I1.pin (a, oe) (List.mem_append_left _ List.mem_cons_self)
  have pin : L2H.PinOk X.stack H1 s1 (a, oe) := ⟨p1, p2, fun z => (List.mem_cons.mp (I1.stkSub a z)).elim p3 p4, p5⟩
  refine wpAny_call (codeAny_mono (F.go (A := X.A.mark (some (.ref a))) ⟨hr.dp, hr.un⟩ pin I1.env0 b r h1) fun r s' hq => ?_)
  match r, hq with
  | .error _, hq => exact hq.elim
  | .ok (.ret u), hq => exact I1.after hq
  | .ok .next, hq => exact hq.elim
  | .ok .brk, hq => exact hq.elim
  | .ok .cont, hq => exact hq.elim
end
/-! ### isinstance of the pinned error -/
section
variable {X : Cx} {a D : Addr} {oe : Obj}
theorem pinned_at {pins : List (Addr × Obj)} {σ : L2.St} {H : Hp} {s : Shared} (I : Inv X pins σ H s) (hp : (a, oe) ∈ X.pn) (hz : Zc (.ref D) none oe)
    (hf : ∃ vs, oe.data = .fields vs) : PySem.W.InstAt s.heap a oe D none := by
  obtain ⟨hget, _⟩ := I.pin (a, oe) (List.mem_append_left _ hp)
  obtain ⟨vs, hv⟩ := hf
  obtain ⟨oc, od, oda, osl⟩ := oe
  obtain ⟨h1, h2⟩ := hz
  dsimp only at h1 h2 hv
  subst h1 h2 hv
  exact ⟨hget, rfl, rfl, trivial⟩
theorem call_isP (hp : (a, oe) ∈ X.pn) (C : ExcC X.K D) (hz : Zc (.ref D) none oe) (hf : ∃ vs, oe.data = .fields vs) :
    CallR X (.builtin "isinstance") (fun xs H Q => ∃ (c : V) (cv : Value) (b : Bool), xs = [.ref a, c] ∧ ClsV c cv ∧ PySem.W.kitOne X.K (.ref D) cv = some b ∧ Q (.bl b) H) := by
  intro pins s σ H xs us Q I r h
  obtain ⟨c, cv, b, rfl, hc, e, q⟩ := h
  obtain ⟨u1, u2, rfl, r1, r2⟩ := vals2 r
  have e2 := hc.eq r2
  subst e2
  cases r1
  exact PySem.W.kia_one (PySem.W.handS_kitx_exc C.hg C.hk C.hs C.hd C.ha C.hn C.ht C.hm) I.kIn (pinned_at I hp hz hf) e (fun z => nomatch z)
    fun tk => ⟨.bl b, H, I.tok tk, rfl, q⟩
theorem call_isPT (hp : (a, oe) ∈ X.pn) (C : ExcC X.K D) (hz : Zc (.ref D) none oe) (hf : ∃ vs, oe.data = .fields vs) :
    CallR X (.builtin "isinstance") (fun xs H Q => ∃ (tp : Addr) (cs : List V) (us : List Value) (b : Bool), xs = [.ref a, .ref tp] ∧ H tp = some (.tup cs) ∧ Paired ClsV cs us ∧
      PySem.W.kitAny X.K (.ref D) us = some b ∧ Q (.bl b) H) := by
  intro pins s σ H xs us Q I r h
  obtain ⟨tp, cs, ws, b, rfl, hT, k, e, q⟩ := h
  obtain ⟨u1, u2, rfl, r1, r2⟩ := vals2 r
  cases r1
  cases (show u2 = Value.ref tp from r2)
  obtain ⟨_, its, rv, o, h1, h2, n, h3⟩ := (show ObjOk X.prog X.w H s.heap tp (.tup cs) from I.hok tp _ hT)
  have e3 := ClsV.all k rv
  subst e3
  obtain ⟨oc, od, dt, sl⟩ := o
  simp only at h2 h3
  subst h2 h3
  exact PySem.W.kia_tup (PySem.W.handS_kitx_exc C.hg C.hk C.hs C.hd C.ha C.hn C.ht C.hm) I.kIn (pinned_at I hp hz hf) h1 e (fun z => nomatch z)
    fun tk => ⟨.bl b, H, I.tok tk, rfl, q⟩
end
end LT

set_option Elab.async false
set_option linter.all false
set_option maxRecDepth 100000
set_option maxHeartbeats 1600000
/-! an own error whose __init__ begins with super().__init__(..): the def by its body -/
namespace LT
open PySem PySem.Spec PyProof.Rows L2 NdefX
/-- what the written part says of it -/
structure SupC (K : PySem.W.Frag) (prog : Program) (mg : Str → Option Value) (C cc : Addr) (F : NF) (ar : Arg) : Prop where
  oex : OexC K C
  cl : F.cl = [(("__class__" : Str), cc)]
  cell : ∃ a b c, K.lookup cc = some ⟨a, b, .cell (some (.ref C)), c⟩
  file : ∃ (a : Value) (b : Option Addr) (vs : Array Value) (c : Array (Option Value)) (fl : Str) (tf : Tok), K.lookup F.c = some ⟨a, b, .fields vs, c⟩ ∧ vs[2]? = some (.str fl tf) ∧ ((prog.main.file : Str) == fl) = true
  hsub : PySem.W.mroIn K C (.ref C) = some true
  sup : PySem.W.ks_superIn K C C "__init__" = some (some (.builtin "ValueError.__init__"))
  sB : PySem.W.subIn K (.ref C) (.type "ValueError") = some true
  op : PySem.W.nsIn K cStatics "thirdparty.any" = some none
  hp : (F.params.posonlyargs ++ F.params.args).head? = some ar
  cd : PySem.W.codeIn K (.ref F.c) F.qual = true
  ks : F.scope.names.lookup ("super" : Str) = some .globalImplicit
  top : (prog.main.scope.names.lookup ("super" : Str)).isSome = false
  ms : mg "super" = none
section
variable {X : Cx} {pins : List (Addr × Obj)} {σ : L2.St} {H : Hp} {s : Shared} {a C u : Addr} {E : Value → Shared → Prop} {A : Around}
/-- the bound ValueError.__init__ called -/
theorem mw_ok {us : List Value} {Q : Value → Shared → Prop} (T : OexC X.K C) (I : Inv X pins σ H s) (e : H a = some (exo a C none)) (hu : s.heap.get? u = some (PySem.W.kxs_mw "ValueError.__init__" a)) (hl : us.length ≤ sizeLine) (h : ∀ s', Inv X pins σ H s' → Q .none s') :
    wpAny (model X.prog X.w) A (call (.ref u) us) Q E s := by
  obtain ⟨nm, q, N, bs, bm, sn, sub, ab, col, dd, k0, k1, k2, k3, k5, hC, hbm⟩ := T.cls
  obtain ⟨t1, ho⟩ := exo_at I.hok e
  have hCh := I.kIn _ _ hC
  have fin : ∀ h', (∀ b o, b ≠ a → s.heap.get? b = some o → h'.get? b = some o) → h'.get? a = some (PySem.W.excObj C s.heap.objs.size none .none) → Q .none { s with heap := h' } := fun h' k hx => by
    have J := I.write (t' := s.toks) (x := a) (e := a) (o := exo a C none) (by rw [e]; exact True.intro) (.inl rfl) k ⟨_, hx⟩ (exo_ok hx)
    have eu : upd H a (exo a C none) = H := by
      funext b
      by_cases hb : b = a
      · rw [hb, upd_same, e]
      · rw [upd_ne hb]
    rw [eu] at J
    exact h _ J
  obtain ⟨hh, g, d, tk, os⟩ := s
  refine wpAny_call (codeAny_of_tree ?_)
  show wpAny _ A.in1 (callAny (.ref u) ⟨us, []⟩) _ _ _
  simp only [callAny]
  refine wpAny_bind (wpAny_load hu ?_)
  simp only [PySem.W.kxs_mw, show (Value.type "method-wrapper" == Value.type "method" || Value.type "method-wrapper" == Value.type "builtin_function_or_method" || Value.type "method-wrapper" == Value.type "method-wrapper") = true by decide, if_true]
  refine PySem.W.KFB.if_so (by decide) ?_
  refine wpAny_bind (PySem.W.check_bound_init F.excBase_ValueError.toExcCallFacts hCh ho rfl ?_)
  refine wpAny_bind (wpAny_pure (wpAny_pure ?_))
  refine ⟨plainId_quiet F.excBase_ValueError.init.plain _, codeAny_builtin F.excBase_ValueError.initEntry ?_⟩
  exact PySem.W.exc_init_tree (cls := .ref C) (t0 := t1) (dv := none) (c2 := .none) (c3 := .none) (b4 := .bool false) ho hl fun h' k hx _ => fin h' k hx
end
section
variable {CX : CXT} {P : Program} {w : World} {K : PySem.W.Frag} {mg : Str → Option Value} {base : Heap} {N ps pr : List Str} {F : NF} {f : Addr} {fd : FuncData} {C cc : Addr} {ar : Arg} {k : Nat} {sp : Sp}
/-- THE RULE -/
theorem sup_of {e : Expr} {es : List Expr} {rest : List Stmt} {p0 p1 p2 pos pos' : Pos} {pl : Env → Sem Bool} (D : SupC K P mg C cc F ar)
    (lk : ∃ (oc : Value) (od : Option Addr) (dV kV doc pm : Value) (an : Option Addr) (ct : Value) (osl : Array (Option Value)), fd = PySem.W.fnX F.name F.qual F.params F.body F.scope F.cl dV kV doc pm an (.ref F.c) ct ∧ K.lookup f = some ⟨oc, od, .func fd, osl⟩)
    (S : NScope N ps ["__class__"] F.scope) (hps : ps = ar.arg :: pr) (hB : F.body = .Expr (.Call (.Attribute (.Call (.Name "super" p0) [] [] p1) "__init__" p2) (e :: es) [] pos) pos' :: rest)
    (len : ∀ vs H Q E, sp vs H Q E → vs.length = ps.length)
    (hc : ∀ env, eval (.Call (.Attribute (.Call (.Name "super" p0) [] [] p1) "__init__" p2) (e :: es) [] pos) env = (do
      let ov ← attributeBase (.Call (.Name "super" p0) [] [] p1) "__init__" env (eval (.Call (.Name "super" p0) [] [] p1) env)
      standAt p2.atName
      let (f, first) ← holding [ov] (getMethod ov "__init__" (pl env))
      callWith pos f first (backTo pos (starEach (e :: es) env)) []))
    (he : ∀ env, starEach (e :: es) env = (false, eval e env) :: starEach es env) (hpl : ∀ env, (backTo pos (starEach es env)).any (·.1) = false)
    (hi : ∀ env : Env, env.scope = F.scope → interactive env = false) (hs : ∀ env, swapsWith (.Call (.Attribute (.Call (.Name "super" p0) [] [] p1) "__init__" p2) (e :: es) [] pos) none pos'.line env = pure false)
    (hbody : ∀ (A : Around) (outer : List Env) (s : Shared) (H : Hp) (vs : List V) (Q : VK) (E : XK), Room k (A.deeper (envF F f s.heap.objs.size)) → sp vs H Q E →
      ∃ (a : Addr) (vr : List V) (ta : TA) (t : TS), vs = .ref a :: vr ∧ H a = some (exo a C none) ∧ PA (ncx CX P w K mg base N F f A outer s H E) (e :: es) ta ∧ PSs (ncx CX P w K mg base N F f A outer s H E) rest t ∧
        ta (startF N vs [some (.ref C)]) H (fun ws H1 => ws.length ≤ 1000 ∧ H1 a = some (exo a C none) ∧ t { nx := fun _ H' => Q .non H', rt := Q } (startF N vs [some (.ref C)]) H1)) :
    FnOk P w K mg base CX (k + 1) f fd ps sp := by
  obtain ⟨oc, od, dV, kV, doc, pm, an, ct, osl, rfl, lk⟩ := lk
  refine ⟨len, fun A outer s H args us vs Q E hr e0 hb r hsp => ?_⟩
  have KB : K.In base := e0.mod.kin
  have KX : K.In s.heap := e0.mod.kin.keeps fun b o e => (e0.bs b o e).1
  have hl := len _ _ _ _ hsp
  have lim : s.heap.NoLimit := e0.mod.nolimit.keeps fun b o e => (e0.bs b o e).1
  obtain ⟨c1, c2, c3, hcell⟩ := D.cell
  obtain ⟨f1, f2, fvs, f3, fl, tf, hfc, hfv, hfl⟩ := D.file
  refine codeAny_call_function hr.depth (KX _ _ lk) rfl S.co S.gen rfl (PySem.W.codeRec_of KX D.cd) (hb _ _ _ _ ?_)
  refine wpAny_newFunctionEnv S.nocell (fun ⟨n, _⟩ hy => S.par n (List.of_mem_zip hy).1) (fun h₁ hns hsb => ⟨lim.fresh _ hsb, ?_⟩) S.kind
  show codeAny _ _ (.func F.body (envF F f s.heap.objs.size)) _ _
  have kp : ∀ b o, s.heap.get? b = some o → h₁.get? b = some o := fun b o e => hsb.extBut b o (Nat.ne_of_lt (Heap.lt_size e)) (Heap.get?_push_of_some _ e)
  obtain ⟨a, vr, ta, t, rfl, ha, hA, hT, hq⟩ := hbody A outer s H vs Q E (hr.deeper _) hsp
  have CA : CellsAt F.cl ["__class__"] [some (.ref C)] s.heap H := by
    rw [D.cl]
    refine ⟨rfl, fun y c e => ?_, fun x y c h1 h2 => ?_, fun i y hi => ?_⟩
    · have e' : c = cc := by
        simp only [List.lookup] at e
        split at e
        · exact (Option.some.inj e).symm
        · cases e
      subst e'
      exact ⟨(e0.bs _ _ (KB _ _ hcell)).2, _, _, KX _ _ hcell, rfl⟩
    · have one : ∀ {z : Str} {c : Addr}, ([(("__class__" : Str), cc)] : List (Str × Addr)).lookup z = some c → z = "__class__" := fun {z c} e => by
        simp only [List.lookup] at e
        split at e
        · rename_i h
          exact eq_of_beq h
        · cases e
      rw [one h1, one h2]
    · cases i with
      | zero =>
        cases hi
        exact ⟨cc, by simp [List.lookup], fun v hv => by cases hv; exact ⟨.ref C, rfl, _, KX _ _ hcell, rfl⟩⟩
      | succ i => cases hi
  have I : Inv (ncx CX P w K mg base N F f A outer s H E) [] (startF N (.ref a :: vr) [some (.ref C)]) H { s with heap := h₁, toks := s.toks + (ps.zip us).length } := inv_startN S hr.hd e0 hl r CA hns kp
  refine PySem.ks_codeAny_funcAt ?_
  have fin : ∀ {σ' : L2.St} {H' : Hp} {v : V} {u : Value} {s' : Shared}, Inv (ncx CX P w K mg base N F f A outer s H E) [] σ' H' s' → L2.RelV v u → Q v H' → CE outer P w H s Q u s' :=
    fun {σ' H' v u s'} J rv q => ⟨v, H', J.os, J.bare, J.base, J.hok, rv, q⟩
  -- the rest of the body
  have last : ∀ {H1 : Hp} {s1 : Shared}, Inv (ncx CX P w K mg base N F f A outer s H E) [] (startF N (.ref a :: vr) [some (.ref C)]) H1 s1 → t { nx := fun _ H' => Q .non H', rt := Q } (startF N (.ref a :: vr) [some (.ref C)]) H1 →
      PySem.wpAt (model P w) (A.deeper (envF F f s.heap.objs.size)) (.func F.body (envF F f s.heap.objs.size)) (execs rest (envF F f s.heap.objs.size)) (fun fl s' => CR CX outer P w H s Q E (.ok (.ret (match fl with | .ret v => v | _ => .none))) s')
        (fun e s' => wpAny (model P w) (A.deeper (envF F f s.heap.objs.size)) (leaving (envF F f s.heap.objs.size) e) (fun _ s'' => CR CX outer P w H s Q E (.error e) s'') (fun e' s'' => CR CX outer P w H s Q E (.error e') s'') s') s1 := by
    intro H1 s1 J q
    refine PySem.wpAt_of_wpAny (wpAny_mono (hT.run [] s1 _ H1 _ J q) (fun fl s' hs => ?_) fun e s' hs => hs)
    cases fl with
    | ret u =>
      obtain ⟨v, σ', H', J, rv, q⟩ := hs
      exact fin J rv q
    | next =>
      obtain ⟨σ', H', J, q⟩ := hs
      exact fin (v := V.non) (u := Value.none) J rfl q
    | brk =>
      obtain ⟨_, _, _, q⟩ := hs
      exact False.elim q
    | cont =>
      obtain ⟨_, _, _, q⟩ := hs
      exact False.elim q
  rw [hB]
  rw [hB] at last
  obtain ⟨nm, qn, Nn, bs, bm, sn, sub, ab, col, dd, k0, k1, k2, k3, k5, hCk, hbm⟩ := D.oex.cls
  obtain ⟨t1, hx⟩ := exo_at I.hok ha
  obtain ⟨cd, hcl, hal⟩ : ∃ cd, PySem.W.clsIn K C = some cd ∧ PySem.W.alongIn K "__init__" ((cd.mro.dropWhile (· != .ref C)).drop 1) = some (some (.builtin "ValueError.__init__")) := by
    have z := D.sup
    unfold PySem.W.ks_superIn at z
    cases hc : PySem.W.clsIn K C with
    | none => rw [hc] at z; cases z
    | some cd => rw [hc] at z; exact ⟨cd, rfl, z⟩
  have hv : (ps.zip us).reverse.lookup ar.arg = some (.ref a) := by
    have ndP : ps.Nodup := by
      have q := S.nd.sublist (List.take_sublist (ps.length + [("__class__" : Str)].length) N)
      rw [S.pre] at q
      exact (List.nodup_append.mp q).1
    cases r with
    | @cons _ u0 _ ur ra rr =>
      obtain rfl : u0 = Value.ref a := ra
      exact zip_look (i := 0) ndP (by rw [hps]; rfl) rfl
  obtain ⟨mb, b1, b2⟩ := e0.mod.blt
  have K1 : K.In h₁ := KX.keeps kp
  have hcl0 : F.cl.lookup ("__class__" : Str) = some cc := by rw [D.cl]; simp [List.lookup]
  refine PySem.ks_wpAt_execs_cons (PySem.ks_wpAt_Expr_any (PySem.ks_wpAt_MethodCall (pl := pl _) ?_ (hc _)) (hi _ rfl) (hs _))
  refine PySem.ks_wpAt_super_base (ar := ar) D.ks (S.frk _ (.head _)) (by decide) rfl (K1 _ _ lk) rfl D.hp rfl (K1 _ _ hfc) rfl hfv hfl D.top ?_
  refine PySem.W.ks_loadName_global S.kind D.ks (PySem.Calls.loadGlobal_builtin (env := envF F f s.heap.objs.size) (e0.mod.glob.keeps I.bk) D.ms (b1.keeps I.bk) ((b2 "super" (by decide)).trans (show bootBuiltins "super" = some (.type "super") by decide +kernel)) ⟨rfl, ?_⟩)
  refine wpAny_loadName_free S.kind (S.frk _ (.head _)) hcl0 ⟨_, K1 _ _ hcell, rfl⟩ ?_
  refine wpAny_loadName_local S.kind (S.par ar.arg (by rw [hps]; exact .head _)) hns hv ?_
  refine PySem.ks_wpAny_isType_cls (K1 _ _ hCk) rfl ⟨rfl, ?_⟩
  refine PySem.ks_wpAny_call_super (K1 _ _ hCk) rfl hx rfl (fun c e => nomatch e) (PySem.W.looks_mroIn K1 D.hsub) (fun h2 eo k2 => ?_)
  have I2 := I.un (t' := s.toks + (ps.zip us).length) (h' := h2) (Un.kept k2) (I.hok.kept k2)
  have K2 : K.In h2 := K1.keeps k2
  have IA : PySem.W.InstAt h2 a (PySem.W.excObj C t1 none .none) C none := ⟨k2 _ _ hx, rfl, rfl, trivial⟩
  refine PySem.W.kxs_getMethod PySem.W.kxs_ValueError eo (PySem.W.looks_opaque K2 D.op) (l₀ := cd.mro) (fun A Q E s k q => wpAny_bind ((PySem.W.looks_clsIn K2 hcl) A _ E s k (wpAny_pure q))) rfl K2 hal (IA.type.andThen (PySem.W.looks_subIn K2 D.sB)) (PySem.W.ks_ne K2 IA hcl) (by decide) ?_
  have k3 : ∀ b o, h2.get? b = some o → (h2.push (PySem.W.kxs_mw "ValueError.__init__" a)).get? b = some o := fun b o e => Heap.get?_push_of_some _ e
  have I3 := I2.un (t' := s.toks + (ps.zip us).length + 1) (h' := h2.push (PySem.W.kxs_mw "ValueError.__init__" a)) (Un.kept k3) (I2.hok.kept k3)
  have hu3 : (h2.push (PySem.W.kxs_mw "ValueError.__init__" a)).get? h2.objs.size = some (PySem.W.kxs_mw "ValueError.__init__" a) := Heap.get?_push_at rfl rfl
  have I4 : Inv (ncx CX P w K mg base N F f A outer s H E) [(h2.objs.size, PySem.W.kxs_mw "ValueError.__init__" a)] (startF N (.ref a :: vr) [some (.ref C)]) H _ := I3.pins_of fun p hp => by
    rw [List.mem_singleton.mp hp]
    exact ⟨hu3, I2.hok.fresh (Nat.le_refl _), Nat.ne_of_gt I2.lt, I2.nofs (Nat.le_refl _), fun v z => nomatch z⟩
  have args : wpAny (model P w) (A.deeper (envF F f s.heap.objs.size)) (spliced (backTo pos (starEach (e :: es) (envF F f s.heap.objs.size)))) _ _ _ := hA.run pos _ _ _ H _ I4 hq
  rw [he] at args
  show wpAny _ _ (callWith pos (.ref h2.objs.size) [] (backTo pos (starEach (e :: es) (envF F f s.heap.objs.size))) []) _ _ _
  rw [he]
  refine PySem.W.kxs_callWith (i := "ValueError.__init__") (x := a) (by show (false || (backTo pos (starEach es _)).any (·.1)) = false; rw [hpl]; rfl) (PySem.Calls.evalArgs_plain ?_)
  refine wpAny_mono args (fun ws s1 hw => ?_) fun e s' hs => hs
  obtain ⟨vs, H1, J, rv, hlen, e1, q⟩ := hw
  have hu := (J.pin _ (List.mem_append_right _ (.head _))).1
  have J0 : Inv (ncx CX P w K mg base N F f A outer s H E) [] (startF N (.ref a :: vr) [some (.ref C)]) H1 s1 := J.pins_of fun p hp => absurd hp (by simp)
  have hlen' : ws.length ≤ sizeLine := by rw [← rv.length, sizeLine_eq]; omega
  exact ⟨hu, mw_ok (X := ncx CX P w K mg base N F f A outer s H E) D.oex J0 e1 hu hlen' fun s' J' => last J' q⟩
end
end LT

set_option Elab.async false
set_option linter.all false
set_option maxRecDepth 100000
set_option maxHeartbeats 1600000
/-! Own layer: a def to which a caught error with a field is handed: isinstance of it, its field; repr of lists of data; the __init__ of such errors. -/
namespace LT
open PySem PySem.Spec PyProof.Rows L2 NdefX
section
variable {X : Cx} {a D dd : Addr} {oe : Obj} {fs : List (Str × V)}
theorem pinned_dd {pins : List (Addr × Obj)} {σ : L2.St} {H : Hp} {s : Shared} (I : Inv X pins σ H s) (hp : (a, oe) ∈ X.pn) (hz : Zc (.ref D) (some dd) oe)
    (hf : ∃ vs, oe.data = .fields vs) (hd : H dd = some (.xd fs)) : ∃ od, PySem.W.InstAt s.heap a oe D (some od) := by
  obtain ⟨hget, _⟩ := I.pin (a, oe) (List.mem_append_left _ hp)
  obtain ⟨vs, hv⟩ := hf
  have hx : ObjOk X.prog X.w H s.heap dd (.xd fs) := I.hok dd _ hd
  obtain ⟨mA, hns, hr⟩ := hx
  obtain ⟨od, ho, hl⟩ := lookIn_ns hns
  exact ⟨od, hget, hz.1, by unfold PySem.W.notCls; rw [hv] <;> rfl, by rw [hz.2]; exact ho⟩
theorem cls_some {K : PySem.W.Frag} {D : Addr} (h : PySem.W.hasDictIn K D = true) : (PySem.W.clsIn K D).isSome = true := by
  obtain ⟨cd, hc, _⟩ := PySem.W.any_some h
  rw [hc]
  rfl
theorem call_isF (hp : (a, oe) ∈ X.pn) (C : ExcC X.K D) (hz : Zc (.ref D) (some dd) oe) (hf : ∃ vs, oe.data = .fields vs) :
    CallR X (.builtin "isinstance") (fun xs H Q => ∃ (fs : List (Str × V)) (c : V) (cv : Value) (b : Bool), H dd = some (.xd fs) ∧ xs = [.ref a, c] ∧ ClsV c cv ∧ PySem.W.kitOne X.K (.ref D) cv = some b ∧ Q (.bl b) H) := by
  intro pins s σ H xs us Q I r h
  obtain ⟨fs, c, cv, b, hd, rfl, hc, e, q⟩ := h
  obtain ⟨u1, u2, rfl, r1, r2⟩ := vals2 r
  have e2 := hc.eq r2
  subst e2
  cases r1
  obtain ⟨od, J⟩ := pinned_dd I hp hz hf hd
  exact PySem.W.kia_one (PySem.W.kitx_exc (cls_some C.hd) C.hg C.hk C.hs C.ha C.hn C.ht C.hm) I.kIn J e (fun z => nomatch z)
    fun tk => ⟨.bl b, H, I.tok tk, rfl, q⟩
theorem call_isFT (hp : (a, oe) ∈ X.pn) (C : ExcC X.K D) (hz : Zc (.ref D) (some dd) oe) (hf : ∃ vs, oe.data = .fields vs) :
    CallR X (.builtin "isinstance") (fun xs H Q => ∃ (fs : List (Str × V)) (tp : Addr) (cs : List V) (us : List Value) (b : Bool), H dd = some (.xd fs) ∧ xs = [.ref a, .ref tp] ∧ H tp = some (.tup cs) ∧ Paired ClsV cs us ∧
      PySem.W.kitAny X.K (.ref D) us = some b ∧ Q (.bl b) H) := by
  intro pins s σ H xs us Q I r h
  obtain ⟨fs, tp, cs, ws, b, hd, rfl, hT, k, e, q⟩ := h
  obtain ⟨u1, u2, rfl, r1, r2⟩ := vals2 r
  cases r1
  cases (show u2 = Value.ref tp from r2)
  obtain ⟨_, its, rv, o, h1, h2, n, h3⟩ := (show ObjOk X.prog X.w H s.heap tp (.tup cs) from I.hok tp _ hT)
  have e3 := ClsV.all k rv
  subst e3
  obtain ⟨oc, od', dt, sl⟩ := o
  simp only at h2 h3
  subst h2 h3
  obtain ⟨od, J⟩ := pinned_dd I hp hz hf hd
  exact PySem.W.kia_tup (PySem.W.kitx_exc (cls_some C.hd) C.hg C.hk C.hs C.ha C.hn C.ht C.hm) I.kIn J h1 e (fun z => nomatch z)
    fun tk => ⟨.bl b, H, I.tok tk, rfl, q⟩
/-- e.f of the pinned error -/
theorem pe_xfP {e : Expr} {te : TE} {pos : Pos} {n : Str} (hp : (a, oe) ∈ X.pn) (T : XfC X.K D) (hno : PySem.W.findIn X.K (.ref D) n = some none)
    (hz : Zc (.ref D) (some dd) oe) (hf : ∃ vs, oe.data = .fields vs) (he : PE X e te) (hb : attributeBase e n X.env (eval e X.env) = eval e X.env := by rfl) :
    PE X (.Attribute e n pos) (tXf a (.ref D) (some dd) D n te) := by
  refine ⟨fun pins s σ H Q I h => ?_⟩
  refine attr_of hb (thn (he.run pins s σ H _ I h) fun u s1 hh => ?_)
  obtain ⟨x, H1, I1, rx, ex, _, dd', fs, v, ed, ea, l, q⟩ := hh
  subst ex
  obtain rfl : u = Value.ref a := rx
  cases ed
  obtain ⟨ha, _⟩ := I1.pin (a, oe) (List.mem_append_left _ hp)
  obtain ⟨vs, hd⟩ := hf
  have hx : ObjOk X.prog X.w H1 s1.heap dd (.xd fs) := I1.hok dd _ ea
  obtain ⟨mA, hns, hr⟩ := hx
  obtain ⟨od, ho, hl⟩ := lookIn_ns hns
  obtain ⟨u, hu, ru⟩ := RelO.some_of (v := v) (o := mA n) (by rw [← l]; exact hr n)
  have J : PySem.W.InstAt s1.heap a oe D (some od) := ⟨ha, hz.1, by unfold PySem.W.notCls; rw [hd] <;> rfl, by rw [hz.2]; exact ho⟩
  exact HandSPX.exc_get I1.kIn J T.ga T.gg T.exC (PySem.W.findObj_own T.hdC hno rfl (by rw [hl, hu])) (handed_of ru) ⟨v, H1, I1.tok _, ru, q⟩
end

/-! ### an own error's __init__(self, field): super().__init__(f".. {field}"); self.field = field -/
abbrev nfI (st : Stmt) (qual : Str) (cc c : Addr) : NF := ⟨"__init__", qual, defArgs st, defBody st, defScope st, [(("__class__" : Str), cc)], c⟩
abbrev arI (st : Stmt) : Arg := ((defArgs st).posonlyargs ++ (defArgs st).args).head!
abbrev LkI (K : PySem.W.Frag) (F : NF) (f : Addr) (fd : FuncData) : Prop := ∃ (oc : Value) (od : Option Addr) (dV kV doc pm : Value) (an : Option Addr) (ct : Value) (osl : Array (Option Value)), fd = PySem.W.fnX F.name F.qual F.params F.body F.scope F.cl dV kV doc pm an (.ref F.c) ct ∧ K.lookup f = some ⟨oc, od, .func fd, osl⟩
theorem nil_app (x : Str) : Str.empty ++ x = x := by
  cases x with
  | mk a =>
    show Str.mk (#[] ++ a) = Str.mk a
    rw [Array.empty_append]
/-- its promise: the field is kept -/
def spErr (C : Addr) (fld : Str) : Sp := fun vs H Q _ => ∃ (a : Addr) (z : Str), vs = [.ref a, .str z] ∧ z.length ≤ 1000 ∧ H a = some (exo a C none) ∧ ∀ dx, H dx = none → dx ≠ a → Q .non (upd (upd H dx (exd dx [(fld, .str z)])) a (exo a C (some dx)))
/-- raise X("..."), as its maker leaves the heap -/
theorem err_made {H : Hp} {a C : Addr} {fld z : Str} {Q : XK} (na : H a = none) (hz : z.length ≤ 1000) (h : ∀ d H', H d = none → Same H H' → H' d = some (.xd [(fld, .str z)]) → Q (.ref C) (some d) H') :
    spErr C fld (.ref a :: ([.str z] ++ [])) (upd H a (exo a C none))
      (fun v H2 => v = .non ∧ ∃ (d : Addr) (fs : List (Str × V)), H2 a = some (exo a C (some d)) ∧ H2 d = some (exd d fs) ∧ H d = none ∧ Q (.ref C) (some d) (upd (del H2 a) d (.xd fs))) (fun _ _ _ => False) := by
  refine ⟨a, z, rfl, hz, upd_same, fun dx n1 n2 => ⟨rfl, dx, [(fld, .str z)], upd_same, ?_, ?_, ?_⟩⟩
  · rw [upd_ne n2, upd_same]
  · rw [upd_ne n2] at n1
    exact n1
  · rw [upd_ne n2] at n1
    refine h dx _ n1 (fun b o e => ?_) upd_same
    have nb := ne_of_none e na
    have nd := ne_of_none e n1
    rw [upd_ne nd, del_ne nb, upd_ne nb, upd_ne nd, upd_ne nb]
    exact e

/-! ### repr of a list of data, among them dicts without entries -/
inductive Sd (K : PySem.W.Frag) (H : Hp) : V → PyData → Prop
  | dp {v : V} {d : PyData} : Dp K H v d → d.hasDict = false → Sd K H v d
  | ed {a : Addr} : H a = some (.dK []) → Sd K H (.ref a) (.dict [])
theorem Sd.mono {K : PySem.W.Frag} {H H' : Hp} {v : V} {d : PyData} (s : Same H H') (h : Sd K H v d) (hm : Dp K H v d → Dp K H' v d) : Sd K H' v d := by
  cases h with
  | dp h hd => exact .dp (hm h) hd
  | ed h => exact .ed (s _ _ h)
section
variable {X : Cx} {pins : List (Addr × Obj)} {σ : L2.St} {H : Hp} {s : Shared}
theorem Sd.reads (I : Inv X pins σ H s) {v : V} {d : PyData} {u : Value} (h : Sd X.K H v d) (r : RelV v u) :
    ∃ as, Reads s.heap u d as ∧ (d.hasDict = true → sysModules ∉ as) := by
  cases h with
  | dp h hd =>
    obtain ⟨as, q⟩ := Dp.reads I d v u h r
    exact ⟨as, q, PyData.noDict_hsm hd⟩
  | ed h =>
    rename_i a
    cases r
    obtain ⟨_, hs, vs, rel, o, es, ep, ho, hx, hd, hko, hp, hn⟩ := I.hok a _ h
    cases rel
    generalize hes : es.toList = l at hp
    cases hp
    refine ⟨_, Reads.dict (as := []) (bs := []) (kvs := []) ho hx.1 hd ?_ ?_, fun _ z => ?_⟩
    · rw [hes]; exact .nil
    · rw [hes]; exact .nil
    · have z2 : sysModules = a := by simpa using z
      rw [z2] at hs
      simp at hs
theorem Sd.all (I : Inv X pins σ H s) : ∀ {vs : List V} {ds : List PyData} {us : List Value}, Paired (Sd X.K H) vs ds → Vals vs us → PyData.showableAll ds = true → (∀ t ∈ PyData.shownAll ds, t.length ≤ sizeLine) →
    ∃ as bs, ReadsAll s.heap us ds as ∧ ReadAtMost s.heap (PyData.depthAll ds) bs ∧ ReprAllK X.prog X.w bs s.heap (PyData.depthAll ds) us (PyData.shownAll ds)
  | _, _, _, .nil, r, _, _ => by
    cases r
    exact ⟨_, [], .nil, (fun _ h => nomatch h), by simp only [PyData.shownAll]; exact .nil⟩
  | _ :: _, d :: ds, _, .cons h hs, r, sh, hz => by
    cases r with
    | cons r1 r2 =>
      have sh' : d.showable = true ∧ PyData.showableAll ds = true := by simpa [PyData.showableAll] using sh
      obtain ⟨as, q1, n1⟩ := h.reads I r1
      obtain ⟨b1, hb1, k1⟩ := ReprK.of_reads (prog := X.prog) (w := X.w) q1 sh'.1 n1 (hz _ (by simp only [PyData.shownAll]; exact List.mem_cons_self ..))
      obtain ⟨bs, b2, q2, hb2, k2⟩ := Sd.all I hs r2 sh'.2 (fun t ht => hz t (by simp only [PyData.shownAll]; exact List.mem_cons_of_mem _ ht))
      refine ⟨_, b1 ++ b2, .cons q1 q2, ?_, ?_⟩
      · simp only [PyData.depthAll]
        exact (hb1.mono (Nat.le_max_left _ _)).append (hb2.mono (Nat.le_max_right _ _))
      · simp only [PyData.depthAll, PyData.shownAll]
        exact .cons ((k1.more fun b hb => List.mem_append_left _ hb).level_le (Nat.le_max_left _ _)) (k2.more_le (fun b hb => List.mem_append_right _ hb) (Nat.le_max_right _ _))
theorem call_reprSd (hG : X.A.guards = some []) (hu : X.A.units + 64 < cLine) : CallR X (.builtin "repr")
    (fun xs H Q => ∃ l vs ds, xs = [.ref l] ∧ SqL X.K H l vs ∧ Paired (Sd X.K H) vs ds ∧ (PyData.list ds).showable = true ∧ (PyData.list ds).depth ≤ 60 ∧ (PyData.list ds).shown.length ≤ sizeLine ∧
      Q (.str (PyData.list ds).shown) H) := by
  intro pins s σ H xs us Q I r h
  obtain ⟨l, vs, ds, rfl, hl, hs, sh, dp, sz, q⟩ := h
  obtain ⟨u, rfl, ru⟩ := vals1 r
  cases ru
  obtain ⟨its, rv, ⟨o, n, ho, hc, _, hd⟩, _⟩ := I.list hl
  have hz' : (listText (PyData.shownAll ds)).length ≤ sizeLine := by simpa only [PyData.shown] using sz
  obtain ⟨as, bs, rd, hb, hk⟩ := Sd.all I hs rv (by simpa [PyData.showable] using sh) (fun t ht => Nat.le_trans (listText_mem_le ht) hz')
  have hna : l ∉ bs := not_mem_of_deeper (.list ho hc hd rd) (by simp only [PyData.depth]; omega) hb
  have dp2 : PyData.depthAll ds + 1 ≤ 60 := by simpa only [PyData.depth] using dp
  have q2 : Q (.str (listText (PyData.shownAll ds))) H := by simpa only [PyData.shown] using q
  refine call_repr_slot (by omega) (show s.TypeIs (.ref l) "list" from ⟨o, ho, hc⟩) F.slot_list_repr.toG ?_
  cases its with
  | nil =>
    cases rd
    simp only [PyData.shownAll, listText_nil] at q2
    exact call_list_repr_empty ⟨o, ho, hc⟩ ho hd ⟨_, _, rfl, ⟨.str _, H, I.kept fun _ _ e => e, ⟨_, rfl⟩, q2⟩⟩
  | cons x l' =>
    exact call_list_reprK (A := X.A.in1) ho hc hd hna (by simpa using hk.length_eq) (fun i y e => hk.item i y (by simpa using e)) hG (fun b _ => Clear.nil b) (by show X.A.units + 1 + _ < cLine; omega) (fun _ _ e => e)
      (fun h' u tk hk' => ⟨_, _, rfl, ⟨.str _, H, I.kept hk', ⟨_, rfl⟩, q2⟩⟩) hz'
end
/-! ### keywords in any turn, no defaults -/
theorem vals_rev : ∀ {vs : List V} {us : List Value}, Vals vs us → Vals vs.reverse us.reverse
  | _, _, .nil => .nil
  | _, _, .cons h r => by
    rw [List.reverse_cons, List.reverse_cons]
    exact (vals_rev r).append (.cons h .nil)
theorem kbn_of {K : PySem.W.Frag} {y qual : Str} {st : Stmt} {f : Addr} {fd : FuncData} {ps : List Str} (F : Fun K y qual st f fd) (n : Nat) (ks : List Str) (g : {α : Type} → List α → List α → List α)
    (hrel : ∀ {vs zs : List V} {us ws : List Value}, Vals vs us → Vals zs ws → Vals (g vs zs) (g us ws))
    (h : ∀ (kV doc pm : Value) (an : Option Addr) (cdv ct : Value) (us ws : List Value), us.length = n → ws.length = ks.length →
      bindArgs (PySem.W.fnOf y qual (defArgs st) (defBody st) (defScope st) .none kV doc pm an cdv ct) ⟨us, ks.zip ws⟩ = pure (ps.zip (g us ws))) :
    KBn K fd ps n ks (fun us ws => g us ws) (fun vs zs => g vs zs) := by
  obtain ⟨oc, od, kV, doc, pm, an, cdv, ct, osl, rfl, lk, hcd⟩ := F.ex
  exact ⟨fun s us ws _ l1 l2 => .of_eq (h kV doc pm an cdv ct us ws l1 l2), fun r1 r2 => hrel r1 r2⟩
end LT

set_option Elab.async false
set_option linter.all false
set_option maxRecDepth 100000
/-! Own layer: shown texts have signs of the alphabet alone (strOk). -/
namespace LT
open PySem PySem.Spec PyProof.Rows L2
theorem ok_of (s : String) : PyData.strOk (Str.ofString s) = true := by
  rw [Str.ofString_eq_toList]
  show (((s.toList.map Char.toNat).toArray).all fun c => decide (c < 0x110000)) = true
  rw [List.all_toArray, List.all_eq_true]
  intro c hc
  obtain ⟨d, _, rfl⟩ := List.mem_map.mp hc
  have h : d.val.toNat.isValidChar := d.valid
  rcases h with h | h <;> (refine decide_eq_true ?_; show d.val.toNat < _; omega)
theorem ok_app {x y : Str} (hx : PyData.strOk x = true) (hy : PyData.strOk y = true) : PyData.strOk (x ++ y) = true := by
  show ((x.cps ++ y.cps).all fun c => decide (c < 0x110000)) = true
  rw [Array.all_append]
  rw [show (x.cps.all fun c => decide (c < 0x110000)) = true from hx, show (y.cps.all fun c => decide (c < 0x110000)) = true from hy]
  rfl
theorem ok_textFrom : ∀ (ts : List Str) (k : Nat) (acc : Str), PyData.strOk acc = true → (∀ t ∈ ts, PyData.strOk t = true) → PyData.strOk (textFrom k acc ts) = true
  | [], _, _, ha, _ => ha
  | t :: r, k, acc, ha, h => ok_textFrom r (k + 1) _ (ok_app (ok_app ha (by split <;> exact ok_of _)) (h t List.mem_cons_self)) fun u hu => h u (List.mem_cons_of_mem _ hu)
theorem ok_listText {ts : List Str} (h : ∀ t ∈ ts, PyData.strOk t = true) : PyData.strOk (listText ts) = true := ok_app (ok_textFrom ts 0 _ (ok_of "[") h) (ok_of "]")
/-- a tuple of texts beside itself -/
theorem strs_lay {xs : List Str} (h : ∀ x ∈ xs, PyData.strOk x = true) : PyData.canLay0 (.tuple (xs.map .str)) = true ∧ SeqAt.shaped (.tuple (xs.map .str)) = true := by
  have a : ∀ {ys : List Str}, (∀ x ∈ ys, PyData.strOk x = true) → PyData.canLayAll0 (ys.map .str) = true ∧ PyData.depthAll (ys.map .str) = 0 := by
    intro ys
    induction ys with
    | nil => intro _; exact ⟨by simp [PyData.canLayAll0], by simp [PyData.depthAll]⟩
    | cons y ys ih =>
      intro hy
      obtain ⟨i1, i2⟩ := ih fun x hx => hy x (List.mem_cons_of_mem _ hx)
      exact ⟨by simp [PyData.canLayAll0, PyData.canLay0, hy y List.mem_cons_self, i1], by simp [PyData.depthAll, PyData.depth, i2]⟩
  obtain ⟨a1, a2⟩ := a h
  have h0 : PyData.canLay0 (.tuple (xs.map .str)) = true := by simpa [PyData.canLay0] using a1
  refine ⟨h0, ?_⟩
  unfold SeqAt.shaped
  rw [h0]
  simp [PyData.depth, a2]
end LT

set_option Elab.async false
set_option linter.all false
set_option maxRecDepth 100000
set_option maxHeartbeats 1600000
/-! Own layer: what every law of this program wants: names of defs, things handed in, pots, heaps that grow. -/
namespace LT
open PySem PySem.Spec PyProof.Rows L2 NdefX
/-- names that are still the built-in ones -/
structure Tx (mg : Str → Option Value) : Prop where
  isi : mg "isinstance" = none
  int : mg "int" = none
  bool : mg "bool" = none
  len : mg "len" = none
  abs : mg "abs" = none
  max : mg "max" = none
  min : mg "min" = none
  divmod : mg "divmod" = none
  range : mg "range" = none
  repr : mg "repr" = none
  zip : mg "zip" = none
  ve : mg "ValueError" = none
  all : mg "all" = none
  any : mg "any" = none
  sum : mg "sum" = none
  sorted : mg "sorted" = none
  list : mg "list" = none
  tuple : mg "tuple" = none
  dict : mg "dict" = none
  enumerate : mg "enumerate" = none
  reversed : mg "reversed" = none
  str : mg "str" = none
  set : mg "set" = none
/-- a def that stands as a name of the module -/
structure Has (K : PySem.W.Frag) (mg : Str → Option Value) (x : Str) (ps : List Str) (st : Stmt) (f : Addr) (fd : FuncData) : Prop where
  fn : Fun K x x st f fd
  bd : L2.Binds K fd ps []
  gl : mg x = some (.ref f)
/-- a method of the class at C -/
structure Mth (K : PySem.W.Frag) (C : Addr) (m q : Str) (ps : List Str) (st : Stmt) (f : Addr) (fd : FuncData) : Prop where
  fn : Fun K m q st f fd
  bd : L2.Binds K fd ps []
  me : Meth K C m f
/-- what is handed in -/
inductive Odd (H : Hp) : V → Prop
  | non : Odd H .non
  | bl (b : Bool) : Odd H (.bl b)
  | int (i : Int) : Odd H (.int i)
  | str (z : Str) : Odd H (.str z)
  | lst {a : Addr} {xs : List V} : H a = some (.lst xs) → Odd H (.ref a)
  | tup {a : Addr} {xs : List V} : H a = some (.tup xs) → Odd H (.ref a)
  | dK {a : Addr} {kvs : List (Key × V)} : H a = some (.dK kvs) → Odd H (.ref a)
theorem Odd.mono {H H' : Hp} (s : Same H H') {v : V} (h : Odd H v) : Odd H' v := by
  cases h with
  | non => exact .non
  | bl b => exact .bl b
  | int i => exact .int i
  | str z => exact .str z
  | lst e => exact .lst (s _ _ e)
  | tup e => exact .tup (s _ _ e)
  | dK e => exact .dK (s _ _ e)
def isInt : V → Bool
  | .int _ => true
  | .bl _ => true
  | _ => false
def isBl : V → Bool
  | .bl _ => true
  | _ => false
theorem Odd.ty {K : PySem.W.Frag} {H : Hp} {v : V} (h : Odd H v) : ∃ t, TyX K H v t ∧ PySem.W.kitOne K t (.type "int") = some (isInt v) ∧ PySem.W.kitOne K t (.type "bool") = some (isBl v) := by
  cases h with
  | non => exact ⟨_, .base .non, kit_ty (show kitB "NoneType" "int" = some false by decide +kernel), kit_ty (show kitB "NoneType" "bool" = some false by decide +kernel)⟩
  | bl b => exact ⟨_, .base (.bl b), kit_ty (show kitB "bool" "int" = some true by decide +kernel), kit_ty (show kitB "bool" "bool" = some true by decide +kernel)⟩
  | int i => exact ⟨_, .base (.int i), kit_ty (show kitB "int" "int" = some true by decide +kernel), kit_ty (show kitB "int" "bool" = some false by decide +kernel)⟩
  | str z => exact ⟨_, .base (.str z), kit_ty (show kitB "str" "int" = some false by decide +kernel), kit_ty (show kitB "str" "bool" = some false by decide +kernel)⟩
  | lst e => exact ⟨_, .base (.lst e), kit_ty (show kitB "list" "int" = some false by decide +kernel), kit_ty (show kitB "list" "bool" = some false by decide +kernel)⟩
  | tup e => exact ⟨_, .base (.tup e), kit_ty (show kitB "tuple" "int" = some false by decide +kernel), kit_ty (show kitB "tuple" "bool" = some false by decide +kernel)⟩
  | dK e => exact ⟨_, .base (.dK e), kit_ty (show kitB "dict" "int" = some false by decide +kernel), kit_ty (show kitB "dict" "bool" = some false by decide +kernel)⟩
def wholeB : V → Bool
  | .int _ => true
  | _ => false
theorem whole_eq (v : V) : (isInt v && !isBl v) = wholeB v := by cases v <;> rfl
def fromB : V → Int → Bool
  | .int i, l => decide (l ≤ i)
  | _, _ => false
def withinB : V → Int → Int → Bool
  | .int i, l, m => decide (l ≤ i) && decide (i ≤ m)
  | _, _, _ => false
theorem from_int {v : V} {l : Int} (h : fromB v l = true) : ∃ i, v = .int i ∧ l ≤ i := by
  cases v <;> first | exact ⟨_, rfl, of_decide_eq_true h⟩ | cases h
theorem bool_false {b : Bool} (h : ¬ b = true) : b = false := by cases b <;> first | rfl | exact absurd rfl h
theorem same_upd {H : Hp} {p : Addr} {o : HO} (h : H p = none) : Same H (upd H p o) := fun b x e => by
  rw [upd_ne (ne_of_none e h)]
  exact e
theorem same_app {H H1 : Hp} {p : Addr} {o : HO} (h : H p = none) (s : Same H H1) : Same H (upd H1 p o) := fun b x e => by
  rw [upd_ne (ne_of_none e h)]
  exact s _ _ e
/-- a pot: two numbers -/
def Pot (H : Hp) (p : Addr) : Prop := ∃ a b : Int, H p = some (.lst [.int a, .int b]) ∧ 0 ≤ a ∧ 0 ≤ b ∧ b < 2147483647
/-- all but what stands at p is as it was -/
def SameB (p : Addr) (H H' : Hp) : Prop := ∀ b o, b ≠ p → H b = some o → H' b = some o
theorem SameB.trans {p : Addr} {H H1 H2 : Hp} (a : SameB p H H1) (b : SameB p H1 H2) : SameB p H H2 := fun c o n h => b c o n (a c o n h)
theorem SameB.of {p : Addr} {H H' : Hp} (s : Same H H') : SameB p H H' := fun b o _ e => s b o e
theorem SameB.upd {p : Addr} {H H' : Hp} {o : HO} (s : SameB p H H') : SameB p H (upd H' p o) := fun b x n e => by
  rw [upd_ne n]
  exact s b x n e
theorem SameB.new {p q : Addr} {H H' : Hp} {o : HO} (h : H q = none) (s : SameB p H H') : SameB p H (L2.upd H' q o) := fun b x n e => by
  rw [upd_ne (ne_of_none e h)]
  exact s b x n e
theorem Pot.ne {H : Hp} {p q : Addr} (h : Pot H p) (n : H q = none) : q ≠ p := fun e => by
  obtain ⟨a, b, e1, _⟩ := h
  rw [← e, n] at e1
  cases e1
theorem SameB.none {p q : Addr} {H H1 : Hp} (s : SameB p H H1) (h : Pot H1 p) (n : H1 q = none) : H q = none := by
  cases e : H q with
  | none => rfl
  | some o =>
    rw [s q o (h.ne n) e] at n
    cases n
theorem Pot.upd {H : Hp} {p q : Addr} {o : HO} (h : Pot H p) (n : q ≠ p) : Pot (L2.upd H q o) p := by
  obtain ⟨a, b, e, r⟩ := h
  exact ⟨a, b, by rw [upd_ne n.symm]; exact e, r⟩
theorem Pot.mono {H H' : Hp} {p : Addr} (h : Pot H p) (s : Same H H') : Pot H' p := by
  obtain ⟨a, b, e, r⟩ := h
  exact ⟨a, b, s _ _ e, r⟩
theorem ne_of_pot {H : Hp} {p q : Addr} {o : HO} (h : Pot H p) (e : H q = some o) (n : ∀ a b : Int, o ≠ .lst [.int a, .int b] := by intros; nofun) : q ≠ p := by
  obtain ⟨a, b, ep, _⟩ := h
  exact ne_of e ep (n a b)
theorem sameB_new {p : Addr} {H H1 H2 : Hp} (n : H p = none) (s : Same H H1) (b : SameB p H1 H2) : Same H H2 := fun c o e => b c o (ne_of_none e n) (s c o e)

theorem lg_of {i : Int} (h : i.natAbs ≤ 10 ^ 60) : i.natAbs.log2 < 1920 := by
  rcases Nat.eq_zero_or_pos i.natAbs with z | z
  · rw [z]; decide
  · rw [Nat.log2_lt (by omega)]
    exact Nat.lt_of_le_of_lt h (by decide)
theorem tlen {i : Int} (h : i.natAbs.log2 < 1920) : (Str.ofString (toString i)).length ≤ 1921 := by
  rw [PySem.ofString_length]
  exact int_text_length_le (by decide) h
theorem same_made {H : Hp} {x dx C : Addr} {o : HO} (nx : H x = none) (nd : H dx = none) : Same H (upd (upd H dx (.own x)) x o) := fun b z e => by
  rw [upd_ne (ne_of_none e nx), upd_ne (ne_of_none e nd)]
  exact e

/-- a list of one own error with its field: facts of the class and its __init__ -/
structure Nx (K : PySem.W.Frag) (P : Program) (mg : Str → Option Value) (st : Stmt) (nm q fld : Str) (CN fN cc c : Addr) (fdN : FuncData) : Prop where
  sup : SupC K P mg CN cc (nfI st q cc c) (arI st)
  lk : LkI K (nfI st q cc c) fN fdN
  hno : PySem.W.findIn K (.ref CN) fld = some none
  ini : PySem.W.findIn K (.ref CN) "__init__" = some (some (.ref fN))
  tI : PySem.W.typeIn K (.ref fN) = some (.type "function")
  bd : L2.Binds K fdN ["self", fld] []
  gl : mg nm = some (.ref CN)
/-! ### isinstance, in an except suite, of an error of any class -/
section
variable {X : Cx} {a : Addr} {oe : Obj} {cls : Value} {d : Option Addr}
/-- the error's dict stands -/
def HasD (d : Option Addr) (H : Hp) : Prop := d = none ∨ ∃ (dd : Addr) (fs : List (Str × V)), d = some dd ∧ H dd = some (.xd fs)
theorem HasD.mono {H H' : Hp} (h : HasD d H) (s : Same H H') : HasD d H' := by
  rcases h with h | ⟨dd, fs, e, h⟩
  · exact .inl h
  · exact .inr ⟨dd, fs, e, s _ _ h⟩
theorem pinned_any {pins : List (Addr × Obj)} {σ : L2.St} {H : Hp} {s : Shared} {D : Addr} (I : Inv X pins σ H s) (hp : (a, oe) ∈ X.pn) (hz : Zc (.ref D) d oe)
    (hf : ∃ vs, oe.data = .fields vs) (hd : HasD d H) : ∃ od, PySem.W.InstAt s.heap a oe D od := by
  rcases hd with rfl | ⟨dd, fs, rfl, hd⟩
  · exact ⟨none, pinned_at I hp hz hf⟩
  · obtain ⟨od, h⟩ := pinned_dd I hp hz hf hd
    exact ⟨some od, h⟩
theorem call_isX (hp : (a, oe) ∈ X.pn) (hz : Zc cls d oe) (hf : ∃ vs, oe.data = .fields vs) :
    CallR X (.builtin "isinstance") (fun xs H Q => ∃ (D : Addr) (c : V) (cv : Value) (b : Bool), cls = .ref D ∧ ExcC X.K D ∧ HasD d H ∧ xs = [.ref a, c] ∧ ClsV c cv ∧ PySem.W.kitOne X.K (.ref D) cv = some b ∧ Q (.bl b) H) := by
  intro pins s σ H xs us Q I r h
  obtain ⟨D, c, cv, b, rfl, C, hd, rfl, hc, e, q⟩ := h
  obtain ⟨u1, u2, rfl, r1, r2⟩ := vals2 r
  have e2 := hc.eq r2
  subst e2
  cases r1
  obtain ⟨od, J⟩ := pinned_any I hp hz hf hd
  exact PySem.W.kia_one (PySem.W.kitx_exc (cls_some C.hd) C.hg C.hk C.hs C.ha C.hn C.ht C.hm) I.kIn J e (fun z => nomatch z)
    fun tk => ⟨.bl b, H, I.tok tk, rfl, q⟩
theorem call_isXT (hp : (a, oe) ∈ X.pn) (hz : Zc cls d oe) (hf : ∃ vs, oe.data = .fields vs) :
    CallR X (.builtin "isinstance") (fun xs H Q => ∃ (D : Addr) (tp : Addr) (cs : List V) (us : List Value) (b : Bool), cls = .ref D ∧ ExcC X.K D ∧ HasD d H ∧ xs = [.ref a, .ref tp] ∧ H tp = some (.tup cs) ∧ Paired ClsV cs us ∧
      PySem.W.kitAny X.K (.ref D) us = some b ∧ Q (.bl b) H) := by
  intro pins s σ H xs us Q I r h
  obtain ⟨D, tp, cs, ws, b, rfl, C, hd, rfl, hT, k, e, q⟩ := h
  obtain ⟨u1, u2, rfl, r1, r2⟩ := vals2 r
  cases r1
  cases (show u2 = Value.ref tp from r2)
  obtain ⟨_, its, rv, o, h1, h2, n, h3⟩ := (show ObjOk X.prog X.w H s.heap tp (.tup cs) from I.hok tp _ hT)
  have e3 := ClsV.all k rv
  subst e3
  obtain ⟨oc, od', dt, sl⟩ := o
  simp only at h2 h3
  subst h2 h3
  obtain ⟨od, J⟩ := pinned_any I hp hz hf hd
  exact PySem.W.kia_tup (PySem.W.kitx_exc (cls_some C.hd) C.hg C.hk C.hs C.ha C.hn C.ht C.hm) I.kIn J h1 e (fun z => nomatch z)
    fun tk => ⟨.bl b, H, I.tok tk, rfl, q⟩
end
section
variable {X : Cx} {a : Addr} {oe : Obj} {cls : Value} {d : Option Addr} {pn : List (Addr × Obj)}
def rIsX (K : PySem.W.Frag) (a : Addr) (cls : Value) (d : Option Addr) : List V → Hp → VK → Prop := fun xs H Q => ∃ (D : Addr) (c : V) (cv : Value) (b : Bool), cls = .ref D ∧ ExcC K D ∧ HasD d H ∧ xs = [.ref a, c] ∧ ClsV c cv ∧ PySem.W.kitOne K (.ref D) cv = some b ∧ Q (.bl b) H
def rIsXT (K : PySem.W.Frag) (a : Addr) (cls : Value) (d : Option Addr) : List V → Hp → VK → Prop := fun xs H Q => ∃ (D : Addr) (tp : Addr) (cs : List V) (us : List Value) (b : Bool), cls = .ref D ∧ ExcC K D ∧ HasD d H ∧ xs = [.ref a, .ref tp] ∧ H tp = some (.tup cs) ∧ Paired ClsV cs us ∧
      PySem.W.kitAny K (.ref D) us = some b ∧ Q (.bl b) H
theorem call_isS (hz : Zc cls d oe) (hf : ∃ vs, oe.data = .fields vs) : CallR (X.suite a ((a, oe) :: pn)) (.builtin "isinstance") (rIsX X.K a cls d) := call_isX (X := X.suite a ((a, oe) :: pn)) (a := a) (oe := oe) List.mem_cons_self hz hf
theorem call_isST (hz : Zc cls d oe) (hf : ∃ vs, oe.data = .fields vs) : CallR (X.suite a ((a, oe) :: pn)) (.builtin "isinstance") (rIsXT X.K a cls d) := call_isXT (X := X.suite a ((a, oe) :: pn)) (a := a) (oe := oe) List.mem_cons_self hz hf
end
/-! ### things of all sorts, with their data -/
inductive Th (H : Hp) : V → PyData → Prop
  | non : Th H .non .none
  | bl (b : Bool) : Th H (.bl b) (.bool b)
  | int (i : Int) : i.natAbs ≤ 10 ^ 61 → Th H (.int i) (.int i)
  | str (z : Str) : (PyData.str z).showable = true → (PyData.str z).shown.length ≤ 1921 → PyData.strOk (PyData.str z).shown = true → Th H (.str z) (.str z)
  | lst {a : Addr} (n : Int) : n.natAbs ≤ 10 ^ 61 → H a = some (.lst [.int n]) → Th H (.ref a) (.list [.int n])
  | tup {a : Addr} (n : Int) : n.natAbs ≤ 10 ^ 61 → H a = some (.tup [.int n]) → Th H (.ref a) (.tuple [.int n])
  | dk {a : Addr} : H a = some (.dK []) → Th H (.ref a) (.dict [])
theorem lg61 {i : Int} (h : i.natAbs ≤ 10 ^ 61) : i.natAbs.log2 < 1920 := by
  rcases Nat.eq_zero_or_pos i.natAbs with z | z
  · rw [z]; decide
  · rw [Nat.log2_lt (by omega)]
    exact Nat.lt_of_le_of_lt h (by decide)
theorem tlen61 {i : Int} (h : i.natAbs ≤ 10 ^ 61) : (Str.ofString (toString i)).length ≤ 204 := by
  rw [PySem.ofString_length]
  rcases Nat.eq_zero_or_pos i.natAbs with z | z
  · rw [show i = 0 by omega]; decide
  · have : i.natAbs.log2 < 203 := by
      rw [Nat.log2_lt (by omega)]
      exact Nat.lt_of_le_of_lt h (by decide)
    exact Nat.le_trans (int_text_length_le (k := 203) (by decide) this) (by decide)
theorem Th.monoB {H H' : Hp} {p : Addr} {v : V} {d : PyData} (h : Th H v d) (hp : Pot H p) (s : SameB p H H') : Th H' v d := by
  cases h with
  | non => exact .non
  | bl b => exact .bl b
  | int i hi => exact .int i hi
  | str z a b c => exact .str z a b c
  | lst n hn e => exact .lst n hn (s _ _ (ne_of_pot hp e) e)
  | tup n hn e => exact .tup n hn (s _ _ (ne_of_pot hp e) e)
  | dk e => exact .dk (s _ _ (ne_of_pot hp e) e)
theorem Th.mono {H H' : Hp} {v : V} {d : PyData} (h : Th H v d) (s : Same H H') : Th H' v d := by
  cases h with
  | non => exact .non
  | bl b => exact .bl b
  | int i hi => exact .int i hi
  | str z a b c => exact .str z a b c
  | lst n hn e => exact .lst n hn (s _ _ e)
  | tup n hn e => exact .tup n hn (s _ _ e)
  | dk e => exact .dk (s _ _ e)
theorem Th.upd {H : Hp} {th : Addr} {v : V} {d : PyData} {xs : List V} {o : HO} (h : Th H v d) (ht : H th = some (.lst xs)) (hl : xs.length ≠ 1) : Th (L2.upd H th o) v d := by
  cases h with
  | non => exact .non
  | bl b => exact .bl b
  | int i hi => exact .int i hi
  | str z a b c => exact .str z a b c
  | lst n hn e => exact .lst n hn (by rw [upd_ne (ne_of e ht (by intro z; cases z; exact hl rfl))]; exact e)
  | tup n hn e => exact .tup n hn (by rw [upd_ne (ne_of e ht (by intro z; cases z))]; exact e)
  | dk e => exact .dk (by rw [upd_ne (ne_of e ht (by intro z; cases z))]; exact e)
theorem Th.odd {H : Hp} {v : V} {d : PyData} (h : Th H v d) : Odd H v := by
  cases h with
  | non => exact .non
  | bl b => exact .bl b
  | int i hi => exact .int i
  | str z a b c => exact .str _
  | lst n hn e => exact .lst e
  | tup n hn e => exact .tup e
  | dk e => exact .dK e
theorem Th.sd {K : PySem.W.Frag} {H : Hp} {v : V} {d : PyData} (h : Th H v d) : Sd K H v d := by
  cases h with
  | non => exact .dp .non (by simp [PyData.hasDict])
  | bl b => exact .dp (.bl b) (by simp [PyData.hasDict])
  | int i hi => exact .dp (.int i) (by simp [PyData.hasDict])
  | str z a b c => exact .dp (.str _) (by simp [PyData.hasDict])
  | lst n hn e => exact .dp (.lst (SqL.of e) (.cons (.int n) .nil)) (by simp [PyData.hasDict, PyData.hasDictAll])
  | tup n hn e => exact .dp (.tup (SqT.of e) (.cons (.int n) .nil)) (by simp [PyData.hasDict, PyData.hasDictAll])
  | dk e => exact .ed e
theorem shown_one (n : Int) : (PyData.list [.int n]).shown = listText [Str.ofString (toString n)] ∧ (PyData.tuple [.int n]).shown = tupleText [Str.ofString (toString n)] := by
  constructor
  · simp only [PyData.shown, PyData.shownAll]
  · simp only [PyData.shown, PyData.shownAll]
theorem Th.fit {H : Hp} {v : V} {d : PyData} (h : Th H v d) : d.showable = true ∧ d.depth ≤ 1 ∧ d.shown.length ≤ 1921 := by
  cases h with
  | non => exact ⟨by simp [PyData.showable], by simp [PyData.depth], by decide +kernel⟩
  | bl b => cases b <;> exact ⟨by simp [PyData.showable], by simp [PyData.depth], by decide +kernel⟩
  | int i hi => exact ⟨by simpa [PyData.showable] using lg61 hi, by simp [PyData.depth], by simp only [PyData.shown]; exact Nat.le_trans (tlen61 hi) (by decide)⟩
  | str z a b c => exact ⟨a, by simp [PyData.depth], b⟩
  | lst n hn e =>
    refine ⟨by simpa [PyData.showable, PyData.showableAll] using lg61 hn, by simp [PyData.depth, PyData.depthAll], ?_⟩
    rw [(shown_one n).1]
    have := listText_len_le [Str.ofString (toString n)]
    have := tlen61 hn
    simp only [List.map_cons, List.map_nil, List.sum_cons, List.sum_nil, List.length_cons, List.length_nil] at *
    omega
  | tup n hn e =>
    refine ⟨by simpa [PyData.showable, PyData.showableAll] using lg61 hn, by simp [PyData.depth, PyData.depthAll], ?_⟩
    rw [(shown_one n).2]
    have := tupleText_len_le [Str.ofString (toString n)]
    have := tlen61 hn
    simp only [List.map_cons, List.map_nil, List.sum_cons, List.sum_nil, List.length_cons, List.length_nil] at *
    omega
  | dk e => exact ⟨by decide +kernel, by decide +kernel, by decide +kernel⟩
/-- three of them in a list -/
theorem fit3 {H : Hp} {a b c : V} {da db dc : PyData} (ha : Th H a da) (hb : Th H b db) (hc : Th H c dc) : (PyData.list [da, db, dc]).showable = true ∧ (PyData.list [da, db, dc]).depth ≤ 60 ∧ (PyData.list [da, db, dc]).shown.length ≤ sizeLine := by
  obtain ⟨a1, a2, a3⟩ := ha.fit
  obtain ⟨b1, b2, b3⟩ := hb.fit
  obtain ⟨c1, c2, c3⟩ := hc.fit
  refine ⟨by simp [PyData.showable, PyData.showableAll, a1, b1, c1], by simp only [PyData.depth, PyData.depthAll]; omega, ?_⟩
  have e := listText_len_le [da.shown, db.shown, dc.shown]
  simp only [List.map_cons, List.map_nil, List.sum_cons, List.sum_nil, List.length_cons, List.length_nil] at e
  have e2 : PyData.shown (.list [da, db, dc]) = listText [da.shown, db.shown, dc.shown] := by simp only [PyData.shown, PyData.shownAll]
  rw [e2, sizeLine_eq]
  omega
/-! ### xs.count(y), flat things -/
theorem count_eqU {x : V} : ∀ {xs : List V} {us : List Value}, Vals xs us → xs.all flatV = true → us.countP (eqU x) = xs.countP fun y => eqV y x
  | _, _, .nil, _ => rfl
  | y :: xs, u :: us, .cons r t, f => by
    rw [List.all_cons, Bool.and_eq_true] at f
    rw [List.countP_cons, List.countP_cons, eqU_of r f.1, count_eqU t f.2]
def rCntV (K : PySem.W.Frag) : V → List V → Hp → VK → Prop := fun x xs H Q => ∃ (p : Addr) (ys : List V) (y : V), x = .ref p ∧ xs = [y] ∧ SqL K H p ys ∧ flatV y = true ∧ ys.all flatV = true ∧ Q (.int (ys.countP fun z => eqV z y : Nat)) H
theorem mt_countV {X : Cx} : MtR X "list.count" (rCntV X.K) := by
  intro pins s σ H x xs v us Q I rx rxs h
  obtain ⟨p, ys, y, rfl, rfl, hs, fy, fs, q⟩ := h
  cases rx
  obtain ⟨u, rfl, ru⟩ := rxs.one
  obtain ⟨its, rv, ⟨⟨cls, dd, data, sl⟩, n, ho, hc, hdn, hd⟩, hlen⟩ := I.list hs
  simp only at hc hd
  subst hc hd
  refine call_meets PySem.F.slot_list_count ⟨_, ho, rfl⟩ PySem.F.entry_list_count (PySem.F.args_list_count_2 _ _)
    (SeqAt.list_countAt p its.toArray n dd sl u (eqU y)) ⟨ho, fun z hz => mem_eqAt ru fy rv fs z (by simpa using hz), ?_⟩
  have ec : its.toArray.toList.countP (eqU y) = ys.countP fun z => eqV z y := count_eqU rv fs
  refine ⟨.int (ys.countP fun z => eqV z y : Nat), H, I.tok _, ⟨s.toks, ?_⟩, q⟩
  show Value.int ((its.toArray.toList.countP (eqU y) : Nat) : Int) s.toks = _
  rw [ec]
/-- xs.count(y) in an except suite -/
theorem pe_countS {X : Cx} {a : Addr} {oe : Obj} {pn : List (Addr × Obj)} {o e : Expr} {to : TE} {t : TA} {apos cpos : Pos} (ho : PE (X.suite a ((a, oe) :: pn)) o to) (ha : PA (X.suite a ((a, oe) :: pn)) [e] t)
    (hbase : attributeBase o "count" X.env (eval o X.env) = eval o X.env := by rfl)
    (hfew : ((backTo cpos (starEach [e] X.env)).all (fun x => !x.1) && (backToKw cpos (keywordEach [] X.env)).all (fun x => x.1.isSome)
      && decide (([e] : List Expr).length + ([] : List Keyword).length + (if ([] : List Keyword).isEmpty then 0 else 1) < 30)) = true := by rfl)
    (hline : (apos.endLine == cpos.line) = true := by rfl) (hs : starEach [e] X.env = (false, eval e X.env) :: starEach [] X.env := by rfl) (hplain : (backTo cpos (starEach [] X.env)).any (·.1) = false := by rfl) :
    PE (X.suite a ((a, oe) :: pn)) (.Call (.Attribute o "count" apos) [e] [] cpos) (tBM X.K "list" (rCntV X.K) to t) :=
  pe_bm (X := X.suite a ((a, oe) :: pn)) PySem.F.plainAttrs_list PySem.F.slot_list_count PySem.F.type_list_count (mt_countV (X := X.suite a ((a, oe) :: pn))) ho ha hbase hfew hline hs hplain
theorem ix_listS {X : Cx} {a : Addr} {oe : Obj} {pn : List (Addr × Obj)} : IxR (X.suite a ((a, oe) :: pn)) (rIxL X.K) := ix_list (X := X.suite a ((a, oe) :: pn))
end LT

set_option Elab.async false
set_option linter.all false
set_option maxRecDepth 100000
set_option maxHeartbeats 1600000
/-! Own layer: sum(d.values()); names; stores (a dict from names to weights). -/
namespace LT
open PySem PySem.Spec PyProof.Rows L2 NdefX
/-! ### sum(d.values()) -/
theorem preSum_take (is : List Int) : ∀ n, preSum (fun i => is.getD i 0) n = (is.take n).sum
  | 0 => by simp [preSum]
  | n + 1 => by
    rw [preSum, preSum_take is n, List.take_add_one, List.sum_append, List.getD_eq_getElem?_getD]
    cases is[n]? with
    | none => simp
    | some x => simp
def tSumVals (td : TE) : TE := fun σ H Q => td σ H fun x H1 => ∃ (a : Addr) (kvs : List (Key × V)) (is : List Int), x = V.ref a ∧ H1 a = some (.dK kvs) ∧ kvs.map (·.2) = is.map V.int ∧ Q (.int is.sum) H1
theorem pe_sumVals {X : Cx} {o : Expr} {p pos apos mpos : Pos} {td : TE} (hc : X.calm = true) (hg : Gl X "sum") (hm : X.mg "sum" = none) (hd : PE X o td) (hbase : attributeBase o "values" X.env (eval o X.env) = eval o X.env := by rfl) (hline : (apos.endLine == mpos.line) = true := by rfl)
    (hse : starEach [Expr.Call (.Attribute o "values" apos) [] [] mpos] X.env = [(false, eval (Expr.Call (.Attribute o "values" apos) [] [] mpos) X.env)] := by rfl) :
    PE X (.Call (.Name "sum" p) [.Call (.Attribute o "values" apos) [] [] mpos] [] pos) (tSumVals td) := by
  refine ⟨fun pins s σ H Q I h => ?_⟩
  refine wpAny_Call_Name_kw (ld_blt I hg hm (u := .builtin "sum") (by first | rfl | decide +kernel) ?_ (by first | decide +kernel | decide) (by first | decide +kernel | decide))
  rw [hse]
  refine PySem.callWith_builtin1 (wpAny_Call_method0_late hbase hline (thn (hd.run pins s σ H _ I h) fun v s1 ⟨x, H1, I1, r1, a, kvs, is, ex, ha, hv, q⟩ => ?_))
  subst ex
  obtain rfl : v = Value.ref a := r1
  obtain ⟨_, hsys, vs, rel, dof⟩ := dk_of I1.hok ha
  obtain ⟨ep, dat⟩ := dof.dictAt
  have dat' := dat
  obtain ⟨ob, es, ho, ex, hdat, hko, hpr, hnd⟩ := dat'
  refine ⟨"dict", "dict.values", F.plainAttrs_dict, F.slot_dict_values, F.type_dict_values, ⟨ob, ho, ex.1⟩, fun b e => ?_, Calls.callWith_builtin rfl (PySem.evalArgs_none ?_)⟩
  · cases e
    exact ⟨ob, ho, ex.2.1⟩
  refine call_meetsIn F.slot_dict_values ⟨ob, ho, ex.1⟩ F.entry_dict_values (F.args_dict_values_1 _) (meets_dict_values (mixKind X.prog X.w) a hsys) ⟨⟨vs, dof⟩, ?_⟩
  have k1 : ∀ b u, s1.heap.get? b = some u → (s1.heap.push { cls := .type "dict_values", data := .fields #[.ref a] }).get? b = some u := fun b u e => Heap.get?_push_of_some _ e
  have dat1 : (s1.heap.push { cls := .type "dict_values", data := .fields #[.ref a] }).DictAt (mixKind X.prog X.w) a vs ep := dat.keep k1
  have hlv : vs.length = is.length := by
    have e1 := congrArg List.length hv
    rw [List.length_map, List.length_map] at e1
    rw [← e1]
    exact (KV.length rel).symm
  have hval : ∀ (i : Nat) (v : Value), (∃ k, vs[i]? = some (k, v)) → ∃ t, v = Value.int (is.getD i 0) t := fun i v ⟨k, hk⟩ => by
    obtain ⟨x, h1, h2⟩ := KV.at' rel hk
    have e1 : (kvs.map (·.2))[i]? = some x := by rw [List.getElem?_map, h1] <;> rfl
    rw [hv, List.getElem?_map] at e1
    obtain ⟨j, hj, e2⟩ := Option.map_eq_some_iff.mp e1
    subst e2
    obtain ⟨t, e3⟩ := h2
    refine ⟨t, ?_⟩
    rw [e3, List.getD_eq_getElem?_getD, hj] <;> rfl
  refine call_sum_walkG (wpAny_pyIter_values (v := s1.heap.objs.size) (d := a) ⟨_, Heap.get?_push_size _ rfl, rfl, rfl⟩ dat1 ?_)
  have hlt : a < s1.heap.objs.size := Heap.lt_size ho
  have hsz : (s1.heap.push { cls := .type "dict_values", data := .fields #[.ref a] }).objs.size = s1.heap.objs.size + 1 := Heap.size_push _ _
  refine ⟨_, _, _, _, _, _, (fun i => is.getD i 0), rfl, Walks.dictValues (knd := mixKind X.prog X.w) (A := X.A.in1) (I.ok.hd hc) (s1.heap.push { cls := .type "dict_values", data := .fields #[.ref a] }).objs.size a (by rw [hsz]; exact Nat.ne_of_lt (Nat.lt_succ_of_lt hlt)) vs ep,
    ⟨⟨_, Heap.get?_push_size _ rfl, rfl, rfl⟩, dat1.keep fun b u e => Heap.get?_push_of_some _ e⟩, fun b hb => ?_, hval, fun h' tk t' hk => ?_⟩
  · show b < ((s1.heap.push _).push _).objs.size
    rw [Heap.size_push, Heap.size_push]
    rw [hsz] at hb
    rcases List.mem_cons.mp hb with e | hb
    · rw [e]
      exact Nat.lt_succ_self _
    · have e : b = a := List.mem_singleton.mp hb
      rw [e]
      exact Nat.lt_succ_of_lt (Nat.lt_succ_of_lt hlt)
  · have es : preSum (fun i => is.getD i 0) vs.length = is.sum := by rw [preSum_take, hlv, List.take_length]
    rw [es]
    refine ⟨.int _, H1, I1.kept (t' := tk) fun b u e => hk b u (fun hmem => ?_) (Heap.get?_push_of_some _ (k1 b u e)), ⟨_, rfl⟩, q⟩
    have e1 : b = (s1.heap.push { cls := .type "dict_values", data := .fields #[.ref a] }).objs.size := List.mem_singleton.mp hmem
    have e2 := Heap.lt_size e
    rw [hsz] at e1
    rw [e1] at e2
    exact absurd e2 (Nat.not_lt.mpr (Nat.le_succ _))
/-! ### names -/
def small (c : Nat) : Bool := decide (97 ≤ c) && decide (c ≤ 122)
def nameB : V → Bool
  | .str z => decide (1 ≤ z.length) && decide (z.length ≤ 8) && z.cps.toList.all small
  | _ => false
theorem letters : (Str.ofString "abcdefghijklmnopqrstuvwxyz").cps.toList = List.range' 97 26 := by decide +kernel
theorem small_mem (c : Nat) : decide (c ∈ (Str.ofString "abcdefghijklmnopqrstuvwxyz").cps.toList) = small c := by
  rw [letters]
  unfold small
  rw [Bool.eq_iff_iff, decide_eq_true_iff, List.mem_range'_1, Bool.and_eq_true, decide_eq_true_iff, decide_eq_true_iff]
  omega
theorem take_more {α β : Type} (f : α → β) {xs : List α} {i : Nat} {x : α} (h : xs[i]? = some x) : (xs.take i).map f ++ [f x] = (xs.take (i + 1)).map f := by
  rw [List.take_add_one, h, List.map_append]
  rfl
theorem joinL_nil : ∀ l : List (List Nat), TL.joinL [] l = l.flatten
  | [] => rfl
  | [p] => by simp [TL.joinL]
  | p :: q :: r => by
    show p ++ ([] ++ TL.joinL [] (q :: r)) = _
    rw [joinL_nil (q :: r)]
    rfl
theorem join_codes (ys : List Str) : (Txt.join (Str.ofString "") ys).cps.toList = (ys.map fun y => y.cps.toList).flatten := by
  rw [TL.join_eq]
  have h := TL.tl_join (Str.ofString "") ys
  have e : TL.tl (Str.ofString "") = [] := by decide +kernel
  rw [e, joinL_nil] at h
  exact h
theorem flat_len : ∀ (ys : List Str), (∀ y ∈ ys, y.length = 1) → (ys.map fun y => y.cps.toList).flatten.length = ys.length
  | [], _ => rfl
  | y :: ys, h => by
    rw [List.map_cons, List.flatten_cons, List.length_append, flat_len ys fun z hz => h z (List.mem_cons_of_mem _ hz), Array.length_toList, List.length_cons]
    have : y.cps.size = 1 := h y List.mem_cons_self
    omega
theorem sum_len : ∀ (ys : List Str), (∀ y ∈ ys, y.length = 1) → (ys.map fun y => y.length).sum = ys.length
  | [], _ => rfl
  | y :: ys, h => by
    rw [List.map_cons, List.sum_cons, sum_len ys fun z hz => h z (List.mem_cons_of_mem _ hz), h y List.mem_cons_self, List.length_cons]
    omega
/-- a name -/
structure Nm (z : Str) : Prop where
  l1 : 1 ≤ z.length
  l8 : z.length ≤ 8
  al : ∀ c ∈ z.cps.toList, small c = true
theorem Nm.b {z : Str} (h : Nm z) : nameB (.str z) = true := by
  show (decide (1 ≤ z.length) && decide (z.length ≤ 8) && z.cps.toList.all small) = true
  rw [decide_eq_true h.l1, decide_eq_true h.l8, List.all_eq_true.mpr h.al]
  rfl
/-! ### stores -/
def sd (kvs : List (Str × Int)) : List (Key × V) := kvs.map fun p => (Sum.inr p.1, V.int p.2)
def wsum (kvs : List (Str × Int)) : Int := (kvs.map (·.2)).sum
structure Kv (kvs : List (Str × Int)) : Prop where
  nd : (kvs.map (·.1)).Nodup
  nm : ∀ p ∈ kvs, Nm p.1
  w1 : ∀ p ∈ kvs, 1 ≤ p.2
  w2 : ∀ p ∈ kvs, p.2 ≤ 10 ^ 70
theorem sd_vals (kvs : List (Str × Int)) : (sd kvs).map (·.2) = (kvs.map (·.2)).map V.int := by
  unfold sd
  rw [List.map_map, List.map_map]
  rfl
theorem sd_keys (kvs : List (Str × Int)) : (sd kvs).map (·.1) = (kvs.map (·.1)).map Sum.inr := by
  unfold sd
  rw [List.map_map, List.map_map]
  rfl
theorem sd_len (kvs : List (Str × Int)) : (sd kvs).length = kvs.length := List.length_map ..
def putS (kvs : List (Str × Int)) (z : Str) (w : Int) : List (Str × Int) := if z ∈ kvs.map (·.1) then kvs.map fun p => if p.1 = z then (p.1, w) else p else kvs ++ [(z, w)]
theorem put_sd (kvs : List (Str × Int)) (z : Str) (w : Int) : putK (sd kvs) (Sum.inr z) (V.int w) = sd (putS kvs z w) := by
  have e : ((sd kvs).any fun kv => decide (kv.1 = (Sum.inr z : Key))) = decide (z ∈ kvs.map (·.1)) := by
    rw [Bool.eq_iff_iff, List.any_eq_true, decide_eq_true_iff]
    unfold sd
    constructor
    · rintro ⟨kv, hkv, hk⟩
      obtain ⟨p, hp, rfl⟩ := List.mem_map.mp hkv
      have := of_decide_eq_true hk
      exact List.mem_map.mpr ⟨p, hp, Sum.inr.inj this⟩
    · intro h
      obtain ⟨p, hp, rfl⟩ := List.mem_map.mp h
      exact ⟨_, List.mem_map.mpr ⟨p, hp, rfl⟩, decide_eq_true rfl⟩
  unfold putK putS
  rw [e]
  by_cases h : z ∈ kvs.map (·.1)
  · rw [decide_eq_true h, if_pos rfl, if_pos h]
    unfold sd
    rw [List.map_map, List.map_map]
    refine List.map_congr_left fun p hp => ?_
    show (if (Sum.inr p.1 : Key) = Sum.inr z then _ else _) = _
    by_cases hz : p.1 = z
    · rw [if_pos (by rw [hz])]
      show _ = ((Sum.inr (if p.1 = z then (p.1, w) else p).1 : Key), V.int (if p.1 = z then (p.1, w) else p).2)
      rw [if_pos hz]
    · rw [if_neg (fun e => hz (Sum.inr.inj e))]
      show _ = ((Sum.inr (if p.1 = z then (p.1, w) else p).1 : Key), V.int (if p.1 = z then (p.1, w) else p).2)
      rw [if_neg hz]
  · rw [decide_eq_false h, if_neg Bool.false_ne_true, if_neg h]
    unfold sd
    rw [List.map_append]
    rfl
theorem Kv.put {kvs : List (Str × Int)} {z : Str} {w : Int} (h : Kv kvs) (hz : Nm z) (h1 : 1 ≤ w) (h2 : w ≤ 10 ^ 70) : Kv (putS kvs z w) ∧ (putS kvs z w).length ≤ kvs.length + 1 := by
  unfold putS
  by_cases hm : z ∈ kvs.map (·.1)
  · rw [if_pos hm]
    have ek : (kvs.map fun p => if p.1 = z then (p.1, w) else p).map (·.1) = kvs.map (·.1) := by
      rw [List.map_map]
      refine List.map_congr_left fun p _ => ?_
      show (if p.1 = z then (p.1, w) else p).1 = p.1
      split <;> rfl
    have mem : ∀ q ∈ (kvs.map fun p => if p.1 = z then (p.1, w) else p), (∃ p ∈ kvs, q.1 = p.1) ∧ (q.2 = w ∨ q ∈ kvs) := by
      intro q hq
      obtain ⟨p, hp, rfl⟩ := List.mem_map.mp hq
      by_cases e : p.1 = z
      · rw [if_pos e]
        exact ⟨⟨p, hp, rfl⟩, .inl rfl⟩
      · rw [if_neg e]
        exact ⟨⟨p, hp, rfl⟩, .inr hp⟩
    refine ⟨⟨by rw [ek]; exact h.nd, fun q hq => ?_, fun q hq => ?_, fun q hq => ?_⟩, by rw [List.length_map]; omega⟩
    · obtain ⟨⟨p, hp, e⟩, _⟩ := mem q hq
      rw [e]
      exact h.nm p hp
    · rcases (mem q hq).2 with e | e
      · omega
      · exact h.w1 q e
    · rcases (mem q hq).2 with e | e
      · omega
      · exact h.w2 q e
  · rw [if_neg hm]
    refine ⟨⟨?_, fun q hq => ?_, fun q hq => ?_, fun q hq => ?_⟩, by rw [List.length_append]; exact Nat.le_refl _⟩
    · rw [List.map_append]
      refine List.nodup_append.mpr ⟨h.nd, by simp, fun a ha b hb e => ?_⟩
      have e2 : b = z := by simpa using hb
      rw [e, e2] at ha
      exact hm ha
    · rcases List.mem_append.mp hq with e | e
      · exact h.nm q e
      · rw [List.mem_singleton.mp e]; exact hz
    · rcases List.mem_append.mp hq with e | e
      · exact h.w1 q e
      · rw [List.mem_singleton.mp e]; exact h1
    · rcases List.mem_append.mp hq with e | e
      · exact h.w2 q e
      · rw [List.mem_singleton.mp e]; exact h2
theorem Kv.nil : Kv [] := ⟨List.nodup_nil, (fun _ h => nomatch h), (fun _ h => nomatch h), (fun _ h => nomatch h)⟩
theorem wsum_nonneg : ∀ {kvs : List (Str × Int)}, (∀ p ∈ kvs, 1 ≤ p.2) → 0 ≤ wsum kvs
  | [], _ => Int.le_refl _
  | p :: r, h => by
    have := wsum_nonneg (kvs := r) fun q hq => h q (List.mem_cons_of_mem _ hq)
    have := h p List.mem_cons_self
    unfold wsum at *
    rw [List.map_cons, List.sum_cons]
    omega
theorem wsum_le : ∀ {kvs : List (Str × Int)}, (∀ p ∈ kvs, p.2 ≤ 10 ^ 70) → wsum kvs ≤ kvs.length * 10 ^ 70
  | [], _ => Int.le_refl _
  | p :: r, h => by
    have := wsum_le (kvs := r) fun q hq => h q (List.mem_cons_of_mem _ hq)
    have := h p List.mem_cons_self
    unfold wsum at *
    rw [List.map_cons, List.sum_cons, List.length_cons]
    omega
/-- stores, None as none -/
inductive StV (H : Hp) : V → Int → Prop
  | non : StV H .non 0
  | dict {d : Addr} {kvs : List (Str × Int)} : H d = some (.dK (sd kvs)) → Kv kvs → kvs.length ≤ 8 → StV H (.ref d) (wsum kvs)
theorem StV.mono {H H' : Hp} {v : V} {k : Int} (h : StV H v k) (s : Same H H') : StV H' v k := by
  cases h with
  | non => exact .non
  | dict e k l => exact .dict (s _ _ e) k l
theorem StV.bd {H : Hp} {v : V} {k : Int} (h : StV H v k) : 0 ≤ k ∧ k ≤ 10 ^ 71 := by
  cases h with
  | non => exact ⟨by omega, by omega⟩
  | dict e k l =>
    have := wsum_nonneg k.w1
    have := wsum_le k.w2
    constructor
    · omega
    · omega
/-- d != {} -/
def rNeE : R2 := fun x y H Q => ∃ (a b : Addr) (ks : List (Key × V)), x = .ref a ∧ y = .ref b ∧ H a = some (.dK ks) ∧ H b = some (.dK []) ∧ Q (.bl (!ks.isEmpty)) H
theorem op_neE {X : Cx} (hu : X.A.units < cLine) : OpR X (compareOp .NotEq) rNeE := by
  intro pins s σ H x y v u Q I rx ry h
  obtain ⟨a, b, ks, rfl, rfl, ea, eb, q⟩ := h
  obtain rfl : v = Value.ref a := rx
  obtain rfl : u = Value.ref b := ry
  obtain ⟨_, ya, va, ra, da⟩ := (show ObjOk X.prog X.w H s.heap a (.dK ks) from I.hok a _ ea)
  obtain ⟨_, yb, vb, rb, db⟩ := (show ObjOk X.prog X.w H s.heap b (.dK []) from I.hok b _ eb)
  have l1 : va.length = ks.length := ra.length.symm
  have l2 : vb.length = 0 := by
    have := rb.length
    simpa using this.symm
  refine PySem.W.keq_ne (knd := mixKind X.prog X.w) (r := true) ya yb da db hu (fun hl => ?_) (fin_bl I q ?_)
  · have : ks = [] := List.length_eq_zero_iff.mp (by omega)
    subst this
    exact hits_all rb ra fun p hp => nomatch hp
  · rw [l1, l2]
    cases ks <;> simp
end LT

set_option Elab.async false
set_option linter.all false
set_option maxRecDepth 100000
namespace K32
open PySem PySem.Spec PyProof.Rows L2 LT
def topS (i : Nat) : Stmt := PySem.Challenge.pw_lightturns_k32_goings_barred.main.body.getD i (.Pass ⟨0, 0, 0, 0⟩)
abbrev s_NoBoat___init__ : Stmt := inClass (topS 4) 0
abbrev s_is_name : Stmt := topS 9
abbrev s_is_whole : Stmt := topS 11
abbrev s_is_from : Stmt := topS 12
abbrev s_Boat___init__ : Stmt := inClass (topS 15) 0
abbrev s_Boat_seats : Stmt := inClass (topS 15) 1
abbrev s_Boat_carries : Stmt := inClass (topS 15) 2
abbrev s_Boat_man : Stmt := inClass (topS 15) 3
abbrev s_barred : Stmt := topS 16
abbrev s_room_of : Stmt := topS 17
abbrev s_weight_out : Stmt := topS 18
abbrev s_check_wanted : Stmt := topS 19
abbrev s_are_stores : Stmt := topS 20
abbrev s__law_cell : Stmt := topS 22
abbrev s__law_pot : Stmt := topS 23
abbrev s__law_take : Stmt := topS 24
abbrev s__law_far : Stmt := topS 25
abbrev s__law_number : Stmt := topS 26
abbrev s__law_boat : Stmt := topS 27
abbrev s__law_name : Stmt := topS 28
abbrev s__law_stores : Stmt := topS 29
abbrev s__law_room : Stmt := topS 30
abbrev s__law_men : Stmt := topS 31
abbrev s__law_filled : Stmt := topS 32
abbrev s__law_due : Stmt := topS 33
abbrev s__law_told : Stmt := topS 34
abbrev s__law_right : Stmt := topS 35
abbrev s_law : Stmt := topS 36
end K32

set_option Elab.async false
set_option linter.all false
set_option maxRecDepth 100000
set_option maxHeartbeats 1600000
namespace K32
open PySem PySem.Spec PyProof.Rows L2 LT NdefX
theorem scWhole : FnScope ["thing"] ["thing"] (defScope s_is_whole) := ⟨rfl, rfl, rfl, by decide +kernel, rfl, by decide +kernel, by decide +kernel⟩
theorem scFrom : FnScope ["thing", "least"] ["thing", "least"] (defScope s_is_from) := ⟨rfl, rfl, rfl, by decide +kernel, rfl, by decide +kernel, by decide +kernel⟩
theorem scIs : FnScope ["thing", "letter"] ["thing"] (defScope s_is_name) := ⟨rfl, rfl, rfl, by decide +kernel, rfl, by decide +kernel, by decide +kernel⟩
theorem scInit : FnScope ["self", "seats", "carries", "man"] ["self", "seats", "carries", "man"] (defScope s_Boat___init__) := ⟨rfl, rfl, rfl, by decide +kernel, rfl, by decide +kernel, by decide +kernel⟩
theorem scSeats : FnScope ["self"] ["self"] (defScope s_Boat_seats) := ⟨rfl, rfl, rfl, by decide +kernel, rfl, by decide +kernel, by decide +kernel⟩
theorem scCarries : FnScope ["self"] ["self"] (defScope s_Boat_carries) := ⟨rfl, rfl, rfl, by decide +kernel, rfl, by decide +kernel, by decide +kernel⟩
theorem scMan : FnScope ["self"] ["self"] (defScope s_Boat_man) := ⟨rfl, rfl, rfl, by decide +kernel, rfl, by decide +kernel, by decide +kernel⟩
theorem scRoom : FnScope ["boat"] ["boat"] (defScope s_room_of) := ⟨rfl, rfl, rfl, by decide +kernel, rfl, by decide +kernel, by decide +kernel⟩
theorem scWt : FnScope ["boat", "out", "stores"] ["boat", "out", "stores"] (defScope s_weight_out) := ⟨rfl, rfl, rfl, by decide +kernel, rfl, by decide +kernel, by decide +kernel⟩
theorem scCw : FnScope ["out", "back", "stores"] ["out", "back", "stores"] (defScope s_check_wanted) := ⟨rfl, rfl, rfl, by decide +kernel, rfl, by decide +kernel, by decide +kernel⟩
theorem scSt : FnScope ["thing", "name", "weight"] ["thing"] (defScope s_are_stores) := ⟨rfl, rfl, rfl, by decide +kernel, rfl, by decide +kernel, by decide +kernel⟩
def spWhole : Sp := fun vs H Q _ => ∃ v, vs = [v] ∧ Odd H v ∧ Q (.bl (wholeB v)) H
def spFrom : Sp := fun vs H Q _ => ∃ v l, vs = [v, .int l] ∧ Odd H v ∧ Q (.bl (fromB v l)) H
theorem ps_no {X : Cx} {st : Stmt} : PS X st (fun _ _ _ => False) := ⟨fun _ _ _ _ _ _ h => h.elim⟩
theorem small1000 {n : Nat} (h : n ≤ 1000) : n < sizeLine := by rw [sizeLine_eq]; omega
theorem all_true (bs : List Bool) (h : ∀ b ∈ bs, b = true) : bs.all id = true := by
  rw [List.all_eq_true]
  exact fun b hb => h b hb
section
variable {P : Program} {w : World} {K : PySem.W.Frag} {mg : Str → Option Value} {base : Heap}
theorem ok_whole {f : Addr} {fd : FuncData} {k : Nat} (F : Fun K "is_whole" "is_whole" s_is_whole f fd) (T : Tx mg) : FnOk P w K mg base CX0 (k + 1) f fd ["thing"] spWhole := by
  refine F.ok scWhole (fun vs H Q E h => ?_) (fun cdv A outer s H vs Q E hr h => ?_)
  · obtain ⟨v, rfl, _⟩ := h
    rfl
  · obtain ⟨v, rfl, hv, q⟩ := h
    refine ⟨_, pss_one (ps_ret (pe_and (pe_callB call_isi (by rfl) T.isi (by decide +kernel) (pa_cons (pv 0) (pa_cons (pe_bltn (v := .ty "int") (by rfl) T.int (by decide +kernel) rfl) pa_nil)))
      (pe_one (pe_not (pe_callB call_isi (by rfl) T.isi (by decide +kernel) (pa_cons (pv 0) (pa_cons (pe_bltn (v := .ty "bool") (by rfl) T.bool (by decide +kernel) rfl) pa_nil))))))), ?_⟩
    obtain ⟨t, ty, k1, k2⟩ := hv.ty (K := K)
    refine ⟨_, rfl, v, .ty "int", t, _, isInt v, rfl, .ty _, ty, k1, _, rfl, ?_⟩
    rw [← whole_eq v] at q
    cases hb : isInt v with
    | false =>
      rw [hb] at q
      exact q
    | true =>
      rw [hb] at q
      exact ⟨_, rfl, v, .ty "bool", t, _, isBl v, rfl, .ty _, ty, k2, _, rfl, q⟩
theorem ok_from {f fW : Addr} {fd fdW : FuncData} {k : Nat} (F : Fun K "is_from" "is_from" s_is_from f fd) (T : Tx mg) (FW : Has K mg "is_whole" ["thing"] s_is_whole fW fdW) : FnOk P w K mg base CX0 (k + 2) f fd ["thing", "least"] spFrom := by
  have GW : FnOk P w K mg base CX0 (k + 1) fW fdW ["thing"] spWhole := ok_whole FW.fn T
  refine F.ok scFrom (fun vs H Q E h => ?_) (fun cdv A outer s H vs Q E hr h => ?_)
  · obtain ⟨v, l, rfl, _⟩ := h
    rfl
  · obtain ⟨v, l, rfl, hv, q⟩ := h
    refine ⟨_, pss_one (ps_ret (pe_and (pe_call GW hr (by rfl) FW.gl FW.fn.kp FW.bd .nil pass0 (pa_cons (pv 0) pa_nil)) (pe_one (pe_cmpR op_ge (pv 0) (pv 1) (nomark _))))), ?_⟩
    refine ⟨_, rfl, v, rfl, hv, _, rfl, ?_⟩
    cases hv with
    | int i => exact ⟨_, rfl, _, rfl, i, l, rfl, rfl, q⟩
    | _ => exact q
/-! ### Boat -/
structure Ct (K : PySem.W.Frag) (mg : Str → Option Value) (C : Addr) : Prop where
  cl : Cls K C
  nS : PySem.W.findIn K (.ref C) "many_seats" = some none
  nW : PySem.W.findIn K (.ref C) "most_weight" = some none
  nM : PySem.W.findIn K (.ref C) "man_weight" = some none
  mgC : mg "Boat" = some (.ref C)
  kC : PySem.W.keepIn K (.ref C) = true
def bf (s c m : V) : List (Str × V) := [("many_seats", s), ("most_weight", c), ("man_weight", m)]
def spInit (C : Addr) : Sp := fun vs H Q _ => ∃ (x dx : Addr) (s c m : Int), vs = [.ref x, .int s, .int c, .int m] ∧ H x = some (.ins C dx []) ∧ 1 ≤ s ∧ 1 ≤ c ∧ 1 ≤ m ∧ Q .non (upd H x (.ins C dx (bf (.int s) (.int c) (.int m))))
theorem ok_init {f fF fW C : Addr} {fd fdF fdW : FuncData} {k : Nat} (F : Fun K "__init__" "Boat.__init__" s_Boat___init__ f fd) (T : Tx mg) (Z : Ct K mg C)
    (FF : Has K mg "is_from" ["thing", "least"] s_is_from fF fdF) (FW : Has K mg "is_whole" ["thing"] s_is_whole fW fdW) : FnOk P w K mg base CX0 (k + 3) f fd ["self", "seats", "carries", "man"] (spInit C) := by
  have GF : FnOk P w K mg base CX0 (k + 2) fF fdF ["thing", "least"] spFrom := ok_from FF.fn T FW
  refine F.ok scInit (fun vs H Q E h => ?_) (fun cdv A outer s H vs Q E hr h => ?_)
  · obtain ⟨x, dx, s, c, m, rfl, _⟩ := h
    rfl
  · obtain ⟨x, dx, sv, cv, mv, rfl, hx, hs, hc, hm, q1⟩ := h
    refine ⟨_, pss_cons (ps_if (pt_not (pt_val (pe_call GF hr (by rfl) FF.gl FF.fn.kp FF.bd .nil pass0 (pa_cons (pv 1) (pa_cons pe_int pa_nil))))) (pss_one ps_no) pss_nil)
      (pss_cons (ps_if (pt_not (pt_val (pe_call GF hr (by rfl) FF.gl FF.fn.kp FF.bd .nil pass0 (pa_cons (pv 2) (pa_cons pe_int pa_nil))))) (pss_one ps_no) pss_nil)
      (pss_cons (ps_if (pt_not (pt_val (pe_call GF hr (by rfl) FF.gl FF.fn.kp FF.bd .nil pass0 (pa_cons (pv 3) (pa_cons pe_int pa_nil))))) (pss_one ps_no) pss_nil)
      (pss_cons (ps_fld (pv 0) (pv 1) rfl) (pss_cons (ps_fld (pv 0) (pv 2) rfl) (pss_one (ps_fld (pv 0) (pv 3) rfl)))))), ?_⟩
    refine ⟨_, rfl, .int sv, 1, rfl, .int sv, _, rfl, ?_⟩
    rw [show fromB (.int sv) 1 = true from decide_eq_true hs]
    refine ⟨_, rfl, .int cv, 1, rfl, .int cv, _, rfl, ?_⟩
    rw [show fromB (.int cv) 1 = true from decide_eq_true hc]
    refine ⟨_, rfl, .int mv, 1, rfl, .int mv, _, rfl, ?_⟩
    rw [show fromB (.int mv) 1 = true from decide_eq_true hm]
    refine ⟨_, rfl, _, rfl, x, C, dx, _, rfl, hx, Z.cl, Z.nS, (by decide), ?_⟩
    refine ⟨_, rfl, _, rfl, x, C, dx, _, rfl, upd_same, Z.cl, Z.nW, (by show 1 < 1000; decide), ?_⟩
    refine ⟨_, rfl, _, rfl, x, C, dx, _, rfl, upd_same, Z.cl, Z.nM, (by show 2 < 1000; decide), ?_⟩
    rw [upd_upd, upd_upd]
    exact q1
/-- a method that tells a field -/
def spGet (C : Addr) (g : V → V → V → V) : Sp := fun vs H Q _ => ∃ x dx s c m, vs = [.ref x] ∧ H x = some (.ins C dx (bf s c m)) ∧ Q (g s c m) H
theorem ok_seats {f : Addr} {fd : FuncData} {k : Nat} (F : Fun K "seats" "Boat.seats" s_Boat_seats f fd) (Z : Ct K mg C) : FnOk P w K mg base CX0 (k + 1) f fd ["self"] (spGet C fun s _ _ => s) := by
  refine F.ok scSeats (fun vs H Q E h => ?_) (fun cdv A outer s H vs Q E hr h => ?_)
  · obtain ⟨x, dx, s, c, m, rfl, _⟩ := h
    rfl
  · obtain ⟨x, dx, s, c, m, rfl, hx, q⟩ := h
    exact ⟨_, pss_one (ps_ret (pe_fld (pv 0) rfl)), _, rfl, x, C, dx, _, _, rfl, hx, Z.cl, Z.nS, (by unfold bf; rfl), q⟩
theorem ok_carries {f : Addr} {fd : FuncData} {k : Nat} (F : Fun K "carries" "Boat.carries" s_Boat_carries f fd) (Z : Ct K mg C) : FnOk P w K mg base CX0 (k + 1) f fd ["self"] (spGet C fun _ c _ => c) := by
  refine F.ok scCarries (fun vs H Q E h => ?_) (fun cdv A outer s H vs Q E hr h => ?_)
  · obtain ⟨x, dx, s, c, m, rfl, _⟩ := h
    rfl
  · obtain ⟨x, dx, s, c, m, rfl, hx, q⟩ := h
    exact ⟨_, pss_one (ps_ret (pe_fld (pv 0) rfl)), _, rfl, x, C, dx, _, _, rfl, hx, Z.cl, Z.nW, (by unfold bf; rfl), q⟩
theorem ok_man {f : Addr} {fd : FuncData} {k : Nat} (F : Fun K "man" "Boat.man" s_Boat_man f fd) (Z : Ct K mg C) : FnOk P w K mg base CX0 (k + 1) f fd ["self"] (spGet C fun _ _ m => m) := by
  refine F.ok scMan (fun vs H Q E h => ?_) (fun cdv A outer s H vs Q E hr h => ?_)
  · obtain ⟨x, dx, s, c, m, rfl, _⟩ := h
    rfl
  · obtain ⟨x, dx, s, c, m, rfl, hx, q⟩ := h
    exact ⟨_, pss_one (ps_ret (pe_fld (pv 0) rfl)), _, rfl, x, C, dx, _, _, rfl, hx, Z.cl, Z.nM, (by unfold bf; rfl), q⟩
/-- a boat stands at x -/
structure Bt (C : Addr) (H : Hp) (x : Addr) (s c m : Int) : Prop where
  at_ : ∃ dx, H x = some (.ins C dx (bf (.int s) (.int c) (.int m)))
  s1 : 1 ≤ s
  c1 : 1 ≤ c
  m1 : 1 ≤ m
  s2 : s ≤ 10 ^ 40
  c2 : c ≤ 10 ^ 40
  m2 : m ≤ 10 ^ 40
theorem Bt.mono {C : Addr} {H H' : Hp} {x : Addr} {s c m : Int} (h : Bt C H x s c m) (e : Same H H') : Bt C H' x s c m := by
  obtain ⟨⟨dx, h1⟩, a, b, c, d, e', f⟩ := h
  exact ⟨⟨dx, e _ _ h1⟩, a, b, c, d, e', f⟩
theorem bf_no {a b c : V} {m : Str} (h1 : m ≠ "many_seats") (h2 : m ≠ "most_weight") (h3 : m ≠ "man_weight") : (bf a b c).lookup m = none := by
  unfold bf
  rw [List.lookup_cons, show (m == ("many_seats" : Str)) = false from beq_eq_false_iff_ne.mpr h1, List.lookup_cons, show (m == ("most_weight" : Str)) = false from beq_eq_false_iff_ne.mpr h2, List.lookup_cons, show (m == ("man_weight" : Str)) = false from beq_eq_false_iff_ne.mpr h3]
  rfl
theorem g1 {a b c : V} : (bf a b c).lookup ("seats" : Str) = none := bf_no (by decide +kernel) (by decide +kernel) (by decide +kernel)
theorem g2 {a b c : V} : (bf a b c).lookup ("carries" : Str) = none := bf_no (by decide +kernel) (by decide +kernel) (by decide +kernel)
theorem g3 {a b c : V} : (bf a b c).lookup ("man" : Str) = none := bf_no (by decide +kernel) (by decide +kernel) (by decide +kernel)
def roomI (s c m : Int) : Int := if c / m < s then c / m else s
def spRoom (C : Addr) : Sp := fun vs H Q _ => ∃ (x : Addr) (s c m : Int), vs = [.ref x] ∧ Bt C H x s c m ∧ Q (.int (roomI s c m)) H
/-- the three methods -/
structure M3 (K : PySem.W.Frag) (C : Addr) (f1 f2 f3 : Addr) (fd1 fd2 fd3 : FuncData) : Prop where
  se : Mth K C "seats" "Boat.seats" ["self"] s_Boat_seats f1 fd1
  ca : Mth K C "carries" "Boat.carries" ["self"] s_Boat_carries f2 fd2
  mn : Mth K C "man" "Boat.man" ["self"] s_Boat_man f3 fd3
theorem ok_room {f f1 f2 f3 C : Addr} {fd fd1 fd2 fd3 : FuncData} {k : Nat} (F : Fun K "room_of" "room_of" s_room_of f fd) (T : Tx mg) (Z : Ct K mg C) (M : M3 K C f1 f2 f3 fd1 fd2 fd3) : FnOk P w K mg base CX0 (k + 2) f fd ["boat"] (spRoom C) := by
  have G1 : FnOk P w K mg base CX0 (k + 1) f1 fd1 ["self"] (spGet C fun s _ _ => s) := ok_seats M.se.fn Z
  have G2 : FnOk P w K mg base CX0 (k + 1) f2 fd2 ["self"] (spGet C fun _ c _ => c) := ok_carries M.ca.fn Z
  have G3 : FnOk P w K mg base CX0 (k + 1) f3 fd3 ["self"] (spGet C fun _ _ m => m) := ok_man M.mn.fn Z
  refine F.ok scRoom (fun vs H Q E h => ?_) (fun cdv A outer s H vs Q E hr h => ?_)
  · obtain ⟨x, s, c, m, rfl, _⟩ := h
    rfl
  · obtain ⟨x, s, c, m, rfl, B, q⟩ := h
    obtain ⟨dx, hx⟩ := B.at_
    have := B.m1
    have := B.m2
    refine ⟨_, pss_one (ps_ret (pe_callB (call_min2 rfl) (by rfl) T.min (by decide +kernel) (pa_cons (pe_meth0 (pv 0) Z.cl M.se.me G1 hr M.se.bd .nil pass0)
      (pa_cons (pe_op op_fdivW (pe_meth0 (pv 0) Z.cl M.ca.me G2 hr M.ca.bd .nil pass0) (pe_meth0 (pv 0) Z.cl M.mn.me G3 hr M.mn.bd .nil pass0)) pa_nil)))), ?_⟩
    refine ⟨_, rfl, x, dx, _, rfl, hx, g1, x, dx, _, _, _, rfl, hx, _, rfl, x, dx, _, rfl, hx, g2, x, dx, _, _, _, rfl, hx, _, rfl, x, dx, _, rfl, hx, g3, x, dx, _, _, _, rfl, hx, _, _, rfl, rfl,
      wide_div (b := 210) (by omega) (Nat.lt_of_le_of_lt (show m.natAbs ≤ 10 ^ 40 by omega) (by decide)) (by decide) (by decide), _, _, rfl, q⟩
def spWt (C : Addr) : Sp := fun vs H Q _ => ∃ (x : Addr) (s c m o k : Int) (v : V), vs = [.ref x, .int o, v] ∧ Bt C H x s c m ∧ 0 ≤ o ∧ o ≤ 10 ^ 60 ∧ StV H v k ∧ Q (.int (o * m + k)) H
theorem ok_wt {f f1 f2 f3 C : Addr} {fd fd1 fd2 fd3 : FuncData} {k : Nat} (F : Fun K "weight_out" "weight_out" s_weight_out f fd) (T : Tx mg) (Z : Ct K mg C) (M : M3 K C f1 f2 f3 fd1 fd2 fd3) : FnOk P w K mg base CX0 (k + 2) f fd ["boat", "out", "stores"] (spWt C) := by
  have G3 : FnOk P w K mg base CX0 (k + 1) f3 fd3 ["self"] (spGet C fun _ _ m => m) := ok_man M.mn.fn Z
  refine F.ok scWt (fun vs H Q E h => ?_) (fun cdv A outer s H vs Q E hr h => ?_)
  · obtain ⟨x, s, c, m, o, k, v, rfl, _⟩ := h
    rfl
  · obtain ⟨x, s, c, m, o, k, v, rfl, B, o0, o1, hs, q⟩ := h
    obtain ⟨dx, hx⟩ := B.at_
    have := B.m1
    have := B.m2
    refine ⟨_, pss_one (ps_ret (pe_op op_add (pe_op op_mulW (pv 1) (pe_meth0 (pv 0) Z.cl M.mn.me G3 hr M.mn.bd .nil pass0)) (pe_ifExp (pt_cmpR op_isN (pv 2) pe_non (nomark _)) pe_int (pe_sumVals rfl (by rfl) T.sum (pv 2))))), ?_⟩
    refine ⟨_, rfl, _, rfl, x, dx, _, rfl, hx, g3, x, dx, _, _, _, rfl, hx, _, _, rfl, rfl, wide_mul (a := 210) (b := 210) (Nat.lt_of_le_of_lt (show o.natAbs ≤ 10 ^ 60 by omega) (by decide)) (Nat.lt_of_le_of_lt (show m.natAbs ≤ 10 ^ 40 by omega) (by decide)) (by decide) (by decide) (by decide), ?_⟩
    refine ⟨_, rfl, rfl, _, rfl, ?_⟩
    cases hs with
    | non => exact ⟨_, _, rfl, rfl, q⟩
    | @dict d kvs e hk hl =>
      rw [decide_eq_false (show ¬ V.ref d = V.non from nofun)]
      exact ⟨_, rfl, d, _, _, rfl, e, sd_vals kvs, _, _, rfl, rfl, q⟩
end
end K32

set_option Elab.async false
set_option linter.all false
set_option maxRecDepth 100000
set_option maxHeartbeats 1600000
namespace K32
open PySem PySem.Spec PyProof.Rows L2 LT NdefX
/-- the module's constants -/
structure Cs (mg : Str → Option Value) : Prop where
  sl : ∃ t, mg "SMALL_LETTERS" = some (.str (Str.ofString "abcdefghijklmnopqrstuvwxyz") t)
  ln : ∃ t, mg "LONGEST_NAME" = some (.int 8 t)
  mt : ∃ t, mg "MOST_THINGS" = some (.int 8 t)
section
variable {P : Program} {w : World} {K : PySem.W.Frag} {mg : Str → Option Value} {base : Heap} {C CS : Addr}
def spIs : Sp := fun vs H Q _ => ∃ z, vs = [.str z] ∧ Nm z ∧ ∀ H', Same H H' → Q (.bl true) H'
theorem ok_is {f : Addr} {fd : FuncData} {k : Nat} (F : Fun K "is_name" "is_name" s_is_name f fd) (T : Tx mg) (S : Cs mg) : FnOk P w K mg base CX0 (k + 1) f fd ["thing"] spIs := by
  obtain ⟨⟨tS, gS⟩, ⟨tL, gL⟩, _⟩ := S
  refine F.ok scIs (fun vs H Q E h => ?_) (fun cdv A outer s H vs Q E hr h => ?_)
  · obtain ⟨v, rfl, _⟩ := h
    rfl
  · obtain ⟨z, rfl, hz, q⟩ := h
    have nd := scIs.nd
    refine ⟨_, pss_cons (ps_if (pt_not (pt_val (pe_callB call_isi (by rfl) T.isi (by decide +kernel) (pa_cons (pv 0) (pa_cons (pe_bltn (v := .ty "str") (by rfl) T.str (by decide +kernel) rfl) pa_nil))))) (pss_one (ps_ret pe_bl)) pss_nil)
      (pss_cons (ps_if (pt_not (pt_chain op_le op_le pe_int (pe_callB call_len_str (by rfl) T.len PySem.boot_len (pa_cons (pv 0) pa_nil)) (pe_glob (v := .int 8) (by rfl) gL ⟨_, rfl⟩))) (pss_one (ps_ret pe_bl)) pss_nil)
      (pss_one (ps_ret (pe_callB (cr_all rfl) (by rfl) T.all (by decide +kernel) (pa_cons
        (pe_lc (own := [("letter", 1)]) (g := gName 1) (tt := tYes) rfl nd (pi_str (pv 0)) (blkOk_by (N := ["thing", "letter"]) (sc := defScope s_is_name) (by decide +kernel))
          (fun _ _ _ _ _ => pg_name (i := 1) nd rfl (Or.inl rfl)) (fun _ _ _ _ _ => pts_nil)
          (fun _ _ _ _ _ => pe_cmpR op_in_sign (pv 1) (pe_glob (v := .str "abcdefghijklmnopqrstuvwxyz") (by rfl) gS ⟨_, rfl⟩) (by rfl))) pa_nil))))), ?_⟩
    have l1 := hz.l1
    have l8 := hz.l8
    refine ⟨_, rfl, .str z, .ty "str", _, _, true, rfl, .ty _, .base (.str z), kit_ty (show kitB "str" "str" = some true by decide +kernel), _, rfl, ?_⟩
    refine ⟨_, rfl, z, rfl, Nat.le_of_lt (small1000 (by omega)), _, _, rfl, rfl, _, rfl, ?_⟩
    rw [if_pos (decide_eq_true (show (1 : Int) ≤ (z.length : Nat) by omega))]
    refine ⟨_, _, rfl, rfl, _, rfl, ?_⟩
    rw [decide_eq_true (show ((z.length : Nat) : Int) ≤ 8 by omega)]
    refine ⟨_, rfl, z, rfl, fun D nD => ?_⟩
    refine lc_it walk_str (fun i H' => Same H H' ∧ H' D = some (.lst (List.replicate i (.bl true)))) ⟨same_upd nD, upd_same⟩ (fun _ _ _ _ => trivial) ?_ ?_
    · rintro i x H1 H2 hi ⟨sm, eD⟩ ⟨rfl, c, hc, rfl⟩
      have hm := hz.al c (by
        have : z.cps.toList[i]? = some c := by rw [Array.getElem?_toList]; exact hc
        exact List.mem_of_getElem? this)
      refine ⟨rfl, _, rfl, c, _, rfl, rfl, ?_⟩
      rw [small_mem, hm]
      refine ⟨_, eD, ?_, same_app nD sm, ?_⟩
      · rw [List.length_replicate]
        have hsz : z.cps.size = z.length := rfl
        exact small1000 (by omega)
      · rw [upd_same, List.replicate_succ']
    · rintro H2 ⟨sm, eD⟩
      refine ⟨D, List.replicate _ true, rfl, SqL.of (by rw [List.map_replicate]; exact eD), ?_⟩
      rw [all_true _ fun b hb => List.eq_of_mem_replicate hb]
      exact q H2 sm
/-! ### stores -/
def spSt : Sp := fun vs H Q _ => ∃ (d : Addr) (kvs : List (Str × Int)), vs = [.ref d] ∧ H d = some (.dK (sd kvs)) ∧ Kv kvs ∧ kvs.length ≤ 8 ∧ ∀ H', Same H H' → Q (.bl true) H'
theorem ok_st {f fN fF fW : Addr} {fd fdN fdF fdW : FuncData} {k : Nat} (F : Fun K "are_stores" "are_stores" s_are_stores f fd) (T : Tx mg) (S : Cs mg) (FN : Has K mg "is_name" ["thing"] s_is_name fN fdN)
    (FF : Has K mg "is_from" ["thing", "least"] s_is_from fF fdF) (FW : Has K mg "is_whole" ["thing"] s_is_whole fW fdW) : FnOk P w K mg base CX0 (k + 3) f fd ["thing"] spSt := by
  have GN : FnOk P w K mg base CX0 (k + 1) fN fdN ["thing"] spIs := ok_is FN.fn T S
  have GF : FnOk P w K mg base CX0 (k + 2) fF fdF ["thing", "least"] spFrom := ok_from FF.fn T FW
  obtain ⟨_, _, ⟨tM, gM⟩⟩ := S
  refine F.ok scSt (fun vs H Q E h => ?_) (fun cdv A outer s H vs Q E hr h => ?_)
  · obtain ⟨d, kvs, rfl, _⟩ := h
    rfl
  · obtain ⟨d, kvs, rfl, hd, hk, hl, q⟩ := h
    have nd := scSt.nd
    have hr1 : Room (k + 1) _ := hr.mono (by omega)
    refine ⟨_, pss_cons (ps_if (PW.pt (pw_or (pt_not (pt_val (pe_callB call_isi (by rfl) T.isi (by decide +kernel) (pa_cons (pv 0) (pa_cons (pe_bltn (v := .ty "dict") (by rfl) T.dict (by decide +kernel) rfl) pa_nil)))))
        (pw_or1 (pt_cmpR op_gt (pe_callB call_lenD (by rfl) T.len PySem.boot_len (pa_cons (pv 0) pa_nil)) (pe_glob (v := .int 8) (by rfl) gM ⟨_, rfl⟩) (nomark _))))) (pss_one (ps_ret pe_bl)) pss_nil)
      (pss_one (ps_ret (pe_callB (cr_all rfl) (by rfl) T.all (by decide +kernel) (pa_cons
        (pe_lock (pe_lc (own := [("name", 1), ("weight", 2)]) (g := gTup K 2 (gCons (gName 1) (gCons (gName 2) gNil))) (tt := tYes) rfl nd (pi_items (pv 0)) (blkOk_by (N := ["thing", "name", "weight"]) (sc := defScope s_are_stores) (by decide +kernel))
          (fun _ _ _ _ _ => pg_tup rfl (pgs_cons (pg_name (i := 1) nd rfl (.inl rfl)) (pgs_cons (pg_name (i := 2) nd rfl (.inl rfl)) pgs_nil))) (fun _ _ _ _ _ => pts_nil)
          (fun _ _ _ _ _ => pe_and (pe_call GN hr1 (by rfl) FN.gl FN.fn.kp FN.bd .nil pass0 (pa_cons (pv 1) pa_nil)) (pe_one (pe_call GF hr (by rfl) FF.gl FF.fn.kp FF.bd .nil pass0 (pa_cons (pv 2) (pa_cons pe_int pa_nil))))))) pa_nil)))), ?_⟩
    refine ⟨_, rfl, .ref d, .ty "dict", _, _, true, rfl, .ty _, .base (.dK hd), kit_ty (show kitB "dict" "dict" = some true by decide +kernel), _, rfl, ?_⟩
    refine ⟨_, rfl, d, _, rfl, hd, _, _, rfl, rfl, _, rfl, ?_⟩
    rw [decide_eq_false (show ¬ ((sd kvs).length : Int) > 8 by rw [sd_len]; omega)]
    refine ⟨d, _, hd, trivial, fun od => ?_⟩
    refine ⟨_, rfl, d, od, sd kvs, rfl, upd_same, fun D nD => ?_⟩
    have hlk := upd_same (H := H) (a := d) (o := .frz od (.dK (sd kvs)))
    have back : ∀ {Hx : Hp}, Same (upd H d (.frz od (.dK (sd kvs)))) Hx → Same H (upd Hx d (.dK (sd kvs))) := fun {Hx} s b o e => by
      by_cases hb : b = d
      · subst hb
        rw [upd_same, ← e, hd]
      · rw [upd_ne hb]
        exact s _ _ (by rw [upd_ne hb]; exact e)
    generalize upd H d (.frz od (.dK (sd kvs))) = H1 at *
    refine lc_it walk_items (fun i H' => Same H1 H' ∧ H' D = some (.lst (List.replicate i (.bl true)))) ⟨same_upd nD, upd_same⟩ (fun i H' _ h => h.1 _ _ hlk) ?_ ?_
    · rintro i x H2 H2' hi ⟨sm, eD⟩ ⟨T1, kx, vx, rfl, nT, rfl, h1, h2⟩
      have hi2 : i < kvs.length := by rw [sd_len] at hi; exact hi
      have eg : (sd kvs)[i]? = some (Sum.inr kvs[i].1, V.int kvs[i].2) := by
        unfold sd
        rw [List.getElem?_map, List.getElem?_eq_getElem hi2]
        rfl
      have h1' : kx = .str kvs[i].1 := by
        have h1 : ((sd kvs)[i]?.map fun kv => kV kv.1) = some kx := h1
        rw [eg] at h1
        exact (Option.some.inj h1).symm
      have h2' : vx = .int kvs[i].2 := by
        have h2 : ((sd kvs)[i]?.map Prod.snd) = some vx := h2
        rw [eg] at h2
        exact (Option.some.inj h2).symm
      subst h1' h2'
      have s2 := same_upd (o := .tup [V.str kvs[i].1, .int kvs[i].2]) nT
      refine ⟨T1, _, rfl, SqT.of upd_same, rfl, _, _, rfl, _, _, rfl, rfl, rfl, ?_⟩
      refine ⟨_, rfl, kvs[i].1, rfl, hk.nm _ (List.getElem_mem hi2), fun H3 s3 => ⟨_, rfl, ?_⟩⟩
      refine ⟨_, rfl, .int kvs[i].2, 1, rfl, .int _, ?_⟩
      rw [show fromB (.int kvs[i].2) 1 = true from decide_eq_true (hk.w1 _ (List.getElem_mem hi2))]
      have sA := s2.trans s3
      refine ⟨_, sA _ _ eD, ?_, same_app nD (sm.trans sA), ?_⟩
      · rw [List.length_replicate]
        exact small1000 (by omega)
      · rw [upd_same, List.replicate_succ']
    · rintro H2 ⟨sm, eD⟩
      refine ⟨sm _ _ hlk, ?_⟩
      have nDd : D ≠ d := fun e => by rw [e, hlk] at nD; cases nD
      refine ⟨D, List.replicate (sd kvs).length true, rfl, SqL.of (by rw [upd_ne nDd, List.map_replicate]; exact eD), ?_⟩
      rw [all_true _ fun b hb => List.eq_of_mem_replicate hb]
      exact q _ (back sm)
def spCw : Sp := fun vs H Q _ => ∃ (o b k : Int) (v : V), vs = [.int o, .int b, v] ∧ 0 ≤ o ∧ 0 ≤ b ∧ StV H v k ∧ ∀ H', Same H H' → Q .non H'
theorem ok_cw {f fS fN fF fW : Addr} {fd fdS fdN fdF fdW : FuncData} {k : Nat} (F : Fun K "check_wanted" "check_wanted" s_check_wanted f fd) (T : Tx mg) (S : Cs mg) (FS : Has K mg "are_stores" ["thing"] s_are_stores fS fdS) (FN : Has K mg "is_name" ["thing"] s_is_name fN fdN)
    (FF : Has K mg "is_from" ["thing", "least"] s_is_from fF fdF) (FW : Has K mg "is_whole" ["thing"] s_is_whole fW fdW) : FnOk P w K mg base CX0 (k + 4) f fd ["out", "back", "stores"] spCw := by
  have GF : FnOk P w K mg base CX0 (k + 2) fF fdF ["thing", "least"] spFrom := ok_from FF.fn T FW
  have GS : FnOk P w K mg base CX0 (k + 3) fS fdS ["thing"] spSt := ok_st FS.fn T S FN FF FW
  refine F.ok scCw (fun vs H Q E h => ?_) (fun cdv A outer s H vs Q E hr h => ?_)
  · obtain ⟨o, b, k, v, rfl, _⟩ := h
    rfl
  · obtain ⟨o, b, k', v, rfl, o0, b0, hs, q⟩ := h
    have hr2 : Room (k + 2) _ := hr.mono (by omega)
    refine ⟨_, pss_cons (ps_if (PW.pt (pw_or (pt_not (pt_val (pe_call GF hr2 (by rfl) FF.gl FF.fn.kp FF.bd .nil pass0 (pa_cons (pv 0) (pa_cons pe_int pa_nil)))))
        (pw_or1 (pt_not (pt_val (pe_call GF hr2 (by rfl) FF.gl FF.fn.kp FF.bd .nil pass0 (pa_cons (pv 1) (pa_cons pe_int pa_nil)))))))) (pss_one ps_no) pss_nil)
      (pss_one (ps_if (PW.pt (pw_and (pt_cmpR op_notN (pv 2) pe_non (nomark _)) (pw_and1 (pt_not (pt_val (pe_call GS hr (by rfl) FS.gl FS.fn.kp FS.bd .nil pass0 (pa_cons (pv 2) pa_nil))))))) (pss_one ps_no) pss_nil)), ?_⟩
    refine ⟨_, rfl, .int o, 0, rfl, .int o, _, rfl, ?_⟩
    rw [show fromB (.int o) 0 = true from decide_eq_true o0]
    refine ⟨_, rfl, .int b, 0, rfl, .int b, _, rfl, ?_⟩
    rw [show fromB (.int b) 0 = true from decide_eq_true b0]
    refine ⟨_, rfl, rfl, _, rfl, ?_⟩
    cases hs with
    | non => exact q H (Same.refl H)
    | @dict d kvs e hk hl =>
      rw [decide_eq_false (show ¬ V.ref d = V.non from nofun)]
      refine ⟨_, rfl, d, kvs, rfl, e, hk, hl, fun H' s' => ⟨_, rfl, ?_⟩⟩
      exact q H' s'
theorem room_bd {s c m : Int} (hs : 1 ≤ s) (hc : 1 ≤ c) (hm : 1 ≤ m) : 0 ≤ roomI s c m ∧ roomI s c m ≤ s := by
  unfold roomI
  have := Int.ediv_nonneg (show 0 ≤ c by omega) (show 0 ≤ m by omega)
  split <;> omega
end
end K32

set_option Elab.async false
set_option linter.all false
set_option maxRecDepth 100000
set_option maxHeartbeats 1600000
namespace K32
open PySem PySem.Spec PyProof.Rows L2 LT NdefX
theorem scCell : FnScope ["_law_script", "_law_k"] ["_law_script", "_law_k"] (defScope s__law_cell) := ⟨rfl, rfl, rfl, by decide +kernel, rfl, by decide +kernel, by decide +kernel⟩
theorem scPot : FnScope ["_law_script", "_law_k", "_law_cell_here"] ["_law_script", "_law_k"] (defScope s__law_pot) := ⟨rfl, rfl, rfl, by decide +kernel, rfl, by decide +kernel, by decide +kernel⟩
theorem scTake : FnScope ["_law_pot_here", "_law_room_here", "_law_digit"] ["_law_pot_here", "_law_room_here"] (defScope s__law_take) := ⟨rfl, rfl, rfl, by decide +kernel, rfl, by decide +kernel, by decide +kernel⟩
section
variable {P : Program} {w : World} {K : PySem.W.Frag} {mg : Str → Option Value} {base : Heap}
/-- a cell of the script -/
def spCell (K : PySem.W.Frag) : Sp := fun vs H Q _ => ∃ (a : Addr) (ns : List Int) (k : Nat), vs = [.ref a, .int (k : Nat)] ∧ SqL K H a (ns.map V.int) ∧
  ∀ z : Int, (z = 0 ∨ z ∈ ns) → Q (.int z) H
theorem ok_cell {f : Addr} {fd : FuncData} {k : Nat} (F : Fun K "_law_cell" "_law_cell" s__law_cell f fd) (T : Tx mg) : FnOk P w K mg base CX0 (k + 1) f fd ["_law_script", "_law_k"] (spCell K) := by
  refine F.ok scCell (fun vs H Q E h => ?_) (fun cdv A outer s H vs Q E hr h => ?_)
  · obtain ⟨a, ns, k, rfl, _⟩ := h
    rfl
  · obtain ⟨a, ns, k, rfl, hS, q⟩ := h
    refine ⟨_, pss_one (ps_ret (pe_ifExp (pt_cmpR op_lt (pv 1) (pe_callB call_len_seq (by rfl) T.len PySem.boot_len (pa_cons (pv 0) pa_nil)) (nomark _))
      (pe_ix ix_list (pv 0) (pv 1) (fun _ _ => rfl)) pe_int)), ?_⟩
    refine ⟨_, rfl, _, rfl, a, _, rfl, .inl hS, _, _, rfl, rfl, _, rfl, ?_⟩
    by_cases hk : k < ns.length
    · rw [decide_eq_true (show ((k : Nat) : Int) < ((ns.map V.int).length : Nat) by rw [List.length_map]; omega)]
      refine iteT ?_
      refine ⟨_, rfl, _, rfl, a, _, _, .int ns[k], rfl, rfl, hS, atI_nat (by rw [List.getElem?_map, List.getElem?_eq_getElem hk]; rfl), ?_⟩
      exact q _ (.inr (List.getElem_mem hk))
    · rw [decide_eq_false (show ¬ ((k : Nat) : Int) < ((ns.map V.int).length : Nat) by rw [List.length_map]; omega)]
      exact iteF (q 0 (.inl rfl))
def spPot (K : PySem.W.Frag) : Sp := fun vs H Q _ => ∃ (a : Addr) (ns : List Int) (k : Nat), vs = [.ref a, .int (k : Nat)] ∧ SqL K H a (ns.map V.int) ∧ k ≤ 1000 ∧
  ∀ p H', H p = none → Same H H' → Pot H' p → Q (.ref p) H'
theorem ok_pot {f fC : Addr} {fd fdC : FuncData} {k : Nat} (F : Fun K "_law_pot" "_law_pot" s__law_pot f fd) (T : Tx mg) (FC : Fun K "_law_cell" "_law_cell" s__law_cell fC fdC) (bC : L2.Binds K fdC ["_law_script", "_law_k"] []) (gC : mg "_law_cell" = some (.ref fC)) :
    FnOk P w K mg base CX0 (k + 2) f fd ["_law_script", "_law_k"] (spPot K) := by
  have GC : FnOk P w K mg base CX0 (k + 1) fC fdC ["_law_script", "_law_k"] (spCell K) := ok_cell FC T
  refine F.ok scPot (fun vs H Q E h => ?_) (fun cdv A outer s H vs Q E hr h => ?_)
  · obtain ⟨a, ns, k, rfl, _⟩ := h
    rfl
  · obtain ⟨a, ns, k, rfl, hS, hk, q⟩ := h
    refine ⟨_, pss_cons (ps_set (i := 2) scPot.nd rfl (.inl rfl) (pe_callB call_abs (by rfl) T.abs (by decide +kernel) (pa_cons (pe_call GC hr (by rfl) gC FC.kp bC .nil pass0 (pa_cons (pv 0) (pa_cons (pv 1) pa_nil))) pa_nil)))
      (pss_one (ps_ret (pe_lst (pa_cons (pe_callB (call_max2 rfl) (by rfl) T.max (by decide +kernel) (pa_cons pe_int (pa_cons (pe_op op_sub (pv 2) (pe_op op_pow pe_int pe_int)) pa_nil)))
        (pa_cons (pe_op op_mod (pe_op op_add (pe_op op_add (pe_op op_add (pe_op op_mul (pe_op op_mod (pv 2) pe_int) pe_int) (pe_op op_mul (pe_op op_mul pe_int (pv 1)) (pv 1))) (pe_op op_mul pe_int (pv 1))) pe_int) pe_int) pa_nil))))), ?_⟩
    refine ⟨_, rfl, _, rfl, a, ns, k, rfl, hS, fun z hz => ?_⟩
    refine ⟨z, rfl, ?_⟩
    have hk0 : (0 : Int) ≤ (k : Nat) := Int.natCast_nonneg k
    have hk1 : ((k : Nat) : Int) ≤ 1000 := by omega
    have hm := Int.emod_nonneg (if z < 0 then -z else z) (show (2147483563 : Int) ≠ 0 by decide)
    have hm2 := Int.emod_lt_of_pos (if z < 0 then -z else z) (show (0 : Int) < 2147483563 by decide)
    refine ⟨_, rfl, _, _, rfl, rfl, ⟨by decide, by decide, by decide⟩, _, _, rfl, rfl, 0, _, rfl, ?_⟩
    refine ⟨_, rfl, _, _, rfl, rfl, by show (0 : Int) < 2147483563; decide, _, _, rfl, rfl, .inl ⟨by omega, by omega⟩, ?_⟩
    refine ⟨_, rfl, _, _, rfl, rfl, .inl ⟨by decide, by decide⟩, _, rfl, _, _, rfl, rfl, .inr ⟨by omega, by omega⟩, _, _, rfl, rfl, ?_⟩
    refine ⟨_, rfl, _, _, rfl, rfl, .inl ⟨by decide, by decide⟩, _, _, rfl, rfl, _, _, rfl, rfl, _, _, rfl, rfl, by show (0 : Int) < 2147483563; decide, ?_⟩
    refine ⟨by show 2 ≤ sizeLine; decide, fun l nl => q l _ nl (same_upd nl) ⟨_, _, upd_same, ?_, Int.emod_nonneg _ (by decide), Int.lt_trans (Int.emod_lt_of_pos _ (by decide)) (by decide)⟩⟩
    split <;> omega
/-- a draw from a pot -/
def spTake : Sp := fun vs H Q _ => ∃ (p : Addr) (r : Int), vs = [.ref p, .int r] ∧ Pot H p ∧ 0 < r ∧ r ≤ 1000000000 ∧
  ∀ (d : Int) (H' : Hp), 0 ≤ d → d < r → Pot H' p → SameB p H H' → Q (.int d) H'
theorem ok_take {f : Addr} {fd : FuncData} {k : Nat} (F : Fun K "_law_take" "_law_take" s__law_take f fd) (T : Tx mg) : FnOk P w K mg base CX0 (k + 1) f fd ["_law_pot_here", "_law_room_here"] spTake := by
  refine F.ok scTake (fun vs H Q E h => ?_) (fun cdv A outer s H vs Q E hr h => ?_)
  · obtain ⟨p, r, rfl, _⟩ := h
    rfl
  · obtain ⟨p, r, rfl, ⟨a, b, hp, a0, b0, bB⟩, r0, r1, q⟩ := h
    refine ⟨_, pss_cons (ps_if (pt_cmpR op_gt (pe_ix ix_list (pv 0) pe_int (fun _ _ => rfl)) pe_int (nomark _))
        (pss_cons (ps_asg (pe_callB call_divmodW (by rfl) T.divmod (by decide +kernel) (pa_cons (pe_ix ix_list (pv 0) pe_int (fun _ _ => rfl)) (pa_cons (pv 1) pa_nil)))
            (pg_tup rfl (pgs_cons (pg_sub (pv 0) pe_int set_list) (pgs_cons (pg_name (i := 2) scTake.nd rfl (.inl rfl)) pgs_nil))))
          (pss_one (ps_ret (pv 2)))) pss_nil)
      (pss_cons (ps_asg (pe_op op_mod (pe_op op_add (pe_op op_mul (pe_ix ix_list (pv 0) pe_int (fun _ _ => rfl)) pe_int) pe_int) pe_int) (pg_sub (pv 0) pe_int set_list))
        (pss_one (ps_ret (pe_op op_mod (pe_op op_fdiv (pe_op op_mod (pe_op op_mul (pe_ix ix_list (pv 0) pe_int (fun _ _ => rfl)) (pe_ix ix_list (pv 0) pe_int (fun _ _ => rfl))) pe_int) pe_int) (pv 1))))), ?_⟩
    refine ⟨_, rfl, p, _, 0, _, rfl, rfl, SqL.of hp, atI_nat (j := 0) rfl, _, _, rfl, rfl, _, rfl, ite2 (fun h => ?_) (fun h => ?_)⟩
    · have ha : 0 < a := of_decide_eq_true h
      refine ⟨_, rfl, p, _, 0, _, rfl, rfl, SqL.of hp, atI_nat (j := 0) rfl, _, rfl, a, r, rfl, ⟨r0, PyProof.noPylong_small (by omega)⟩, fun t nt => ?_⟩
      have npt : p ≠ t := ne_of_none hp nt
      have hp2 : (upd H t (.tup [.int (a / r), .int (a % r)])) p = some (.lst [.int a, .int b]) := by
        rw [upd_ne npt]
        exact hp
      refine ⟨t, _, rfl, SqT.of upd_same, rfl, _, _, rfl, ?_⟩
      refine ⟨_, rfl, p, _, 0, 0, rfl, rfl, hp2, rfl, _, _, rfl, rfl, ?_⟩
      refine ⟨_, rfl, q _ _ (Int.emod_nonneg _ (by omega)) (Int.emod_lt_of_pos _ r0) ⟨_, _, upd_same, Int.ediv_nonneg a0 (by omega), b0, bB⟩ (SameB.upd (SameB.new nt (SameB.of (Same.refl H))))⟩
    · refine ⟨_, rfl, p, _, 1, _, rfl, rfl, SqL.of hp, atI_nat (j := 1) rfl, _, _, rfl, rfl, .inl ⟨by omega, by omega⟩, _, _, rfl, rfl, _, _, rfl, rfl, by show (0 : Int) < 2147483647; decide, ?_⟩
      refine ⟨_, rfl, p, _, 1, 1, rfl, rfl, hp, rfl, ?_⟩
      have n0 := Int.emod_nonneg (b * 48271 + 12347) (show (2147483647 : Int) ≠ 0 by decide)
      have n1 := Int.emod_lt_of_pos (b * 48271 + 12347) (show (0 : Int) < 2147483647 by decide)
      refine ⟨_, rfl, p, _, 1, _, rfl, rfl, SqL.of upd_same, atI_nat (j := 1) rfl, _, rfl, p, _, 1, _, rfl, rfl, SqL.of upd_same, atI_nat (j := 1) rfl, _, _, rfl, rfl, .inl ⟨by omega, by omega⟩, ?_⟩
      refine ⟨_, _, rfl, rfl, by show (0 : Int) < 2147483629; decide, _, _, rfl, rfl, ⟨by decide, by decide⟩, _, rfl, _, _, rfl, rfl, r0, ?_⟩
      exact q _ _ (Int.emod_nonneg _ (by omega)) (Int.emod_lt_of_pos _ r0) ⟨_, _, upd_same, a0, n0, n1⟩ (SameB.upd (SameB.of (Same.refl H)))
end
theorem scFar : FnScope ["_law_pot_here"] ["_law_pot_here"] (defScope s__law_far) := ⟨rfl, rfl, rfl, by decide +kernel, rfl, by decide +kernel, by decide +kernel⟩
theorem scNumber : FnScope ["_law_pot_here", "_law_most"] ["_law_pot_here", "_law_most"] (defScope s__law_number) := ⟨rfl, rfl, rfl, by decide +kernel, rfl, by decide +kernel, by decide +kernel⟩
theorem scBoat : FnScope ["_law_pot_here", "_law_way", "_law_seats", "_law_carries", "_law_man"] ["_law_pot_here"] (defScope s__law_boat) := ⟨rfl, rfl, rfl, by decide +kernel, rfl, by decide +kernel, by decide +kernel⟩
section
variable {P : Program} {w : World} {K : PySem.W.Frag} {mg : Str → Option Value} {base : Heap} {C CS : Addr}
def spFar : Sp := fun vs H Q _ => ∃ (p : Addr), vs = [.ref p] ∧ Pot H p ∧ ∀ (d : Int) (H' : Hp), 1 ≤ d → d ≤ 10 ^ 16 → Pot H' p → SameB p H H' → Q (.int d) H'
theorem ok_far {f fT : Addr} {fd fdT : FuncData} {k : Nat} (F : Fun K "_law_far" "_law_far" s__law_far f fd) (T : Tx mg) (FT : Has K mg "_law_take" ["_law_pot_here", "_law_room_here"] s__law_take fT fdT) : FnOk P w K mg base CX0 (k + 2) f fd ["_law_pot_here"] spFar := by
  have GT : FnOk P w K mg base CX0 (k + 1) fT fdT ["_law_pot_here", "_law_room_here"] spTake := ok_take FT.fn T
  refine F.ok scFar (fun vs H Q E h => ?_) (fun cdv A outer s H vs Q E hr h => ?_)
  · obtain ⟨p, rfl, _⟩ := h
    rfl
  · obtain ⟨p, rfl, hp1, q⟩ := h
    refine ⟨_, pss_one (ps_ret (pe_op op_add (pe_op op_add pe_int (pe_op op_mul (pe_call GT hr (by rfl) FT.gl FT.fn.kp FT.bd .nil pass0 (pa_cons (pv 0) (pa_cons (pe_op op_pow pe_int pe_int) pa_nil))) (pe_op op_pow pe_int pe_int)))
          (pe_call GT hr (by rfl) FT.gl FT.fn.kp FT.bd .nil pass0 (pa_cons (pv 0) (pa_cons (pe_op op_pow pe_int pe_int) pa_nil))))), ?_⟩
    refine ⟨_, rfl, _, _, rfl, rfl, ⟨by decide, by decide, by decide⟩, p, 10 ^ Int.toNat 8, rfl, hp1, by decide, by decide, fun x H2 x0 x1 hp2 sb2 => ?_⟩
    have x1' : x < 100000000 := x1
    refine ⟨_, _, rfl, rfl, ⟨by decide, by decide, by decide⟩, _, _, rfl, rfl, .inl ⟨by omega, by omega⟩, _, _, rfl, rfl, ?_⟩
    refine ⟨_, rfl, _, _, rfl, rfl, ⟨by decide, by decide, by decide⟩, p, 10 ^ Int.toNat 8, rfl, hp2, by decide, by decide, fun y H3 y0 y1 hp3 sb3 => ?_⟩
    have y1' : y < 100000000 := y1
    refine ⟨_, _, rfl, rfl, q _ H3 ?_ ?_ hp3 (sb2.trans sb3)⟩
    · show 1 ≤ 1 + x * 100000000 + y
      omega
    · show 1 + x * 100000000 + y ≤ 10 ^ 16
      omega
def spNumber : Sp := fun vs H Q _ => ∃ (p : Addr) (r : Int), vs = [.ref p, .int r] ∧ Pot H p ∧ 0 < r ∧ r ≤ 1000000000 ∧
  ∀ (d : Int) (H' : Hp), 1 ≤ d → d ≤ 10 ^ 16 → Pot H' p → SameB p H H' → Q (.int d) H'
theorem ok_number {f fA fT : Addr} {fd fdA fdT : FuncData} {k : Nat} (F : Fun K "_law_number" "_law_number" s__law_number f fd) (T : Tx mg) (FA : Has K mg "_law_far" ["_law_pot_here"] s__law_far fA fdA) (FT : Has K mg "_law_take" ["_law_pot_here", "_law_room_here"] s__law_take fT fdT) : FnOk P w K mg base CX0 (k + 3) f fd ["_law_pot_here", "_law_most"] spNumber := by
  have GT : FnOk P w K mg base CX0 (k + 1) fT fdT ["_law_pot_here", "_law_room_here"] spTake := ok_take FT.fn T
  have GA : FnOk P w K mg base CX0 (k + 2) fA fdA ["_law_pot_here"] spFar := ok_far FA.fn T FT
  refine F.ok scNumber (fun vs H Q E h => ?_) (fun cdv A outer s H vs Q E hr h => ?_)
  · obtain ⟨p, r, rfl, _⟩ := h
    rfl
  · obtain ⟨p, r, rfl, hp, r0, r1, q⟩ := h
    have hr1 : Room (k + 1) _ := hr.mono (by omega)
    refine ⟨_, pss_cons (ps_if (pt_cmpR op_eq (pe_call GT hr1 (by rfl) FT.gl FT.fn.kp FT.bd .nil pass0 (pa_cons (pv 0) (pa_cons pe_int pa_nil))) pe_int (nomark _))
        (pss_one (ps_ret (pe_call GA hr (by rfl) FA.gl FA.fn.kp FA.bd .nil pass0 (pa_cons (pv 0) pa_nil)))) pss_nil)
      (pss_one (ps_ret (pe_op op_add pe_int (pe_call GT hr1 (by rfl) FT.gl FT.fn.kp FT.bd .nil pass0 (pa_cons (pv 0) (pa_cons (pv 1) pa_nil)))))), ?_⟩
    refine ⟨_, rfl, p, 5, rfl, hp, by decide, by decide, fun d5 H1 _ _ hp1 sb1 => ?_⟩
    refine ⟨rfl, _, rfl, ite2 (fun _ => ?_) (fun _ => ?_)⟩
    · exact ⟨_, rfl, p, rfl, hp1, fun d H2 d0 d1 hp2 sb2 => q d H2 d0 d1 hp2 (sb1.trans sb2)⟩
    · refine ⟨_, rfl, _, rfl, p, r, rfl, hp1, r0, r1, fun x H2 x0 x1 hp2 sb2 => ?_⟩
      exact ⟨_, _, rfl, rfl, q _ H2 (by omega) (by omega) hp2 (sb1.trans sb2)⟩
/-! ### a boat's numbers -/
theorem join {α : Type} {J : α → Hp → Prop} {sl : α → L2.St} {rest : L2.St → Hp → Prop} {goal : Prop} (k : (∀ a Hx, J a Hx → rest (sl a) Hx) → goal) (h : ∀ a Hx, J a Hx → rest (sl a) Hx) : goal := k h
structure N3 (s c m : Int) : Prop where
  s1 : 1 ≤ s
  c1 : 1 ≤ c
  m1 : 1 ≤ m
  s2 : s ≤ 10 ^ 40
  c2 : c ≤ 10 ^ 40
  m2 : m ≤ 10 ^ 40
def spBoat : Sp := fun vs H Q _ => ∃ (p : Addr), vs = [.ref p] ∧ Pot H p ∧ ∀ (t : Addr) (s c m : Int) (H' : Hp), N3 s c m → H' t = some (.tup [.int s, .int c, .int m]) → Pot H' p → SameB p H H' → Q (.ref t) H'
theorem mul_le16 {a b : Int} (ha : 0 ≤ a) (hb : 0 ≤ b) (h1 : a ≤ 10 ^ 17) (h2 : b ≤ 10 ^ 17) : a * b ≤ 10 ^ 34 := by
  have := Int.mul_le_mul h1 h2 hb (by decide)
  exact Int.le_trans this (by decide)
theorem ok_boat {f fN fA fT : Addr} {fd fdN fdA fdT : FuncData} {k : Nat} (F : Fun K "_law_boat" "_law_boat" s__law_boat f fd) (T : Tx mg) (FN : Has K mg "_law_number" ["_law_pot_here", "_law_most"] s__law_number fN fdN) (FA : Has K mg "_law_far" ["_law_pot_here"] s__law_far fA fdA) (FT : Has K mg "_law_take" ["_law_pot_here", "_law_room_here"] s__law_take fT fdT) : FnOk P w K mg base CX0 (k + 4) f fd ["_law_pot_here"] spBoat := by
  have GT : FnOk P w K mg base CX0 (k + 1) fT fdT ["_law_pot_here", "_law_room_here"] spTake := ok_take FT.fn T
  have GN : FnOk P w K mg base CX0 (k + 3) fN fdN ["_law_pot_here", "_law_most"] spNumber := ok_number FN.fn T FA FT
  refine F.ok scBoat (fun vs H Q E h => ?_) (fun cdv A outer s H vs Q E hr h => ?_)
  · obtain ⟨p, rfl, _⟩ := h
    rfl
  · obtain ⟨p, rfl, hp, q⟩ := h
    have nd := scBoat.nd
    have hr1 : Room (k + 1) _ := hr.mono (by omega)
    refine ⟨_, pss_cons (ps_set (i := 1) nd rfl (.inl rfl) (pe_call GT hr1 (by rfl) FT.gl FT.fn.kp FT.bd .nil pass0 (pa_cons (pv 0) (pa_cons pe_int pa_nil))))
      (pss_cons (ps_par3 (i := 2) (j := 3) (l := 4) (by rfl) nd rfl rfl rfl (by decide) (by decide) (by decide) rfl rfl rfl (pa_cons (pe_call GN hr (by rfl) FN.gl FN.fn.kp FN.bd .nil pass0 (pa_cons (pv 0) (pa_cons pe_int pa_nil))) (pa_cons (pe_call GN hr (by rfl) FN.gl FN.fn.kp FN.bd .nil pass0 (pa_cons (pv 0) (pa_cons pe_int pa_nil))) (pa_cons (pe_call GN hr (by rfl) FN.gl FN.fn.kp FN.bd .nil pass0 (pa_cons (pv 0) (pa_cons pe_int pa_nil))) pa_nil))) (by rfl))
      (pss_cons (ps_if (pt_cmpR op_eq (pv 1) pe_int (nomark _)) (pss_one (ps_set (i := 4) nd rfl (.inl rfl) (pe_op op_add (pe_op op_add (pv 3) pe_int) (pe_call GT hr1 (by rfl) FT.gl FT.fn.kp FT.bd .nil pass0 (pa_cons (pv 0) (pa_cons pe_int pa_nil)))))) pss_nil)
      (pss_cons (ps_if (pt_cmpR op_eq (pv 1) pe_int (nomark _)) (pss_one (ps_set (i := 3) nd rfl (.inl rfl) (pe_op op_mul (pv 4) (pe_op op_add pe_int (pe_call GT hr1 (by rfl) FT.gl FT.fn.kp FT.bd .nil pass0 (pa_cons (pv 0) (pa_cons pe_int pa_nil))))))) pss_nil)
      (pss_cons (ps_if (pt_cmpR op_eq (pv 1) pe_int (nomark _)) (pss_one (ps_set (i := 3) nd rfl (.inl rfl) (pe_op op_add (pe_op op_mulW (pv 4) (pv 2)) (pe_call GT hr1 (by rfl) FT.gl FT.fn.kp FT.bd .nil pass0 (pa_cons (pv 0) (pa_cons pe_int pa_nil)))))) pss_nil)
      (pss_one (ps_ret (pe_tup (pa_cons (pv 2) (pa_cons (pv 3) (pa_cons (pv 4) pa_nil)))))))))), ?_⟩
    refine ⟨_, rfl, p, 6, rfl, hp, by decide, by decide, fun way H1 _ _ hp1 sb1 => ?_⟩
    refine ⟨_, rfl, p, 12, rfl, hp1, by decide, by decide, fun s H2 s0 s1 hp2 sb2 => ?_⟩
    refine ⟨_, rfl, p, 200, rfl, hp2, by decide, by decide, fun c H3 c0 c1 hp3 sb3 => ?_⟩
    refine ⟨_, rfl, p, 12, rfl, hp3, by decide, by decide, fun m H4 m0 m1 hp4 sb4 => ?_⟩
    have sbA := ((sb1.trans sb2).trans sb3).trans sb4
    refine ⟨_, _, _, rfl, ?_⟩
    apply join (α := Int) (J := fun m' Hx => 1 ≤ m' ∧ m' ≤ 10 ^ 17 ∧ Pot Hx p ∧ SameB p H Hx) (sl := fun m' => [some (.ref p), some (.int way), some (.int s), some (.int c), some (.int m')])
    · intro h
      refine ⟨_, rfl, rfl, _, rfl, ite2 ?yy ?nn⟩
      case nn => intro _; exact h m H4 ⟨m0, by omega, hp4, sbA⟩
      case yy =>
        intro _
        refine ⟨_, rfl, _, _, rfl, rfl, _, rfl, p, 3, rfl, hp4, by decide, by decide, fun d H5 d0 d1 hp5 sb5 => ?_⟩
        exact ⟨_, _, rfl, rfl, h (c + 1 + d) H5 ⟨by omega, by omega, hp5, sbA.trans sb5⟩⟩
    rintro m' H5 ⟨m0', m1', hp5, sb5⟩
    apply join (α := Int) (J := fun c' Hx => 1 ≤ c' ∧ c' ≤ 10 ^ 39 ∧ Pot Hx p ∧ SameB p H Hx) (sl := fun c' => [some (.ref p), some (.int way), some (.int s), some (.int c'), some (.int m')])
    · intro h
      refine ⟨_, rfl, rfl, _, rfl, ite2 ?yy ?nn⟩
      case nn => intro _; exact h c H5 ⟨c0, by omega, hp5, sb5⟩
      case yy =>
        intro _
        refine ⟨_, rfl, _, rfl, p, 9, rfl, hp5, by decide, by decide, fun d H6 d0 d1 hp6 sb6 => ?_⟩
        have e1 : 0 ≤ m' * (1 + d) := Int.mul_nonneg (by omega) (by omega)
        have e2 : m' * 1 ≤ m' * (1 + d) := Int.mul_le_mul_of_nonneg_left (by omega) (by omega)
        have e3 := mul_le16 (a := m') (b := 1 + d) (by omega) (by omega) m1' (by omega)
        exact ⟨_, _, rfl, rfl, _, _, rfl, rfl, .inr ⟨by omega, by omega⟩, h (m' * (1 + d)) H6 ⟨by omega, by omega, hp6, sb5.trans sb6⟩⟩
    rintro c' H6 ⟨c0', c1', hp6, sb6⟩
    apply join (α := Int) (J := fun c'' Hx => 1 ≤ c'' ∧ c'' ≤ 10 ^ 40 ∧ Pot Hx p ∧ SameB p H Hx) (sl := fun c'' => [some (.ref p), some (.int way), some (.int s), some (.int c''), some (.int m')])
    · intro h
      refine ⟨_, rfl, rfl, _, rfl, ite2 ?yy ?nn⟩
      case nn => intro _; exact h c' H6 ⟨c0', by omega, hp6, sb6⟩
      case yy =>
        intro _
        refine ⟨_, rfl, _, rfl, _, _, rfl, rfl, wide_mul (a := 210) (b := 210) (Nat.lt_of_le_of_lt (show m'.natAbs ≤ 10 ^ 17 by omega) (by decide)) (Nat.lt_of_le_of_lt (show s.natAbs ≤ 10 ^ 17 by omega) (by decide)) (by decide) (by decide) (by decide), _, rfl, p, 3, rfl, hp6, by decide, by decide, fun d H7 d0 d1 hp7 sb7 => ?_⟩
        have e1 : 0 ≤ m' * s := Int.mul_nonneg (by omega) (by omega)
        have e2 : m' * 1 ≤ m' * s := Int.mul_le_mul_of_nonneg_left (by omega) (by omega)
        have e3 := mul_le16 (a := m') (b := s) (by omega) (by omega) m1' (by omega)
        exact ⟨_, _, rfl, rfl, h (m' * s + d) H7 ⟨by omega, by omega, hp7, sb6.trans sb7⟩⟩
    rintro c'' H7 ⟨c0'', c1'', hp7, sb7⟩
    refine ⟨_, rfl, _, rfl, _, rfl, by show 3 ≤ sizeLine; decide, fun t nt => ?_⟩
    exact q t s c'' m' _ ⟨s0, c0'', m0', by omega, c1'', by omega⟩ upd_same (hp7.mono (same_upd nt)) (sb7.trans (SameB.of (same_upd nt)))
end
end K32

set_option Elab.async false
set_option linter.all false
set_option maxRecDepth 100000
set_option maxHeartbeats 1600000
namespace K32
open PySem PySem.Spec PyProof.Rows L2 LT NdefX
theorem scName : FnScope ["_law_pot_here", "_law_letters", "_law_k"] ["_law_pot_here"] (defScope s__law_name) := ⟨rfl, rfl, rfl, by decide +kernel, rfl, by decide +kernel, by decide +kernel⟩
theorem scStores : FnScope ["_law_pot_here", "_law_found", "_law_k"] ["_law_pot_here"] (defScope s__law_stores) := ⟨rfl, rfl, rfl, by decide +kernel, rfl, by decide +kernel, by decide +kernel⟩
theorem scLroom : FnScope ["_law_ship"] ["_law_ship"] (defScope s__law_room) := ⟨rfl, rfl, rfl, by decide +kernel, rfl, by decide +kernel, by decide +kernel⟩
theorem scMen : FnScope ["_law_pot_here", "_law_most", "_law_way"] ["_law_pot_here", "_law_most"] (defScope s__law_men) := ⟨rfl, rfl, rfl, by decide +kernel, rfl, by decide +kernel, by decide +kernel⟩
theorem at_small {d : Int} (d0 : 0 ≤ d) (d1 : d < 26) : ∃ c, atI (Str.ofString "abcdefghijklmnopqrstuvwxyz").cps.toList d = some c ∧ small c = true := by
  obtain ⟨j, rfl⟩ := Int.eq_ofNat_of_zero_le d0
  have hj : j < (Str.ofString "abcdefghijklmnopqrstuvwxyz").cps.toList.length := by
    rw [letters, List.length_range']
    omega
  refine ⟨_, atI_nat (List.getElem?_eq_getElem hj), ?_⟩
  rw [← small_mem]
  exact decide_eq_true (List.getElem_mem hj)
section
variable {P : Program} {w : World} {K : PySem.W.Frag} {mg : Str → Option Value} {base : Heap} {C CS : Addr}
def spName : Sp := fun vs H Q _ => ∃ (p : Addr), vs = [.ref p] ∧ Pot H p ∧ ∀ (z : Str) (H' : Hp), Nm z → Pot H' p → SameB p H H' → Q (.str z) H'
theorem ok_name {f fT : Addr} {fd fdT : FuncData} {k : Nat} (F : Fun K "_law_name" "_law_name" s__law_name f fd) (T : Tx mg) (FT : Has K mg "_law_take" ["_law_pot_here", "_law_room_here"] s__law_take fT fdT) :
    FnOk P w K mg base CX0 (k + 2) f fd ["_law_pot_here"] spName := by
  have GT : FnOk P w K mg base CX0 (k + 1) fT fdT ["_law_pot_here", "_law_room_here"] spTake := ok_take FT.fn T
  refine F.ok scName (fun vs H Q E h => ?_) (fun cdv A outer s H vs Q E hr h => ?_)
  · obtain ⟨p, rfl, _⟩ := h
    rfl
  · obtain ⟨p, rfl, hp, q⟩ := h
    refine ⟨_, pss_cons (ps_set (i := 1) scName.nd rfl (.inr rfl) pe_str)
      (pss_one (ps_ret (pe_join pe_str (pe_lc (own := [("_law_k", 2)]) (g := gName 2) (tt := tYes) rfl scName.nd
        (pi_range1 (by rfl) T.range (pa_cons (pe_op op_add pe_int (pe_call GT hr (by rfl) FT.gl FT.fn.kp FT.bd .nil pass0 (pa_cons (pv 0) (pa_cons pe_int pa_nil)))) pa_nil))
        (blkOk_by (N := ["_law_pot_here", "_law_letters", "_law_k"]) (sc := defScope s__law_name) (by decide +kernel))
        (fun _ _ _ _ _ => pg_name (i := 2) scName.nd rfl (Or.inl rfl)) (fun _ _ _ _ _ => pts_nil)
        (fun _ _ _ _ _ => pe_ix ix_str (pv 1) (pe_call GT hr (by rfl) FT.gl FT.fn.kp FT.bd .nil pass0 (pa_cons (pv 0) (pa_cons pe_int pa_nil))) (fun _ _ => rfl)))))), ?_⟩
    refine ⟨⟨_, rfl⟩, _, rfl, p, 8, rfl, hp, by decide, by decide, fun d H1 d0 d1 hp1 sm1 => ?_⟩
    refine ⟨1, d, rfl, rfl, 1 + d, rfl, by omega, by omega, fun D nD => ?_⟩
    have nDp := hp1.ne nD
    refine lc_range (lo := 0) (n := (1 + d).toNat) (fun i H' => Pot H' p ∧ SameB p H H' ∧ ∃ ys : List Str, ys.length = i ∧ (∀ y ∈ ys, y.length = 1 ∧ ∀ c ∈ y.cps.toList, small c = true) ∧ H' D = some (.lst (ys.map V.str)))
      ⟨hp1.upd nDp, SameB.new (sm1.none hp1 nD) sm1, [], rfl, fun y hy => absurd hy List.not_mem_nil, upd_same⟩ ?_ ?_
    · rintro i H2 hi ⟨hp2, sm2, ys, hl, hy, eD⟩
      refine ⟨rfl, ?_⟩
      refine ⟨_, rfl, _, rfl, p, 26, rfl, hp2, by decide, by decide, fun e H3 e0 e1 hp3 sm3 => ?_⟩
      obtain ⟨c, hc, lc⟩ := at_small e0 e1
      have eD3 := sm3 D _ nDp eD
      refine ⟨_, e, c, rfl, rfl, by decide +kernel, hc, _, eD3, ?_, hp3.upd nDp, SameB.new (sm1.none hp1 nD) (sm2.trans sm3), ys ++ [⟨#[c]⟩], ?_, ?_, ?_⟩
      · rw [List.length_map, hl]
        exact small1000 (by omega)
      · rw [List.length_append, hl]
        rfl
      · intro y hm
        rcases List.mem_append.mp hm with h | h
        · exact hy y h
        · obtain rfl := List.mem_singleton.mp h
          refine ⟨rfl, fun x hx => ?_⟩
          obtain rfl : x = c := by simpa using hx
          exact lc
      · rw [upd_same, List.map_append]
        rfl
    · rintro H2 ⟨hp2, sm2, ys, hl, hy, eD⟩
      have h1 : ∀ y ∈ ys, y.length = 1 := fun y h => (hy y h).1
      have ec := join_codes ys
      have el : (Txt.join (Str.ofString "") ys).length = (1 + d).toNat := by
        show (Txt.join (Str.ofString "") ys).cps.size = _
        rw [← Array.length_toList, ec, flat_len ys h1, hl]
      refine ⟨_, D, ys, rfl, rfl, .inl (SqL.of eD), ?_, q _ _ ⟨by omega, by omega, ?_⟩ hp2 sm2⟩
      · rw [sum_len ys h1, hl, show (Str.ofString "").length = 0 by decide +kernel]
        omega
      · intro c hc
        rw [ec] at hc
        obtain ⟨l, h2, h3⟩ := List.mem_flatten.mp hc
        obtain ⟨y, h4, rfl⟩ := List.mem_map.mp h2
        exact (hy y h4).2 c h3
theorem putS_le {B : Int} {kvs : List (Str × Int)} {z : Str} {w : Int} (h : ∀ p ∈ kvs, p.2 ≤ B) (hw : w ≤ B) : ∀ p ∈ putS kvs z w, p.2 ≤ B := by
  intro p hp
  unfold putS at hp
  split at hp
  · obtain ⟨q, hq, rfl⟩ := List.mem_map.mp hp
    split
    · exact hw
    · exact h q hq
  · rcases List.mem_append.mp hp with e | e
    · exact h p e
    · rw [List.mem_singleton.mp e]; exact hw
def spStores : Sp := fun vs H Q _ => ∃ (p : Addr), vs = [.ref p] ∧ Pot H p ∧ ∀ (d : Addr) (kvs : List (Str × Int)) (H' : Hp), H d = none → H' d = some (.dK (sd kvs)) → Kv kvs → kvs.length ≤ 8 → (∀ q ∈ kvs, q.2 ≤ 10 ^ 60) → Pot H' p → SameB p H H' → Q (.ref d) H'
theorem ok_stores {f fM fN fA fT : Addr} {fd fdM fdN fdA fdT : FuncData} {k : Nat} (F : Fun K "_law_stores" "_law_stores" s__law_stores f fd) (T : Tx mg) (FM : Has K mg "_law_name" ["_law_pot_here"] s__law_name fM fdM) (FN : Has K mg "_law_number" ["_law_pot_here", "_law_most"] s__law_number fN fdN) (FA : Has K mg "_law_far" ["_law_pot_here"] s__law_far fA fdA) (FT : Has K mg "_law_take" ["_law_pot_here", "_law_room_here"] s__law_take fT fdT) : FnOk P w K mg base CX0 (k + 4) f fd ["_law_pot_here"] spStores := by
  have GT : FnOk P w K mg base CX0 (k + 1) fT fdT ["_law_pot_here", "_law_room_here"] spTake := ok_take FT.fn T
  have GN : FnOk P w K mg base CX0 (k + 3) fN fdN ["_law_pot_here", "_law_most"] spNumber := ok_number FN.fn T FA FT
  have GM : FnOk P w K mg base CX0 (k + 2) fM fdM ["_law_pot_here"] spName := ok_name FM.fn T FT
  refine F.ok scStores (fun vs H Q E h => ?_) (fun cdv A outer s H vs Q E hr h => ?_)
  · obtain ⟨p, rfl, _⟩ := h
    rfl
  · obtain ⟨p, rfl, hp, q⟩ := h
    have nd := scStores.nd
    have hu := hu_of hr
    have hr1 : Room (k + 1) _ := hr.mono (by omega)
    have hr2 : Room (k + 2) _ := hr.mono (by omega)
    refine ⟨_, pss_cons (ps_set (i := 1) nd rfl (.inl rfl) pe_dnewK)
      (pss_cons (ps_for PassesOwn.never rfl (pi_range1 (by rfl) T.range (pa_cons (pe_ix ix_list (pe_lst (pa_cons pe_int (pa_cons pe_int (pa_cons pe_int (pa_cons pe_int (pa_cons (pe_call GT hr1 (by rfl) FT.gl FT.fn.kp FT.bd .nil pass0 (pa_cons (pv 0) (pa_cons pe_int pa_nil))) pa_nil))))))
          (pe_call GT hr1 (by rfl) FT.gl FT.fn.kp FT.bd .nil pass0 (pa_cons (pv 0) (pa_cons pe_int pa_nil))) (fun _ _ => rfl)) pa_nil)) (pg_name (i := 2) nd rfl (.inl rfl))
        (pss_one (ps_dput hu (pv 1) (pe_call GM hr2 (by rfl) FM.gl FM.fn.kp FM.bd .nil pass0 (pa_cons (pv 0) pa_nil)) (pe_call GN hr (by rfl) FN.gl FN.fn.kp FN.bd .nil pass0 (pa_cons (pv 0) (pa_cons pe_int pa_nil))) rfl)))
      (pss_one (ps_ret (pv 1)))), ?_⟩
    refine fun d nd' => ?_
    have s1 := same_upd (o := .dK []) nd'
    have e1 := upd_same (H := H) (a := d) (o := .dK [])
    have ndp : d ≠ p := hp.ne nd'
    have hp1 := hp.mono s1
    generalize upd H d (.dK []) = H1 at *
    refine ⟨_, rfl, p, 9, rfl, hp1, by decide, by decide, fun n9 H2 n0 n1 hp2 sb2 => ?_⟩
    refine ⟨by show 5 ≤ sizeLine; decide, fun l nl => ?_⟩
    have s3 := same_upd (o := .lst [V.int 0, .int 1, .int 2, .int 8, .int n9]) nl
    have el := upd_same (H := H2) (a := l) (o := .lst [V.int 0, .int 1, .int 2, .int 8, .int n9])
    have nlp : l ≠ p := hp2.ne nl
    have hp3 := hp2.mono s3
    have ed3 := s3 _ _ (sb2 _ _ ndp e1)
    have sb3 : SameB p H (upd H2 l (.lst [V.int 0, .int 1, .int 2, .int 8, .int n9])) := ((SameB.of s1).trans sb2).trans (SameB.of s3)
    generalize upd H2 l (.lst [V.int 0, .int 1, .int 2, .int 8, .int n9]) = H3 at *
    refine ⟨_, rfl, p, 5, rfl, hp3, by decide, by decide, fun n5 H4 m0 m1 hp4 sb4 => ?_⟩
    obtain ⟨r, er, r0, r1⟩ : ∃ r : Int, atI [V.int 0, .int 1, .int 2, .int 8, .int n9] n5 = some (.int r) ∧ 0 ≤ r ∧ r ≤ 8 := by
      have hd : n5 = 0 ∨ n5 = 1 ∨ n5 = 2 ∨ n5 = 3 ∨ n5 = 4 := by omega
      rcases hd with rfl | rfl | rfl | rfl | rfl
      · exact ⟨0, rfl, by decide, by decide⟩
      · exact ⟨1, rfl, by decide, by decide⟩
      · exact ⟨2, rfl, by decide, by decide⟩
      · exact ⟨8, rfl, by decide, by decide⟩
      · exact ⟨n9, rfl, n0, by omega⟩
    refine ⟨l, _, n5, .int r, rfl, rfl, SqL.of (sb4 _ _ nlp el), er, ?_⟩
    refine ⟨r, rfl, by omega, by omega, for_range (lo := 0) (n := r.toNat) (fun i σ H' => (∃ y2, σ = [some (.ref p), some (.ref d), y2]) ∧ ∃ kvs, H' d = some (.dK (sd kvs)) ∧ Kv kvs ∧ kvs.length ≤ i ∧ (∀ q ∈ kvs, q.2 ≤ 10 ^ 60) ∧ Pot H' p ∧ SameB p H H')
      ⟨⟨none, rfl⟩, [], sb4 _ _ ndp ed3, Kv.nil, Nat.le_refl _, (fun _ h => nomatch h), hp4, sb3.trans sb4⟩ ?_ ?_⟩
    · rintro i σ H5 hi ⟨⟨y2, rfl⟩, kvs, ed, hk, hl, hb8, hp5, sb5⟩
      refine ⟨_, rfl, p, 60, rfl, hp5, by decide, by decide, fun x H6 x0 x1 hp6 sb6 => ?_⟩
      refine ⟨_, rfl, _, rfl, p, rfl, hp6, fun z H7 hz hp7 sb7 => ?_⟩
      have ed7 := sb7 _ _ ndp (sb6 _ _ ndp ed)
      refine ⟨d, _, rfl, DPut.k (k := Sum.inr z) ed7 (small1000 (by rw [sd_len]; omega)), ?_⟩
      obtain ⟨hk2, hl2⟩ := hk.put hz x0 (w := x) (by omega)
      refine ⟨⟨_, rfl⟩, putS kvs z x, by rw [upd_same, put_sd], hk2, by omega, putS_le hb8 (by omega), hp7.upd ndp, SameB.new nd' ((sb5.trans sb6).trans sb7)⟩
    · rintro σ H5 ⟨⟨y2, rfl⟩, kvs, ed, hk, hl, hb8, hp5, sb5⟩
      exact ⟨_, rfl, q d kvs H5 nd' ed hk (by omega) hb8 hp5 sb5⟩
def spLroom : Sp := fun vs H Q _ => ∃ (t : Addr) (s c m : Int), vs = [.ref t] ∧ H t = some (.tup [.int s, .int c, .int m]) ∧ N3 s c m ∧ Q (.int (roomI s c m)) H
theorem ok_lroom {f : Addr} {fd : FuncData} {k : Nat} (F : Fun K "_law_room" "_law_room" s__law_room f fd) (T : Tx mg) : FnOk P w K mg base CX0 (k + 1) f fd ["_law_ship"] spLroom := by
  refine F.ok scLroom (fun vs H Q E h => ?_) (fun cdv A outer s H vs Q E hr h => ?_)
  · obtain ⟨t, s, c, m, rfl, _⟩ := h
    rfl
  · obtain ⟨t, s, c, m, rfl, ht, B, q⟩ := h
    have := B.m1
    have := B.m2
    refine ⟨_, pss_one (ps_ret (pe_callB (call_min2 rfl) (by rfl) T.min (by decide +kernel) (pa_cons (pe_ix ix_tup (pv 0) pe_int (fun _ _ => rfl)) (pa_cons (pe_op op_fdivW (pe_ix ix_tup (pv 0) pe_int (fun _ _ => rfl)) (pe_ix ix_tup (pv 0) pe_int (fun _ _ => rfl))) pa_nil)))), ?_⟩
    exact ⟨_, rfl, t, _, 0, _, rfl, rfl, SqT.of ht, atI_nat (j := 0) rfl, _, rfl, t, _, 1, _, rfl, rfl, SqT.of ht, atI_nat (j := 1) rfl, _, rfl, t, _, 2, _, rfl, rfl, SqT.of ht, atI_nat (j := 2) rfl, _, _, rfl, rfl,
      wide_div (b := 210) (by omega) (Nat.lt_of_le_of_lt (show m.natAbs ≤ 10 ^ 40 by omega) (by decide)) (by decide) (by decide), _, _, rfl, q⟩
def spMen : Sp := fun vs H Q _ => ∃ (p : Addr) (most : Int), vs = [.ref p, .int most] ∧ 0 ≤ most ∧ most ≤ 10 ^ 57 ∧ Pot H p ∧ ∀ (d : Int) (H' : Hp), 0 ≤ d → d ≤ 10 ^ 58 → Pot H' p → SameB p H H' → Q (.int d) H'
theorem ok_men {f fA fT : Addr} {fd fdA fdT : FuncData} {k : Nat} (F : Fun K "_law_men" "_law_men" s__law_men f fd) (T : Tx mg) (FA : Has K mg "_law_far" ["_law_pot_here"] s__law_far fA fdA) (FT : Has K mg "_law_take" ["_law_pot_here", "_law_room_here"] s__law_take fT fdT) : FnOk P w K mg base CX0 (k + 3) f fd ["_law_pot_here", "_law_most"] spMen := by
  have GT : FnOk P w K mg base CX0 (k + 1) fT fdT ["_law_pot_here", "_law_room_here"] spTake := ok_take FT.fn T
  have GA : FnOk P w K mg base CX0 (k + 2) fA fdA ["_law_pot_here"] spFar := ok_far FA.fn T FT
  refine F.ok scMen (fun vs H Q E h => ?_) (fun cdv A outer s H vs Q E hr h => ?_)
  · obtain ⟨p, most, rfl, _⟩ := h
    rfl
  · obtain ⟨p, most, rfl, t0, t1, hp, q⟩ := h
    have nd := scMen.nd
    have hr1 : Room (k + 1) _ := hr.mono (by omega)
    refine ⟨_, pss_cons (ps_set (i := 2) nd rfl (.inl rfl) (pe_call GT hr1 (by rfl) FT.gl FT.fn.kp FT.bd .nil pass0 (pa_cons (pv 0) (pa_cons pe_int pa_nil))))
      (pss_one (ps_ret (pe_ix ix_list (pe_lst (pa_cons (pe_call GT hr1 (by rfl) FT.gl FT.fn.kp FT.bd .nil pass0 (pa_cons (pv 0) (pa_cons pe_int pa_nil))) (pa_cons (pv 1) (pa_cons (pe_op op_add (pv 1) pe_int) (pa_cons (pe_call GA hr (by rfl) FA.gl FA.fn.kp FA.bd .nil pass0 (pa_cons (pv 0) pa_nil))
        (pa_cons pe_int pa_nil)))))) (pv 2) (fun _ _ => rfl)))), ?_⟩
    refine ⟨_, rfl, p, 5, rfl, hp, by decide, by decide, fun way H1 w0 w1 hp1 sb1 => ?_⟩
    refine ⟨_, rfl, p, 30, rfl, hp1, by decide, by decide, fun a H2 a0 a1 hp2 sb2 => ?_⟩
    refine ⟨_, rfl, _, rfl, _, _, rfl, rfl, _, rfl, p, rfl, hp2, fun c H4 c0 c1 hp4 sb4 => ?_⟩
    have sbA := (sb1.trans sb2).trans sb4
    refine ⟨by show 5 ≤ sizeLine; decide, fun l nl => ?_⟩
    have s6 := same_upd (o := .lst [V.int a, .int most, .int (most + 1), .int c, .int 0]) nl
    obtain ⟨r, er, r0, r1⟩ : ∃ r : Int, atI [V.int a, .int most, .int (most + 1), .int c, .int 0] way = some (.int r) ∧ 0 ≤ r ∧ r ≤ 10 ^ 58 := by
      have hd : way = 0 ∨ way = 1 ∨ way = 2 ∨ way = 3 ∨ way = 4 := by omega
      rcases hd with rfl | rfl | rfl | rfl | rfl
      · exact ⟨a, rfl, a0, by omega⟩
      · exact ⟨most, rfl, t0, by omega⟩
      · exact ⟨most + 1, rfl, by omega, by omega⟩
      · exact ⟨c, rfl, by omega, by omega⟩
      · exact ⟨0, rfl, by decide, by decide⟩
    exact ⟨_, rfl, l, _, way, .int r, rfl, rfl, SqL.of upd_same, er, q r _ r0 r1 (hp4.mono s6) (sbA.trans (SameB.of s6))⟩
end
end K32

set_option Elab.async false
set_option linter.all false
set_option maxRecDepth 100000
set_option maxHeartbeats 1600000
namespace K32
open PySem PySem.Spec PyProof.Rows L2 LT NdefX
abbrev nBd : List Str := ["boat", "goings", "out", "back", "stores", "men", "weight"]
theorem scBd : FnScope nBd ["boat", "goings", "out", "back", "stores"] (defScope s_barred) := ⟨rfl, rfl, rfl, by decide +kernel, rfl, by decide +kernel, by decide +kernel⟩
abbrev nDue : List Str := ["_law_ship", "_law_four", "_law_times", "_law_away", "_law_home", "_law_weight", "_law_room_here"]
theorem scDue : FnScope nDue ["_law_ship", "_law_four"] (defScope s__law_due) := ⟨rfl, rfl, rfl, by decide +kernel, rfl, by decide +kernel, by decide +kernel⟩
abbrev nTold : List Str := ["_law_way", "_law_ship", "_law_four", "_law_cargo", "_law_times", "_law_away", "_law_home"]
theorem scTold : FnScope nTold ["_law_way", "_law_ship", "_law_four", "_law_cargo"] (defScope s__law_told) := ⟨rfl, rfl, rfl, by decide +kernel, rfl, by decide +kernel, by decide +kernel⟩
/-- what bars -/
def barI (g s c m o b k : Int) : Option (Str × Int × Int) :=
  if o > g * roomI s c m then some (Str.ofString "out", o, g * roomI s c m) else if b > g * roomI s c m then some (Str.ofString "back", b, g * roomI s c m) else
  if o * m + k > g * c then some (Str.ofString "weight", o * m + k, g * c) else none
def BV (H : Hp) (v : V) : Option (Str × Int × Int) → Prop
  | none => v = .non
  | some (z, x, y) => ∃ t, v = .ref t ∧ H t = some (.tup [.str z, .int x, .int y])
theorem BV.mono {H H' : Hp} {v : V} {o : Option (Str × Int × Int)} (h : BV H v o) (s : Same H H') : BV H' v o := by
  match o, h with
  | none, h => exact h
  | some (z, x, y), h =>
    obtain ⟨t, e, h⟩ := h
    exact ⟨t, e, s _ _ h⟩
/-- the numbers of a going -/
structure Gn (g o b : Int) : Prop where
  g0 : 0 ≤ g
  g1 : g ≤ 10 ^ 17
  o0 : 0 ≤ o
  o1 : o ≤ 10 ^ 58
  b0 : 0 ≤ b
  b1 : b ≤ 10 ^ 58
theorem wd {a b : Int} (ha : a.natAbs ≤ 10 ^ 60) (hb : b.natAbs ≤ 10 ^ 60) : CMulW a b := wide_mul (a := 210) (b := 210) (Nat.lt_of_le_of_lt ha (by decide)) (Nat.lt_of_le_of_lt hb (by decide)) (by decide) (by decide) (by decide)
section
variable {P : Program} {w : World} {K : PySem.W.Frag} {mg : Str → Option Value} {base : Heap} {C : Addr}
def spBd (C : Addr) : Sp := fun vs H Q _ => ∃ (x : Addr) (s c m g o b k : Int) (v : V), vs = [.ref x, .int g, .int o, .int b, v] ∧ Bt C H x s c m ∧ Gn g o b ∧ StV H v k ∧ ∀ u H', Same H H' → BV H' u (barI g s c m o b k) → Q u H'
abbrev BdFn (K : PySem.W.Frag) (f : Addr) (fd : FuncData) : Prop := FunD K "barred" "barred" (defArgs s_barred) (defBody s_barred) (defScope s_barred) [.int 0, .non] [] f fd
theorem ok_bd {f fR fT fC fS fN fF fW f1 f2 f3 : Addr} {fd fdR fdT fdC fdS fdN fdF fdW fd1 fd2 fd3 : FuncData} {k : Nat} (F : BdFn K f fd) (T : Tx mg) (S : Cs mg) (Z : Ct K mg C) (M : M3 K C f1 f2 f3 fd1 fd2 fd3)
    (FR : Has K mg "room_of" ["boat"] s_room_of fR fdR) (FT : Has K mg "weight_out" ["boat", "out", "stores"] s_weight_out fT fdT) (FC : Has K mg "check_wanted" ["out", "back", "stores"] s_check_wanted fC fdC)
    (FS : Has K mg "are_stores" ["thing"] s_are_stores fS fdS) (FN : Has K mg "is_name" ["thing"] s_is_name fN fdN) (FF : Has K mg "is_from" ["thing", "least"] s_is_from fF fdF) (FW : Has K mg "is_whole" ["thing"] s_is_whole fW fdW) :
    FnOk P w K mg base CX0 (k + 5) f fd ["boat", "goings", "out", "back", "stores"] (spBd C) := by
  have GF : FnOk P w K mg base CX0 (k + 2) fF fdF ["thing", "least"] spFrom := ok_from FF.fn T FW
  have GR : FnOk P w K mg base CX0 (k + 2) fR fdR ["boat"] (spRoom C) := ok_room FR.fn T Z M
  have GT : FnOk P w K mg base CX0 (k + 2) fT fdT ["boat", "out", "stores"] (spWt C) := ok_wt FT.fn T Z M
  have GC : FnOk P w K mg base CX0 (k + 4) fC fdC ["out", "back", "stores"] spCw := ok_cw FC.fn T S FS FN FF FW
  have G2 : FnOk P w K mg base CX0 (k + 1) f2 fd2 ["self"] (spGet C fun _ c _ => c) := ok_carries M.ca.fn Z
  refine F.ok scBd (fun vs H Q E h => ?_) (fun cdv A outer s H vs Q E hr h => ?_)
  · obtain ⟨x, s, c, m, g, o, b, k, v, rfl, _⟩ := h
    rfl
  · obtain ⟨x, sv, c, m, g, o, b, k', v, rfl, B, ⟨g0, g1', o0, o1, b0, b1⟩, hs, q⟩ := h
    have nd := scBd.nd
    have hr2 : Room (k + 2) _ := hr.mono (by omega)
    have hr1 : Room (k + 1) _ := hr.mono (by omega)
    refine ⟨_, pss_cons (ps_if (pt_not (pt_val (pe_call GF hr2 (by rfl) FF.gl FF.fn.kp FF.bd .nil pass0 (pa_cons (pv 1) (pa_cons pe_int pa_nil))))) (pss_one ps_no) pss_nil)
      (pss_cons (ps_expr (pe_call GC hr (by rfl) FC.gl FC.fn.kp FC.bd .nil pass0 (pa_cons (pv 2) (pa_cons (pv 3) (pa_cons (pv 4) pa_nil)))))
      (pss_cons (ps_set (i := 5) nd rfl (.inl rfl) (pe_op op_mulW (pv 1) (pe_call GR hr2 (by rfl) FR.gl FR.fn.kp FR.bd .nil pass0 (pa_cons (pv 0) pa_nil))))
      (pss_cons (ps_if (pt_cmpR op_gt (pv 2) (pv 5) (nomark _)) (pss_one (ps_ret (pe_tup (pa_cons pe_str (pa_cons (pv 2) (pa_cons (pv 5) pa_nil)))))) pss_nil)
      (pss_cons (ps_if (pt_cmpR op_gt (pv 3) (pv 5) (nomark _)) (pss_one (ps_ret (pe_tup (pa_cons pe_str (pa_cons (pv 3) (pa_cons (pv 5) pa_nil)))))) pss_nil)
      (pss_cons (ps_set (i := 6) nd rfl (.inl rfl) (pe_call GT hr2 (by rfl) FT.gl FT.fn.kp FT.bd .nil pass0 (pa_cons (pv 0) (pa_cons (pv 2) (pa_cons (pv 4) pa_nil)))))
      (pss_cons (ps_if (pt_cmpR op_gt (pv 6) (pe_op op_mulW (pv 1) (pe_meth0 (pv 0) Z.cl M.ca.me G2 hr1 M.ca.bd .nil pass0)) (nomark _)) (pss_one (ps_ret (pe_tup (pa_cons pe_str (pa_cons (pv 6) (pa_cons (pe_op op_mulW (pv 1) (pe_meth0 (pv 0) Z.cl M.ca.me G2 hr1 M.ca.bd .nil pass0)) pa_nil)))))) pss_nil)
      (pss_one (ps_ret pe_non)))))))), ?_⟩
    refine ⟨_, rfl, .int g, 0, rfl, .int g, _, rfl, ?_⟩
    rw [show fromB (.int g) 0 = true from decide_eq_true g0]
    refine ⟨_, rfl, _, rfl, _, rfl, o, b, k', v, rfl, o0, b0, hs, fun H1 s1 => ?_⟩
    have B1 := B.mono s1
    obtain ⟨dx, hx⟩ := B1.at_
    obtain ⟨rm0, rm1⟩ := room_bd B.s1 B.c1 B.m1
    have hs2 := B.s2
    have hc1 := B.c1
    have hc2 := B.c2
    refine ⟨_, rfl, _, rfl, x, sv, c, m, rfl, B1, _, _, rfl, rfl, wd (by omega) (by omega), ?_⟩
    refine ⟨_, rfl, _, rfl, o, _, rfl, rfl, _, rfl, ite2 (fun h => ?_) (fun h => ?_)⟩
    · refine ⟨_, rfl, _, rfl, by show 3 ≤ sizeLine; decide, fun t nt => ?_⟩
      refine q _ _ (s1.trans (same_upd nt)) ?_
      unfold barI
      rw [if_pos (of_decide_eq_true h)]
      exact ⟨t, rfl, upd_same⟩
    have h1 := of_decide_eq_false (bool_false h)
    refine ⟨_, rfl, _, rfl, b, _, rfl, rfl, _, rfl, ite2 (fun h => ?_) (fun h => ?_)⟩
    · refine ⟨_, rfl, _, rfl, by show 3 ≤ sizeLine; decide, fun t nt => ?_⟩
      refine q _ _ (s1.trans (same_upd nt)) ?_
      unfold barI
      rw [if_neg h1, if_pos (of_decide_eq_true h)]
      exact ⟨t, rfl, upd_same⟩
    have h2 := of_decide_eq_false (bool_false h)
    refine ⟨_, rfl, _, rfl, _, rfl, x, sv, c, m, o, k', v, rfl, B1, o0, by omega, hs.mono s1, ?_⟩
    have ww : CMulW g c := wd (by omega) (by omega)
    refine ⟨_, rfl, _, rfl, _, rfl, x, dx, _, rfl, hx, g2, x, dx, _, _, _, rfl, hx, _, _, rfl, rfl, ww, _, _, rfl, rfl, _, rfl, ite2 (fun h => ?_) (fun h => ?_)⟩
    · refine ⟨_, rfl, _, rfl, _, rfl, x, dx, _, rfl, hx, g2, x, dx, _, _, _, rfl, hx, _, _, rfl, rfl, ww, by show 3 ≤ sizeLine; decide, fun t nt => ?_⟩
      refine q _ _ (s1.trans (same_upd nt)) ?_
      unfold barI
      rw [if_neg h1, if_neg h2, if_pos (of_decide_eq_true h)]
      exact ⟨t, rfl, upd_same⟩
    · refine q .non H1 s1 ?_
      unfold barI
      rw [if_neg h1, if_neg h2, if_neg (of_decide_eq_false (bool_false h))]
      rfl
/-! ### due -/
def spDue : Sp := fun vs H Q _ => ∃ (t u : Addr) (s c m g o b k : Int), vs = [.ref t, .ref u] ∧ H t = some (.tup [.int s, .int c, .int m]) ∧ N3 s c m ∧ H u = some (.tup [.int g, .int o, .int b, .int k]) ∧ Gn g o b ∧ ∀ v H', Same H H' → BV H' v (barI g s c m o b k) → Q v H'
theorem ok_due {f fR : Addr} {fd fdR : FuncData} {k : Nat} (F : Fun K "_law_due" "_law_due" s__law_due f fd) (T : Tx mg) (FR : Has K mg "_law_room" ["_law_ship"] s__law_room fR fdR) : FnOk P w K mg base CX0 (k + 2) f fd ["_law_ship", "_law_four"] spDue := by
  have GR : FnOk P w K mg base CX0 (k + 1) fR fdR ["_law_ship"] spLroom := ok_lroom FR.fn T
  refine F.ok scDue (fun vs H Q E h => ?_) (fun cdv A outer s H vs Q E hr h => ?_)
  · obtain ⟨t, u, s, c, m, g, o, b, k, rfl, _⟩ := h
    rfl
  · obtain ⟨t, u, sv, c, m, g, o, b, k', rfl, ht, N, hu4, ⟨g0, g1', o0, o1, b0, b1⟩, q⟩ := h
    have nd := scDue.nd
    obtain ⟨r0, r1⟩ := room_bd N.s1 N.c1 N.m1
    have s2 := N.s2
    have c1' := N.c1
    have c2' := N.c2
    have m1' := N.m1
    have m2' := N.m2
    refine ⟨_, pss_cons (ps_asg (pv 1) (pg_tup rfl (pgs_cons (pg_name (i := 2) nd rfl (.inl rfl)) (pgs_cons (pg_name (i := 3) nd rfl (.inl rfl)) (pgs_cons (pg_name (i := 4) nd rfl (.inl rfl)) (pgs_cons (pg_name (i := 5) nd rfl (.inl rfl)) pgs_nil))))))
      (pss_cons (ps_set (i := 6) nd rfl (.inl rfl) (pe_call GR hr (by rfl) FR.gl FR.fn.kp FR.bd .nil pass0 (pa_cons (pv 0) pa_nil)))
      (pss_cons (ps_if (pt_cmpR op_gt (pv 3) (pe_op op_mulW (pv 2) (pv 6)) (nomark _)) (pss_one (ps_ret (pe_tup (pa_cons pe_str (pa_cons (pv 3) (pa_cons (pe_op op_mulW (pv 2) (pv 6)) pa_nil)))))) pss_nil)
      (pss_cons (ps_if (pt_cmpR op_gt (pv 4) (pe_op op_mulW (pv 2) (pv 6)) (nomark _)) (pss_one (ps_ret (pe_tup (pa_cons pe_str (pa_cons (pv 4) (pa_cons (pe_op op_mulW (pv 2) (pv 6)) pa_nil)))))) pss_nil)
      (pss_cons (ps_if (pt_cmpR op_gt (pe_op op_add (pe_op op_mulW (pv 3) (pe_ix ix_tup (pv 0) pe_int (fun _ _ => rfl))) (pv 5)) (pe_op op_mulW (pv 2) (pe_ix ix_tup (pv 0) pe_int (fun _ _ => rfl))) (nomark _))
        (pss_one (ps_ret (pe_tup (pa_cons pe_str (pa_cons (pe_op op_add (pe_op op_mulW (pv 3) (pe_ix ix_tup (pv 0) pe_int (fun _ _ => rfl))) (pv 5)) (pa_cons (pe_op op_mulW (pv 2) (pe_ix ix_tup (pv 0) pe_int (fun _ _ => rfl))) pa_nil)))))) pss_nil)
      (pss_one (ps_ret pe_non)))))), ?_⟩
    have w1 : CMulW g (roomI sv c m) := wd (by omega) (by omega)
    have w2 : CMulW o m := wd (by omega) (by omega)
    have w3 : CMulW g c := wd (by omega) (by omega)
    refine ⟨_, rfl, u, _, rfl, SqT.of hu4, rfl, _, _, rfl, _, _, rfl, _, _, rfl, _, _, rfl, rfl, ?_⟩
    refine ⟨_, rfl, t, sv, c, m, rfl, ht, N, ?_⟩
    refine ⟨_, rfl, _, rfl, _, rfl, _, _, rfl, rfl, w1, o, _, rfl, rfl, _, rfl, ite2 (fun h => ?_) (fun h => ?_)⟩
    · refine ⟨_, rfl, _, rfl, _, rfl, _, _, rfl, rfl, w1, by show 3 ≤ sizeLine; decide, fun t' nt => ?_⟩
      refine q _ _ (same_upd nt) ?_
      unfold barI
      rw [if_pos (of_decide_eq_true h)]
      exact ⟨t', rfl, upd_same⟩
    have h1 := of_decide_eq_false (bool_false h)
    refine ⟨_, rfl, _, rfl, _, rfl, _, _, rfl, rfl, w1, b, _, rfl, rfl, _, rfl, ite2 (fun h => ?_) (fun h => ?_)⟩
    · refine ⟨_, rfl, _, rfl, _, rfl, _, _, rfl, rfl, w1, by show 3 ≤ sizeLine; decide, fun t' nt => ?_⟩
      refine q _ _ (same_upd nt) ?_
      unfold barI
      rw [if_neg h1, if_pos (of_decide_eq_true h)]
      exact ⟨t', rfl, upd_same⟩
    have h2 := of_decide_eq_false (bool_false h)
    refine ⟨_, rfl, _, rfl, t, _, 2, _, rfl, rfl, SqT.of ht, atI_nat (j := 2) rfl, _, _, rfl, rfl, w2, _, rfl, _, _, rfl, rfl, _, rfl, _, rfl, t, _, 1, _, rfl, rfl, SqT.of ht, atI_nat (j := 1) rfl, _, _, rfl, rfl, w3, _, _, rfl, rfl, _, rfl, ite2 (fun h => ?_) (fun h => ?_)⟩
    · refine ⟨_, rfl, _, rfl, t, _, 2, _, rfl, rfl, SqT.of ht, atI_nat (j := 2) rfl, _, _, rfl, rfl, w2, _, rfl, _, _, rfl, rfl, _, rfl, _, rfl, t, _, 1, _, rfl, rfl, SqT.of ht, atI_nat (j := 1) rfl, _, _, rfl, rfl, w3, by show 3 ≤ sizeLine; decide, fun t' nt => ?_⟩
      refine q _ _ (same_upd nt) ?_
      unfold barI
      rw [if_neg h1, if_neg h2, if_pos (of_decide_eq_true h)]
      exact ⟨t', rfl, upd_same⟩
    · refine q .non H (Same.refl H) ?_
      unfold barI
      rw [if_neg h1, if_neg h2, if_neg (of_decide_eq_false (bool_false h))]
      rfl
end
end K32

set_option Elab.async false
set_option linter.all false
set_option maxRecDepth 100000
set_option maxHeartbeats 1600000
namespace K32
open PySem PySem.Spec PyProof.Rows L2 LT NdefX
abbrev nFil : List Str := ["_law_pot_here", "_law_cargo", "_law_left", "_law_way", "_law_gone", "_law_name_here"]
theorem scFil : FnScope nFil ["_law_pot_here", "_law_cargo", "_law_left"] (defScope s__law_filled) := ⟨rfl, rfl, rfl, by decide +kernel, rfl, by decide +kernel, by decide +kernel⟩
section
variable {P : Program} {w : World} {K : PySem.W.Frag} {mg : Str → Option Value} {base : Heap} {C : Addr}
/-- f(k = v, ..) of a def with defaults -/
theorem pe_callKn {X : Cx} {CX : CXT} {k : Nat} {f : Addr} {fd : FuncData} {ps ks : List Str} {sp : Sp} {E : XK} {x : Str} {p pos : Pos} {kws : List Keyword} {tk : TA} {g : List Value → List Value → List Value} {gV : List V → List V → List V}
    (F : FnOk X.prog X.w X.K X.mg X.base CX k f fd ps sp) (hr : Room k X.A) (hg : Gl X x) (hm : X.mg x = some (.ref f)) (hk : PySem.W.keepIn X.K (.ref f) = true) (hb : KBn X.K fd ps 0 ks g gV) (hx : Passes CX X E) (hkw : PK X kws tk)
    (hall : (backToKw pos (keywordEach kws X.env)).all (·.1.isSome) = true := by rfl)
    (hks : (backToKw pos (keywordEach kws X.env)).filterMap (·.1) = ks := by rfl)
    (hdb : (x == ("__debug__" : Str)) = false := by decide)
    (hpl : ((backTo pos (starEach [] X.env)).any (·.1) || (backToKw pos (keywordEach kws X.env)).any (·.1.isNone)) = false := by rfl) :
    PE X (.Call (.Name x p) [] kws pos) (L2.tCallN 0 ks.length sp gV E tNil tk) := by
  refine ⟨fun pins s σ H Q I h => wpAny_Call_Name_kw (ld_glob I hg hm ?_ hdb)⟩
  refine PySem.W.callWith_KW0 (h₀ := X.base) I.ok.mod.kin hk hall ?_ hpl
  refine thn (hkw.run pos pins s σ H _ I h) fun ws s2 ⟨zs, H2, I2, rz, l1, l2, q2⟩ => ⟨I2.kIn, ?_⟩
  rw [hks]
  exact run_fnN (us := []) (vs := []) F hr hb hx I2 .nil rz rfl l2 q2
/-! ### told by each of five ways -/
def bE (way b : Int) : Int := if way < 3 then b else 0
def kE (way k : Int) : Int := if way < 2 then k else 0
def spTold (C : Addr) : Sp := fun vs H Q _ => ∃ (way : Int) (x u : Addr) (s c m g o b k : Int) (v : V), vs = [.int way, .ref x, .ref u, v] ∧ 0 ≤ way ∧ way < 5 ∧ Bt C H x s c m ∧ H u = some (.tup [.int g, .int o, .int b]) ∧ Gn g o b ∧ StV H v k ∧
  ∀ r H', Same H H' → BV H' r (barI g s c m o (bE way b) (kE way k)) → Q r H'
theorem Gn.zero {g o b : Int} (h : Gn g o b) : Gn g o 0 := ⟨h.g0, h.g1, h.o0, h.o1, by decide, by decide⟩
theorem ok_told {f fB : Addr} {fd fdB : FuncData} {k : Nat} (F : Fun K "_law_told" "_law_told" s__law_told f fd) (FB : BdFn K fB fdB) (gB : mg "barred" = some (.ref fB)) (kB : PySem.W.keepIn K (.ref fB) = true)
    (GB : FnOk P w K mg base CX0 (k + 5) fB fdB ["boat", "goings", "out", "back", "stores"] (spBd C)) : FnOk P w K mg base CX0 (k + 6) f fd ["_law_way", "_law_ship", "_law_four", "_law_cargo"] (spTold C) := by
  obtain ⟨d5, v5, b5⟩ := FB.binds1 (ps := ["boat", "goings", "out", "back", "stores"]) 5 2 (by simp) (by rfl) (fun _ _ _ _ _ _ _ us its h1 h2 => match us, its, h1, h2 with | [_, _, _, _, _], [_, _], _, _ => ⟨_, rfl, rfl⟩)
  obtain ⟨d4, v4, b4⟩ := FB.binds1 (ps := ["boat", "goings", "out", "back", "stores"]) 4 1 (by simp) (by rfl) (fun _ _ _ _ _ _ _ us its h1 h2 => match us, its, h1, h2 with | [_, _, _, _], [_, _], _, _ => ⟨_, rfl, rfl⟩)
  obtain ⟨d3, v3, b3⟩ := FB.binds1 (ps := ["boat", "goings", "out", "back", "stores"]) 3 0 (by simp) (by rfl) (fun _ _ _ _ _ _ _ us its h1 h2 => match us, its, h1, h2 with | [_, _, _], [_, _], _, _ => ⟨_, rfl, rfl⟩)
  obtain ⟨i1, k1⟩ := FB.kbindsD (ps := ["boat", "goings", "out", "back", "stores"]) 0 ["stores", "back", "out", "goings", "boat"] (fun us _ ws => us ++ ws.reverse) (by simp) (fun r1 _ r3 => r1.append (vals_rev r3))
    (fun _ _ _ _ _ _ _ us its ws h1 h2 h3 => match us, its, ws, h1, h2, h3 with | [], [_, _], [_, _, _, _, _], _, _, _ => ⟨_, rfl, rfl⟩)
  obtain ⟨i2, k2⟩ := FB.kbindsD (ps := ["boat", "goings", "out", "back", "stores"]) 3 ["stores"] (fun us ds ws => us ++ (ds.take 1 ++ ws)) (by simp) (fun r1 r2 r3 => r1.append ((r2.take 1).append r3))
    (fun _ _ _ _ _ _ _ us its ws h1 h2 h3 => match us, its, ws, h1, h2, h3 with | [_, _, _], [_, _], [_], _, _, _ => ⟨_, rfl, rfl⟩)
  refine F.ok scTold (fun vs H Q E h => ?_) (fun cdv A outer s H vs Q E hr h => ?_)
  · obtain ⟨way, x, u, s, c, m, g, o, b, k, v, rfl, _⟩ := h
    rfl
  · obtain ⟨way, x, u, sv, c, m, g, o, b, k', v, rfl, w0, w1, B, hu4, G, hs, q⟩ := h
    have nd := scTold.nd
    refine ⟨_, pss_cons (ps_asg (pv 2) (pg_tup rfl (pgs_cons (pg_name (i := 4) nd rfl (.inl rfl)) (pgs_cons (pg_name (i := 5) nd rfl (.inl rfl)) (pgs_cons (pg_name (i := 6) nd rfl (.inl rfl)) pgs_nil)))))
      (pss_cons (ps_if (pt_cmpR op_eq (pv 0) pe_int (nomark _)) (pss_one (ps_ret (pe_call GB hr (by rfl) gB kB b5 v5 pass0 (pa_cons (pv 1) (pa_cons (pv 4) (pa_cons (pv 5) (pa_cons (pv 6) (pa_cons (pv 3) pa_nil)))))))) pss_nil)
      (pss_cons (ps_if (pt_cmpR op_eq (pv 0) pe_int (nomark _)) (pss_one (ps_ret (pe_callKn GB hr (by rfl) gB kB k1 pass0 (pk_cons (pv 3) (pk_cons (pv 6) (pk_cons (pv 5) (pk_cons (pv 4) (pk_cons (pv 1) pk_nil)))))))) pss_nil)
      (pss_cons (ps_if (pt_cmpR op_eq (pv 0) pe_int (nomark _)) (pss_one (ps_ret (pe_call GB hr (by rfl) gB kB b4 v4 pass0 (pa_cons (pv 1) (pa_cons (pv 4) (pa_cons (pv 5) (pa_cons (pv 6) pa_nil))))))) pss_nil)
      (pss_cons (ps_if (pt_cmpR op_eq (pv 0) pe_int (nomark _)) (pss_one (ps_ret (L2.pe_callN GB hr (by rfl) gB kB k2 pass0 (pa_cons (pv 1) (pa_cons (pv 4) (pa_cons (pv 5) pa_nil))) (pk_cons pe_non pk_nil)))) pss_nil)
      (pss_one (ps_ret (pe_call GB hr (by rfl) gB kB b3 v3 pass0 (pa_cons (pv 1) (pa_cons (pv 4) (pa_cons (pv 5) pa_nil)))))))))), ?_⟩
    refine ⟨_, rfl, u, _, rfl, SqT.of hu4, rfl, _, _, rfl, _, _, rfl, _, _, rfl, rfl, ?_⟩
    refine ⟨_, rfl, rfl, _, rfl, ite2 (fun h => ?_) (fun n0 => ?_)⟩
    · have e : way = 0 := V.int.inj (of_decide_eq_true h)
      subst e
      exact ⟨_, rfl, _, rfl, _, rfl, _, rfl, _, rfl, x, sv, c, m, g, o, b, k', v, rfl, B, G, hs, q⟩
    refine ⟨_, rfl, rfl, _, rfl, ite2 (fun h => ?_) (fun n1 => ?_)⟩
    · have e : way = 1 := V.int.inj (of_decide_eq_true h)
      subst e
      exact ⟨_, rfl, _, rfl, _, rfl, _, rfl, _, rfl, rfl, rfl, x, sv, c, m, g, o, b, k', v, rfl, B, G, hs, q⟩
    refine ⟨_, rfl, rfl, _, rfl, ite2 (fun h => ?_) (fun n2 => ?_)⟩
    · have e : way = 2 := V.int.inj (of_decide_eq_true h)
      subst e
      exact ⟨_, rfl, _, rfl, _, rfl, _, rfl, x, sv, c, m, g, o, b, 0, .non, rfl, B, G, .non, q⟩
    refine ⟨_, rfl, rfl, _, rfl, ite2 (fun h => ?_) (fun n3 => ?_)⟩
    · have e : way = 3 := V.int.inj (of_decide_eq_true h)
      subst e
      exact ⟨_, rfl, _, rfl, _, rfl, rfl, rfl, x, sv, c, m, g, o, 0, 0, .non, rfl, B, G.zero, .non, q⟩
    · have e : way = 4 := by
        have m0 : ¬ way = 0 := fun z => n0 (decide_eq_true (by rw [z]))
        have m1 : ¬ way = 1 := fun z => n1 (decide_eq_true (by rw [z]))
        have m2 : ¬ way = 2 := fun z => n2 (decide_eq_true (by rw [z]))
        have m3 : ¬ way = 3 := fun z => n3 (decide_eq_true (by rw [z]))
        omega
      subst e
      exact ⟨_, rfl, _, rfl, _, rfl, x, sv, c, m, g, o, 0, 0, .non, rfl, B, G.zero, .non, q⟩
/-! ### filled -/
theorem valS (z : Str) : ∀ (kvs : List (Str × Int)), (valV (sd kvs) (Sum.inr z : Key) = none ∧ z ∉ kvs.map (·.1)) ∨ ∃ y : Int, valV (sd kvs) (Sum.inr z : Key) = some (.int y) ∧ (z, y) ∈ kvs
  | [] => .inl ⟨rfl, by simp⟩
  | p :: r => by
    have e : sd (p :: r) = ((Sum.inr p.1 : Key), V.int p.2) :: sd r := rfl
    rw [e]
    by_cases h : p.1 = z
    · refine .inr ⟨p.2, valV_pos (by show (Sum.inr p.1 : Key) = _; rw [h]), ?_⟩
      rw [← h]
      exact List.mem_cons_self
    · rw [valV_neg (by intro e; exact h (Sum.inr.inj e))]
      rcases valS z r with ⟨a, b⟩ | ⟨y, a, b⟩
      · refine .inl ⟨a, ?_⟩
        rw [List.map_cons, List.mem_cons]
        rintro (e | e)
        · exact h e.symm
        · exact b e
      · exact .inr ⟨y, a, List.mem_cons_of_mem _ b⟩
theorem le_wsum : ∀ {kvs : List (Str × Int)}, (∀ p ∈ kvs, 1 ≤ p.2) → ∀ p ∈ kvs, p.2 ≤ wsum kvs
  | [], _, p, hp => nomatch hp
  | p :: r, h, q, hq => by
    have h1 := wsum_nonneg (kvs := r) fun q hq => h q (List.mem_cons_of_mem _ hq)
    have h2 := h p List.mem_cons_self
    have e : wsum (p :: r) = p.2 + wsum r := by
      unfold wsum
      rw [List.map_cons, List.sum_cons]
    rcases List.mem_cons.mp hq with rfl | hq
    · omega
    · have := le_wsum (kvs := r) (fun q hq => h q (List.mem_cons_of_mem _ hq)) q hq
      omega
def Same2 (p d : Addr) (H H' : Hp) : Prop := ∀ b o, b ≠ p → b ≠ d → H b = some o → H' b = some o
def spFil : Sp := fun vs H Q _ => ∃ (p d : Addr) (kvs : List (Str × Int)) (left : Int), vs = [.ref p, .ref d, .int left] ∧ Pot H p ∧ H d = some (.dK (sd kvs)) ∧ Kv kvs ∧ kvs.length ≤ 8 ∧ (∀ q ∈ kvs, q.2 ≤ 10 ^ 60) ∧ left ≤ 10 ^ 59 ∧
  ∀ (kvs' : List (Str × Int)) (H' : Hp), H' d = some (.dK (sd kvs')) → Kv kvs' → kvs'.length ≤ 8 → (∀ q ∈ kvs', q.2 ≤ 10 ^ 60) → Pot H' p → Same2 p d H H' → Q .non H'
theorem putS_len {kvs : List (Str × Int)} {z : Str} {w : Int} (h : z ∈ kvs.map (·.1)) : (putS kvs z w).length = kvs.length := by
  unfold putS
  rw [if_pos h, List.length_map]
theorem ok_fil {f fT : Addr} {fd fdT : FuncData} {k : Nat} (F : Fun K "_law_filled" "_law_filled" s__law_filled f fd) (T : Tx mg) (FT : Has K mg "_law_take" ["_law_pot_here", "_law_room_here"] s__law_take fT fdT) : FnOk P w K mg base CX0 (k + 2) f fd ["_law_pot_here", "_law_cargo", "_law_left"] spFil := by
  have GT : FnOk P w K mg base CX0 (k + 1) fT fdT ["_law_pot_here", "_law_room_here"] spTake := ok_take FT.fn T
  refine F.ok scFil (fun vs H Q E h => ?_) (fun cdv A outer s H vs Q E hr h => ?_)
  · obtain ⟨p, d, kvs, left, rfl, _⟩ := h
    rfl
  · obtain ⟨p, d, kvs, left, rfl, hp, hd, hk, hl, hb, l1, q⟩ := h
    have nd := scFil.nd
    have hu := hu_of hr
    have hu0 := hr.units0
    have ndp : d ≠ p := ne_of_pot hp hd
    refine ⟨_, pss_cons (ps_set (i := 3) nd rfl (.inl rfl) (pe_call GT hr (by rfl) FT.gl FT.fn.kp FT.bd .nil pass0 (pa_cons (pv 0) (pa_cons pe_int pa_nil))))
      (pss_cons (ps_set (i := 4) nd rfl (.inl rfl) (pe_sumVals rfl (by rfl) T.sum (pv 1)))
      (pss_one (ps_if (PW.pt (pw_and (pt_cmpR op_lt (pv 3) pe_int (nomark _)) (pw_and (pt_cmpR (op_neE hu0) (pv 1) pe_dnewK (nomark _)) (pw_and1 (pt_cmpR op_gt (pe_op op_add (pv 2) (pv 3)) (pv 4) (nomark _))))))
        (pss_cons (ps_set (i := 5) nd rfl (.inl rfl) (pe_ix ix_list (pe_callB (call_sortedD rfl) (by rfl) T.sorted (by decide +kernel) (pa_cons (pv 1) pa_nil)) (pe_call GT hr (by rfl) FT.gl FT.fn.kp FT.bd .nil pass0 (pa_cons (pv 0) (pa_cons (pe_callB call_lenD (by rfl) T.len PySem.boot_len (pa_cons (pv 1) pa_nil)) pa_nil))) (fun _ _ => rfl)))
        (pss_one (ps_dput hu (pv 1) (pv 5) (pe_op op_sub (pe_op op_add (pe_op op_add (pe_dget hu (pv 1) (pv 5) (fun _ _ => rfl)) (pv 2)) (pv 3)) (pv 4)) rfl))) pss_nil))), ?_⟩
    refine ⟨_, rfl, p, 3, rfl, hp, by decide, by decide, fun way H1 w0 w1 hp1 sb1 => ?_⟩
    have hd1 := sb1 _ _ ndp hd
    refine ⟨_, rfl, d, _, _, rfl, hd1, sd_vals kvs, ?_⟩
    have s2 : Same2 p d H H1 := fun a o h1 h2 e => sb1 a o h1 e
    refine ⟨_, rfl, way, 2, rfl, rfl, _, rfl, ?_⟩
    by_cases c1 : ¬ way < 2
    · rw [decide_eq_false c1]
      exact iteF (q kvs H1 hd1 hk hl hb hp1 s2)
    have c1 : way < 2 := by omega
    rw [decide_eq_true c1]
    refine ⟨_, rfl, fun e ne => ⟨d, e, _, rfl, rfl, (same_upd ne) _ _ hd1, upd_same, _, rfl, ?_⟩⟩
    have s3 := same_upd (o := .dK []) ne
    have hd2 := s3 _ _ hd1
    have hp2 := hp1.mono s3
    have s4 : Same2 p d H (upd H1 e (.dK [])) := fun a o h1 h2 e' => s3 _ _ (s2 a o h1 h2 e')
    generalize upd H1 e (.dK []) = H2 at *
    by_cases hz : kvs = []
    · subst hz
      exact iteF (q [] H2 hd2 hk hl hb hp2 s4)
    have hlen : 1 ≤ kvs.length := by
      cases kvs with
      | nil => exact absurd rfl hz
      | cons p0 r0 => simp
    have hE : (!(sd kvs).isEmpty) = true := by
      cases kvs with
      | nil => exact absurd rfl hz
      | cons p0 r0 => rfl
    rw [hE]
    refine ⟨_, rfl, _, rfl, _, _, rfl, rfl, _, rfl, _, _, rfl, rfl, _, rfl, ?_⟩
    have eg : (kvs.map (·.2)).sum = wsum kvs := rfl
    rw [eg]
    by_cases c3 : ¬ wsum kvs < left + way
    · rw [decide_eq_false c3]
      exact iteF (q kvs H2 hd2 hk hl hb hp2 s4)
    have c3 : wsum kvs < left + way := by omega
    rw [decide_eq_true c3]
    refine ⟨_, rfl, d, _, kvs.map (·.1), rfl, .inl hd2, sd_keys kvs, by rw [List.length_map]; omega, fun ys l pm hs nl => ?_⟩
    have s5 := same_upd (o := .lst (ys.map V.str)) nl
    have nlp : l ≠ p := hp2.ne nl
    have hl3 := upd_same (H := H2) (a := l) (o := .lst (ys.map V.str))
    have hd3 := s5 _ _ hd2
    have hp3 := hp2.mono s5
    have s6 : Same2 p d H (upd H2 l (.lst (ys.map V.str))) := fun a o h1 h2 e' => s5 _ _ (s4 a o h1 h2 e')
    generalize upd H2 l (.lst (ys.map V.str)) = H3 at *
    refine ⟨_, rfl, _, rfl, d, _, rfl, hd3, p, _, rfl, hp3, by rw [sd_len]; omega, by rw [sd_len]; omega, fun j H4 j0 j1 hp4 sb4 => ?_⟩
    rw [sd_len] at j1
    have hl4 := sb4 _ _ nlp hl3
    have hd4 := sb4 _ _ ndp hd3
    obtain ⟨j, rfl⟩ := Int.eq_ofNat_of_zero_le j0
    have hy : ys.length = kvs.length := by rw [pm.length_eq, List.length_map]
    have hj : j < ys.length := by omega
    obtain ⟨z, ez⟩ : ∃ z, ys[j]? = some z := ⟨_, List.getElem?_eq_getElem hj⟩
    have mz : z ∈ kvs.map (·.1) := pm.mem_iff.mp (List.mem_of_getElem? ez)
    refine ⟨l, _, _, .str z, rfl, rfl, SqL.of hl4, atI_nat (by rw [List.getElem?_map, ez]; rfl), ?_⟩
    rcases valS z kvs with ⟨_, nz⟩ | ⟨y, ey, my⟩
    · exact absurd mz nz
    have dg : DGet H4 d (.str z) (some (.int y)) := by
      have := DGet.k (k := (Sum.inr z : Key)) hd4
      rw [ey] at this
      exact this
    have y1 := hk.w1 _ my
    have y2 := le_wsum hk.w1 _ my
    refine ⟨_, rfl, _, rfl, d, .int y, rfl, dg, _, rfl, _, _, rfl, rfl, _, rfl, _, _, rfl, rfl, _, rfl, _, _, rfl, rfl, _, rfl, _, rfl, d, _, rfl, DPut.k (k := (Sum.inr z : Key)) hd4 (small1000 (by rw [sd_len]; omega)), ?_⟩
    have hw0 : 1 ≤ y + left + way - wsum kvs := by simp only at y1 y2; omega
    have hw1 : y + left + way - wsum kvs ≤ 10 ^ 60 := by simp only at y1 y2; omega
    obtain ⟨hk5, _⟩ := hk.put (z := z) (w := y + left + way - wsum kvs) (hk.nm _ my) hw0 (by omega)
    refine q (putS kvs z (y + left + way - wsum kvs)) _ (by rw [upd_same, ← put_sd]) hk5 (by rw [putS_len mz]; exact hl) (putS_le hb hw1) (hp4.upd ndp) (fun a o h1 h2 e' => ?_)
    rw [upd_ne h2]
    exact sb4 _ _ h1 (s6 a o h1 h2 e')
end
end K32

set_option Elab.async false
set_option linter.all false
set_option maxRecDepth 100000
set_option maxHeartbeats 1600000
namespace K32
open PySem PySem.Spec PyProof.Rows L2 LT NdefX
abbrev nRi : List Str := ["_law_ship", "_law_numbers", "_law_four", "_law_cargo", "_law_kept", "_law_way", "_law_weight", "_law_due_here"]
theorem scRi : FnScope nRi ["_law_ship", "_law_numbers", "_law_four", "_law_cargo"] (defScope s__law_right) := ⟨rfl, rfl, rfl, by decide +kernel, rfl, by decide +kernel, by decide +kernel⟩
/-! ### what bars, shown -/
def barD : Option (Str × Int × Int) → PyData
  | none => .none
  | some (z, x, y) => .tuple [.str z, .int x, .int y]
theorem lg120 {i : Int} (h : i.natAbs ≤ 10 ^ 120) : i.natAbs.log2 < 1920 := by
  rcases Nat.eq_zero_or_pos i.natAbs with z | z
  · rw [z]; decide
  · rw [Nat.log2_lt (by omega)]
    exact Nat.lt_of_le_of_lt h (by decide)
theorem tlen120 {i : Int} (h : i.natAbs ≤ 10 ^ 120) : (Str.ofString (toString i)).length ≤ 404 := by
  rw [PySem.ofString_length]
  rcases Nat.eq_zero_or_pos i.natAbs with z | z
  · rw [show i = 0 by omega]; decide
  · have : i.natAbs.log2 < 403 := by
      rw [Nat.log2_lt (by omega)]
      exact Nat.lt_of_le_of_lt h (by decide)
    exact Nat.le_trans (int_text_length_le (k := 403) (by decide) this) (by decide)
theorem tup_fit {z : Str} {x y : Int} (hz : (PyData.str z).showable = true) (lz : (PyData.str z).shown.length ≤ 20) (hx : x.natAbs ≤ 10 ^ 120) (hy : y.natAbs ≤ 10 ^ 120) :
    (PyData.tuple [.str z, .int x, .int y]).showable = true ∧ (PyData.tuple [.str z, .int x, .int y]).depth ≤ 60 ∧ (PyData.tuple [.str z, .int x, .int y]).shown.length ≤ sizeLine := by
  have x1 := lg120 hx
  have y1 := lg120 hy
  have x2 := tlen120 hx
  have y2 := tlen120 hy
  refine ⟨by simp [PyData.showable, PyData.showableAll, x1, y1], by simp [PyData.depth, PyData.depthAll], ?_⟩
  have e := tupleText_len_le [(PyData.str z).shown, (PyData.int x).shown, (PyData.int y).shown]
  simp only [List.map_cons, List.map_nil, List.sum_cons, List.sum_nil, List.length_cons, List.length_nil] at e
  have e2 : PyData.shown (.tuple [.str z, .int x, .int y]) = tupleText [(PyData.str z).shown, (PyData.int x).shown, (PyData.int y).shown] := by simp only [PyData.shown, PyData.shownAll]
  have ex : (PyData.int x).shown = Str.ofString (toString x) := by simp only [PyData.shown]
  have ey : (PyData.int y).shown = Str.ofString (toString y) := by simp only [PyData.shown]
  rw [e2, sizeLine_eq]
  rw [ex, ey] at e ⊢
  omega
theorem bar_fit {g s c m o b k : Int} (N : N3 s c m) (G : Gn g o b) (k0 : 0 ≤ k) (k1 : k ≤ 10 ^ 71) : (barD (barI g s c m o b k)).hasDict = false ∧ (barD (barI g s c m o b k)).showable = true ∧ (barD (barI g s c m o b k)).depth ≤ 60 ∧ (barD (barI g s c m o b k)).shown.length ≤ sizeLine := by
  obtain ⟨r0, r1⟩ := room_bd N.s1 N.c1 N.m1
  have s2 := N.s2
  have c1 := N.c1
  have c2 := N.c2
  have m1 := N.m1
  have m2 := N.m2
  obtain ⟨g0, g1, o0, o1, b0, b1⟩ := G
  have a1 : 0 ≤ g * roomI s c m := Int.mul_nonneg g0 r0
  have a2 : g * roomI s c m ≤ 10 ^ 17 * 10 ^ 40 := Int.mul_le_mul g1 (by omega) r0 (by decide)
  have a3 : 0 ≤ o * m := Int.mul_nonneg o0 (by omega)
  have a4 : o * m ≤ 10 ^ 58 * 10 ^ 40 := Int.mul_le_mul o1 m2 (by omega) (by decide)
  have a5 : 0 ≤ g * c := Int.mul_nonneg g0 (by omega)
  have a6 : g * c ≤ 10 ^ 17 * 10 ^ 40 := Int.mul_le_mul g1 c2 (by omega) (by decide)
  have hd : ∀ (z : Str) (x y : Int), (PyData.tuple [.str z, .int x, .int y]).hasDict = false := fun z x y => by simp [PyData.hasDict, PyData.hasDictAll]
  unfold barI
  split
  · exact ⟨hd _ _ _, tup_fit (by decide +kernel) (by decide +kernel) (by omega) (by omega)⟩
  · split
    · exact ⟨hd _ _ _, tup_fit (by decide +kernel) (by decide +kernel) (by omega) (by omega)⟩
    · split
      · exact ⟨hd _ _ _, tup_fit (by decide +kernel) (by decide +kernel) (by omega) (by omega)⟩
      · exact ⟨by simp [barD, PyData.hasDict], by simp [barD, PyData.showable], by simp [barD, PyData.depth], by rw [sizeLine_eq]; decide +kernel⟩
theorem BV.dp {K : PySem.W.Frag} {H : Hp} {v : V} {o : Option (Str × Int × Int)} (h : BV H v o) : Dp K H v (barD o) := by
  match o, h with
  | none, h =>
    have h : v = .non := h
    rw [h]
    exact .non
  | some (z, x, y), h =>
    obtain ⟨t, e, h⟩ := h
    rw [e]
    exact .tup (SqT.of h) (.cons (.str z) (.cons (.int x) (.cons (.int y) .nil)))
theorem Kv.keys {kvs : List (Str × Int)} (h : Kv kvs) : ((sd kvs).map (·.1)).Nodup := by
  rw [sd_keys]
  exact List.Pairwise.map Sum.inr (fun a b h e => h (Sum.inr.inj e)) h.nd
section
variable {P : Program} {w : World} {K : PySem.W.Frag} {mg : Str → Option Value} {base : Heap} {C : Addr}
theorem Bt.n3 {H : Hp} {x : Addr} {s c m : Int} (B : Bt C H x s c m) : N3 s c m := ⟨B.s1, B.c1, B.m1, B.s2, B.c2, B.m2⟩
def spRi (C : Addr) : Sp := fun vs H Q _ => ∃ (x t u d : Addr) (s c m g o b : Int) (kvs : List (Str × Int)), vs = [.ref x, .ref t, .ref u, .ref d] ∧ Bt C H x s c m ∧ H t = some (.tup [.int s, .int c, .int m]) ∧ H u = some (.tup [.int g, .int o, .int b]) ∧ Gn g o b ∧
  H d = some (.dK (sd kvs)) ∧ Kv kvs ∧ kvs.length ≤ 8 ∧ ∀ H', Same H H' → Q (.bl true) H'
theorem ok_right {f fO fD fR : Addr} {fd fdO fdD fdR : FuncData} {k : Nat} (F : Fun K "_law_right" "_law_right" s__law_right f fd) (T : Tx mg) (FO : Has K mg "_law_told" ["_law_way", "_law_ship", "_law_four", "_law_cargo"] s__law_told fO fdO)
    (GO : FnOk P w K mg base CX0 (k + 6) fO fdO ["_law_way", "_law_ship", "_law_four", "_law_cargo"] (spTold C)) (FD : Has K mg "_law_due" ["_law_ship", "_law_four"] s__law_due fD fdD) (FR : Has K mg "_law_room" ["_law_ship"] s__law_room fR fdR) :
    FnG P w K mg base CX0 (k + 7) f fd ["_law_ship", "_law_numbers", "_law_four", "_law_cargo"] (spRi C) := by
  have GD : FnOk P w K mg base CX0 (k + 2) fD fdD ["_law_ship", "_law_four"] spDue := ok_due FD.fn T FR
  refine okG F scRi (fun h => ?_) (fun cdv A outer s H vs Q E hG hr h => ?_)
  · obtain ⟨x, t, u, d, s, c, m, g, o, b, kvs, rfl, _⟩ := h
    rfl
  · obtain ⟨x, t, u, d, sv, c, m, g, o, b, kvs, rfl, B, ht, hu4, G, hd, hk, hl, q⟩ := h
    have nd := scRi.nd
    have hu := hr.units
    have hu0 := hr.units0
    have hr2 : Room (k + 2) _ := hr.mono (by omega)
    have hG2 : (cxOf CX0 P w K mg base nRi "_law_right" (defScope s__law_right) f cdv A outer s H E).nox.A.guards = some [] := hG
    refine ⟨_, pss_cons (ps_set (i := 4) nd rfl (.inl rfl) (pe_callTy call_dictD (by rfl) T.dict (by decide +kernel) (pa_cons (pv 3) pa_nil)))
      (pss_cons (ps_for PassesOwn.never rfl (pi_list (pe_lst (pa_cons pe_int (pa_cons pe_int (pa_cons pe_int (pa_cons pe_int (pa_cons pe_int (pa_cons pe_int pa_nil)))))))) (pg_name (i := 5) nd rfl (.inl rfl))
        (pss_cons (ps_set (i := 6) nd rfl (.inl rfl) (pe_op op_mul (pe_sumVals rfl (by rfl) T.sum (pv 4)) (pe_callTy call_int1 (by rfl) T.int (by decide +kernel) (pa_cons (pe_cmpR op_lt (pv 5) pe_int (nomark _)) pa_nil))))
        (pss_cons (ps_set (i := 7) nd rfl (.inl rfl) (pe_call GD hr2 (by rfl) FD.gl FD.fn.kp FD.bd .nil pass0 (pa_cons (pv 1) (pa_cons (pe_tup (pa_cons (pe_ix ix_tup (pv 2) pe_int (fun _ _ => rfl)) (pa_cons (pe_ix ix_tup (pv 2) pe_int (fun _ _ => rfl))
            (pa_cons (pe_op op_mul (pe_ix ix_tup (pv 2) pe_int (fun _ _ => rfl)) (pe_callTy call_int1 (by rfl) T.int (by decide +kernel) (pa_cons (pe_cmpR op_lt (pv 5) pe_int (nomark _)) pa_nil))) (pa_cons (pv 6) pa_nil))))) pa_nil))))
        (pss_one (ps_if (pt_cmpR op_ne (pe_callB (call_reprSh hG2 hu) (by rfl) T.repr (by decide +kernel) (pa_cons (pe_call GO hr (by rfl) FO.gl FO.fn.kp FO.bd .nil pass0 (pa_cons (pv 5) (pa_cons (pv 0) (pa_cons (pv 2) (pa_cons (pv 3) pa_nil))))) pa_nil))
            (pe_callB (call_reprSh hG2 hu) (by rfl) T.repr (by decide +kernel) (pa_cons (pv 7) pa_nil)) (nomark _)) (pss_one (ps_ret pe_bl)) pss_nil)))))
      (pss_one (ps_ret (pe_cmpR (op_eq_dict hu0) (pv 3) (pv 4) (nomark _))))), ?_⟩
    refine ⟨_, rfl, d, _, rfl, .inl hd, fun e ne => ?_⟩
    have s1 := same_upd (o := .dK (sd kvs)) ne
    have he := upd_same (H := H) (a := e) (o := .dK (sd kvs))
    generalize upd H e (.dK (sd kvs)) = H1 at *
    refine ⟨by show 6 ≤ sizeLine; decide, fun l nl => ?_⟩
    have s2 := same_upd (o := .lst [V.int 0, .int 1, .int 2, .int 3, .int 4, .int 0]) nl
    have hl2 := upd_same (H := H1) (a := l) (o := .lst [V.int 0, .int 1, .int 2, .int 3, .int 4, .int 0])
    have he2 := s2 _ _ he
    have sA := s1.trans s2
    generalize upd H1 l (.lst [V.int 0, .int 1, .int 2, .int 3, .int 4, .int 0]) = H2 at *
    have wk0 := wsum_nonneg hk.w1
    have wk1 := wsum_le hk.w2
    refine ⟨l, rfl, ⟨_, SqL.of hl2⟩, for_list (K := K) (a := l) (xs := [V.int 0, .int 1, .int 2, .int 3, .int 4, .int 0]) (fun i σ H' => (∃ y5 y6 y7, σ = [some (.ref x), some (.ref t), some (.ref u), some (.ref d), some (.ref e), y5, y6, y7]) ∧ Same H2 H') ⟨⟨none, none, none, rfl⟩, Same.refl _⟩
      (fun i σ H' _ ⟨_, sm⟩ => sm.seq (SqL.of hl2)) ?_ ?_⟩
    · rintro i y σ H3 hy ⟨⟨y5, y6, y7, rfl⟩, sm⟩
      obtain ⟨way, rfl, w0, w1⟩ : ∃ way : Int, y = .int way ∧ 0 ≤ way ∧ way < 5 := by
        have := List.mem_of_getElem? hy
        simp only [List.mem_cons, List.not_mem_nil, or_false] at this
        rcases this with rfl | rfl | rfl | rfl | rfl | rfl
        · exact ⟨0, rfl, by decide, by decide⟩
        · exact ⟨1, rfl, by decide, by decide⟩
        · exact ⟨2, rfl, by decide, by decide⟩
        · exact ⟨3, rfl, by decide, by decide⟩
        · exact ⟨4, rfl, by decide, by decide⟩
        · exact ⟨0, rfl, by decide, by decide⟩
      have sB := sA.trans sm
      have eb : b * (if decide (way < 3) = true then (1 : Int) else 0) = bE way b := by
        unfold bE
        by_cases h : way < 3
        · rw [decide_eq_true h, if_pos rfl, if_pos h, Int.mul_one]
        · rw [decide_eq_false h, if_neg Bool.false_ne_true, if_neg h, Int.mul_zero]
      have ek : (kvs.map (·.2)).sum * (if decide (way < 2) = true then (1 : Int) else 0) = kE way (wsum kvs) := by
        unfold kE wsum
        by_cases h : way < 2
        · rw [decide_eq_true h, if_pos rfl, if_pos h, Int.mul_one]
        · rw [decide_eq_false h, if_neg Bool.false_ne_true, if_neg h, Int.mul_zero]
      have b0 := G.b0
      have b1 := G.b1
      have bb : 0 ≤ bE way b ∧ bE way b ≤ 10 ^ 58 := by unfold bE; split <;> omega
      have kk : 0 ≤ kE way (wsum kvs) ∧ kE way (wsum kvs) ≤ 10 ^ 71 := by unfold kE; split <;> omega
      have G' : Gn g o (bE way b) := ⟨G.g0, G.g1, G.o0, G.o1, bb.1, bb.2⟩
      obtain ⟨n0, n1, n2, n3⟩ := bar_fit B.n3 G' kk.1 kk.2
      have hu3 := sB _ _ hu4
      refine ⟨_, rfl, e, _, _, rfl, sm _ _ he2, sd_vals kvs, _, rfl, way, 2, rfl, rfl, .inr ⟨_, rfl, _, _, rfl, rfl, .inr ⟨by split <;> omega, by split <;> omega⟩, ?_⟩⟩
      refine ⟨_, rfl, _, rfl, u, _, 0, _, rfl, rfl, SqT.of hu3, atI_nat (j := 0) rfl, _, rfl, u, _, 1, _, rfl, rfl, SqT.of hu3, atI_nat (j := 1) rfl, _, rfl, u, _, 2, _, rfl, rfl, SqT.of hu3, atI_nat (j := 2) rfl,
        _, rfl, way, 3, rfl, rfl, .inr ⟨_, rfl, _, _, rfl, rfl, .inr ⟨by split <;> omega, by split <;> omega⟩, _, rfl, by show 4 ≤ sizeLine; decide, fun f4 nf => ?_⟩⟩
      have e4 : V.int ((kvs.map (·.2)).sum * (if decide (way < 2) = true then (1 : Int) else 0)) = V.int (kE way (wsum kvs)) := by rw [ek]
      have e5 : V.int (b * (if decide (way < 3) = true then (1 : Int) else 0)) = V.int (bE way b) := by rw [eb]
      have s4 := same_upd (o := .tup [V.int g, .int o, .int (b * (if decide (way < 3) = true then (1 : Int) else 0)), .int ((kvs.map (·.2)).sum * (if decide (way < 2) = true then (1 : Int) else 0))]) nf
      have h4 : (upd H3 f4 (.tup [V.int g, .int o, .int (b * (if decide (way < 3) = true then (1 : Int) else 0)), .int ((kvs.map (·.2)).sum * (if decide (way < 2) = true then (1 : Int) else 0))])) f4 = some (.tup [V.int g, .int o, .int (bE way b), .int (kE way (wsum kvs))]) := by rw [upd_same, e4, e5]
      refine ⟨t, f4, sv, c, m, g, o, bE way b, kE way (wsum kvs), rfl, s4 _ _ (sB _ _ ht), B.n3, h4, G', fun v H5 s5 hv => ?_⟩
      have sC := (sB.trans s4).trans s5
      refine ⟨_, rfl, _, rfl, _, rfl, _, rfl, way, x, u, sv, c, m, g, o, b, wsum kvs, .ref d, rfl, w0, w1, B.mono sC, sC _ _ hu4, G, .dict (sC _ _ hd) hk hl, fun r H6 s6 hr6 => ?_⟩
      refine ⟨r, _, rfl, .dp hr6.dp n0, n1, n2, n3, ?_⟩
      refine ⟨_, rfl, v, _, rfl, .dp (hv.mono s6).dp n0, n1, n2, n3, rfl, _, rfl, ?_⟩
      rw [decide_eq_true rfl]
      exact ⟨⟨_, _, _, rfl⟩, ((sm.trans s4).trans s5).trans s6⟩
    · rintro σ H3 ⟨⟨y5, y6, y7, rfl⟩, sm⟩
      refine ⟨_, rfl, _, rfl, d, e, _, rfl, rfl, (sA.trans sm) _ _ hd, sm _ _ he2, (K32.Kv.keys hk), fun p hp => ?_, q H3 (sA.trans sm)⟩
      unfold sd at hp
      obtain ⟨p', _, rfl⟩ := List.mem_map.mp hp
      rfl
end
end K32

set_option Elab.async false
set_option linter.all false
set_option maxRecDepth 100000
set_option maxHeartbeats 3200000
namespace K32
open PySem PySem.Spec PyProof.Rows L2 LT NdefX
abbrev nLaw : List Str := ["_law_script", "_law_k", "_law_pot_here", "_law_numbers", "_law_ship", "_law_times", "_law_most", "_law_away", "_law_home", "_law_cargo"]
theorem scLaw : FnScope nLaw ["_law_script"] (defScope s_law) := ⟨rfl, rfl, rfl, by decide +kernel, rfl, by decide +kernel, by decide +kernel⟩
theorem nm_stuff : Nm (Str.ofString "stuff") := ⟨by decide +kernel, by decide +kernel, by decide +kernel⟩
theorem three_sh (a b c : Int) : SeqAt.shaped (.list [.int a, .int b, .int c]) = true := by simp [SeqAt.shaped, PyData.canLay0, PyData.canLayAll0, PyData.depth, PyData.depthAll]
theorem three_eq (a b c : Int) : PyData.eqv (.list [.int a, .int b, .int c]) (.list [.int a, .int b, .int c]) = true := SeqAt.eqv_refl _ (by simp [PyData.canLay0, PyData.canLayAll0])
theorem getS (z : Str) {kvs : List (Str × Int)} {B : Int} (hB : 0 ≤ B) (h1 : ∀ p ∈ kvs, 1 ≤ p.2) (h2 : ∀ p ∈ kvs, p.2 ≤ B) : ∃ y : Int, (valV (sd kvs) (Sum.inr z : Key)).getD (.int 0) = .int y ∧ 0 ≤ y ∧ y ≤ B := by
  rcases valS z kvs with ⟨e, _⟩ | ⟨y, e, m⟩
  · rw [e]
    exact ⟨0, rfl, by decide, hB⟩
  · rw [e]
    have := h1 _ m
    have := h2 _ m
    exact ⟨y, rfl, by simp only at *; omega, by simp only at *; omega⟩
section
variable {P : Program} {w : World} {K : PySem.W.Frag} {mg : Str → Option Value} {base : Heap} {C : Addr}
def spLaw (K : PySem.W.Frag) : Sp := fun vs H Q _ => ∃ (a : Addr) (ns : List Int), vs = [.ref a] ∧ SqL K H a (ns.map V.int) ∧ ns.length ≤ 63 ∧ ∀ H', Q (.bl true) H'
structure Ls (K : PySem.W.Frag) (mg : Str → Option Value) (C : Addr) : Prop where
  cs : Cs mg
  ct : Ct K mg C
  ini : ∃ f fd, Mk K C f ∧ Fun K "__init__" "Boat.__init__" s_Boat___init__ f fd ∧ L2.Binds K fd ["self", "seats", "carries", "man"] []
  m3 : ∃ f1 f2 f3 fd1 fd2 fd3, M3 K C f1 f2 f3 fd1 fd2 fd3
  bd : ∃ f fd, BdFn K f fd ∧ mg "barred" = some (.ref f) ∧ PySem.W.keepIn K (.ref f) = true
  ro : ∃ f fd, Has K mg "room_of" ["boat"] s_room_of f fd
  wt : ∃ f fd, Has K mg "weight_out" ["boat", "out", "stores"] s_weight_out f fd
  cw : ∃ f fd, Has K mg "check_wanted" ["out", "back", "stores"] s_check_wanted f fd
  st : ∃ f fd, Has K mg "are_stores" ["thing"] s_are_stores f fd
  nm : ∃ f fd, Has K mg "is_name" ["thing"] s_is_name f fd
  fr : ∃ f fd, Has K mg "is_from" ["thing", "least"] s_is_from f fd
  wh : ∃ f fd, Has K mg "is_whole" ["thing"] s_is_whole f fd
  ce : ∃ f fd, Has K mg "_law_cell" ["_law_script", "_law_k"] s__law_cell f fd
  po : ∃ f fd, Has K mg "_law_pot" ["_law_script", "_law_k"] s__law_pot f fd
  ta : ∃ f fd, Has K mg "_law_take" ["_law_pot_here", "_law_room_here"] s__law_take f fd
  fa : ∃ f fd, Has K mg "_law_far" ["_law_pot_here"] s__law_far f fd
  nu : ∃ f fd, Has K mg "_law_number" ["_law_pot_here", "_law_most"] s__law_number f fd
  bo : ∃ f fd, Has K mg "_law_boat" ["_law_pot_here"] s__law_boat f fd
  na : ∃ f fd, Has K mg "_law_name" ["_law_pot_here"] s__law_name f fd
  so : ∃ f fd, Has K mg "_law_stores" ["_law_pot_here"] s__law_stores f fd
  lr : ∃ f fd, Has K mg "_law_room" ["_law_ship"] s__law_room f fd
  me : ∃ f fd, Has K mg "_law_men" ["_law_pot_here", "_law_most"] s__law_men f fd
  fi : ∃ f fd, Has K mg "_law_filled" ["_law_pot_here", "_law_cargo", "_law_left"] s__law_filled f fd
  du : ∃ f fd, Has K mg "_law_due" ["_law_ship", "_law_four"] s__law_due f fd
  to : ∃ f fd, Has K mg "_law_told" ["_law_way", "_law_ship", "_law_four", "_law_cargo"] s__law_told f fd
  ri : ∃ f fd, Has K mg "_law_right" ["_law_ship", "_law_numbers", "_law_four", "_law_cargo"] s__law_right f fd
/-- a boat made -/
theorem mk_boat {H : Hp} {x dx : Addr} {s c m : Int} {R : VK} {E : XK} (nx : H x = none) (ndx : H dx = none) (nex : dx ≠ x) (N : N3 s c m)
    (h : ∀ H', Same H H' → Bt C H' x s c m → R .non H') :
    spInit C [.ref x, .int s, .int c, .int m] (upd (upd H dx (.own x)) x (.ins C dx [])) R E := by
  refine ⟨x, dx, s, c, m, rfl, upd_same, N.s1, N.c1, N.m1, ?_⟩
  rw [upd_upd]
  exact h _ (same_made (C := C) nx ndx) ⟨⟨dx, upd_same⟩, N.s1, N.c1, N.m1, N.s2, N.c2, N.m2⟩
theorem Bt.keep {H H' : Hp} {x : Addr} {s c m : Int} (B : Bt C H x s c m) (h : ∀ o, H x = some o → H' x = some o) : Bt C H' x s c m := by
  obtain ⟨⟨dx, h1⟩, a1, a2, a3, a4, a5, a6⟩ := B
  exact ⟨⟨dx, h _ h1⟩, a1, a2, a3, a4, a5, a6⟩
theorem ok_law {f : Addr} {fd : FuncData} (F : Fun K "law" "law" s_law f fd) (T : Tx mg) (L : Ls K mg C) : FnG P w K mg base CX0 8 f fd ["_law_script"] (spLaw K) := by
  obtain ⟨S, Z, ⟨fI, fdI, M, FI, bI⟩, ⟨f1, f2, f3, fd1, fd2, fd3, M3'⟩, ⟨fB', fdB', FB, gB, kB⟩, ⟨_, _, Fro⟩, ⟨_, _, Fwt⟩, ⟨_, _, Fcw⟩, ⟨_, _, Fst⟩, ⟨_, _, Fnm⟩, ⟨_, _, Ffr⟩, ⟨_, _, Fwh⟩, ⟨_, _, Fce⟩, ⟨fP, fdP, Fpo⟩, ⟨fT, fdT, Fta⟩, ⟨fA, fdA, Ffa⟩, ⟨fN, fdN, Fnu⟩, ⟨fB, fdB, Fbo⟩, ⟨_, _, Fna⟩, ⟨fS, fdS, Fso⟩, ⟨fL, fdL, Flr⟩, ⟨fM, fdM, Fme⟩, ⟨fF, fdF, Ffi⟩, ⟨_, _, Fdu⟩, ⟨_, _, Fto⟩, ⟨fR, fdR, Fri⟩⟩ := L
  have GP : FnOk P w K mg base CX0 2 fP fdP ["_law_script", "_law_k"] (spPot K) := ok_pot Fpo.fn T Fce.fn Fce.bd Fce.gl
  have GT : FnOk P w K mg base CX0 1 fT fdT ["_law_pot_here", "_law_room_here"] spTake := ok_take Fta.fn T
  have GA : FnOk P w K mg base CX0 2 fA fdA ["_law_pot_here"] spFar := ok_far Ffa.fn T Fta
  have GN : FnOk P w K mg base CX0 3 fN fdN ["_law_pot_here", "_law_most"] spNumber := ok_number Fnu.fn T Ffa Fta
  have GL : FnOk P w K mg base CX0 1 fL fdL ["_law_ship"] spLroom := ok_lroom Flr.fn T
  have GB : FnOk P w K mg base CX0 4 fB fdB ["_law_pot_here"] spBoat := ok_boat Fbo.fn T Fnu Ffa Fta
  have GS : FnOk P w K mg base CX0 4 fS fdS ["_law_pot_here"] spStores := ok_stores Fso.fn T Fna Fnu Ffa Fta
  have GM : FnOk P w K mg base CX0 3 fM fdM ["_law_pot_here", "_law_most"] spMen := ok_men Fme.fn T Ffa Fta
  have GF : FnOk P w K mg base CX0 2 fF fdF ["_law_pot_here", "_law_cargo", "_law_left"] spFil := ok_fil Ffi.fn T Fta
  have GI : FnOk P w K mg base CX0 3 fI fdI ["self", "seats", "carries", "man"] (spInit C) := ok_init FI T Z Ffr Fwh
  have G1 : FnOk P w K mg base CX0 1 f1 fd1 ["self"] (spGet C fun s _ _ => s) := ok_seats M3'.se.fn Z
  have G2 : FnOk P w K mg base CX0 1 f2 fd2 ["self"] (spGet C fun _ c _ => c) := ok_carries M3'.ca.fn Z
  have G3 : FnOk P w K mg base CX0 1 f3 fd3 ["self"] (spGet C fun _ _ m => m) := ok_man M3'.mn.fn Z
  have GW : FnOk P w K mg base CX0 5 fB' fdB' ["boat", "goings", "out", "back", "stores"] (spBd C) := ok_bd FB T S Z M3' Fro Fwt Fcw Fst Fnm Ffr Fwh
  have GR : FnG P w K mg base CX0 7 fR fdR ["_law_ship", "_law_numbers", "_law_four", "_law_cargo"] (spRi C) := ok_right Fri.fn T Fto (ok_told Fto.fn FB gB kB GW) Fdu Flr
  obtain ⟨d3, v3, b3⟩ := FB.binds1 (ps := ["boat", "goings", "out", "back", "stores"]) 3 0 (by simp) (by rfl) (fun _ _ _ _ _ _ _ us its h1 h2 => match us, its, h1, h2 with | [_, _, _], [_, _], _, _ => ⟨_, rfl, rfl⟩)
  refine okG F scLaw (fun h => ?_) (fun cdv A outer s H vs Q E hG hr h => ?_)
  · obtain ⟨a, ns, rfl, _⟩ := h
    rfl
  · obtain ⟨a, ns, rfl, hS, hl, q⟩ := h
    have nd := scLaw.nd
    have hu := hu_of hr
    have hu64 := hr.units
    have r1 : Room 1 _ := hr.mono (by decide)
    have r2 : Room 2 _ := hr.mono (by decide)
    have r3 : Room 3 _ := hr.mono (by decide)
    have r4 : Room 4 _ := hr.mono (by decide)
    have r5 : Room 5 _ := hr.mono (by decide)
    have hG2 : (cxOf CX0 P w K mg base nLaw "law" (defScope s_law) f cdv A outer s H E).nox.A.guards = some [] := hG
    refine ⟨_, pss_cons (ps_for PassesOwn.never rfl (pi_range1 (by rfl) T.range (pa_cons (pe_callB (call_max2 rfl) (by rfl) T.max (by decide +kernel) (pa_cons pe_int (pa_cons
          (pe_callB (call_min2 rfl) (by rfl) T.min (by decide +kernel) (pa_cons (pe_callB call_len_seq (by rfl) T.len PySem.boot_len (pa_cons (pv 0) pa_nil)) (pa_cons pe_int pa_nil))) pa_nil))) pa_nil)) (pg_name (i := 1) nd rfl (.inl rfl))
        (pss_cons (ps_set (i := 2) nd rfl (.inl rfl) (pe_call GP r2 (by rfl) Fpo.gl Fpo.fn.kp Fpo.bd .nil pass0 (pa_cons (pv 0) (pa_cons (pv 1) pa_nil))))
        (pss_cons (ps_set (i := 3) nd rfl (.inl rfl) (pe_call GB r4 (by rfl) Fbo.gl Fbo.fn.kp Fbo.bd .nil pass0 (pa_cons (pv 2) pa_nil)))
        (pss_cons (ps_set (i := 4) nd rfl (.inl rfl) (pe_make M GI r4 (by rfl) Z.mgC bI .nil pass0 (pa_cons (pe_ix ix_tup (pv 3) pe_int (fun _ _ => rfl)) (pa_cons (pe_ix ix_tup (pv 3) pe_int (fun _ _ => rfl)) (pa_cons (pe_ix ix_tup (pv 3) pe_int (fun _ _ => rfl)) pa_nil)))))
        (pss_cons (ps_set (i := 5) nd rfl (.inl rfl) (pe_ix ix_list (pe_lst (pa_cons (pe_call GT r1 (by rfl) Fta.gl Fta.fn.kp Fta.bd .nil pass0 (pa_cons (pv 2) (pa_cons pe_int pa_nil))) (pa_cons pe_int (pa_cons pe_int (pa_cons (pe_op op_add pe_int (pe_call GT r1 (by rfl) Fta.gl Fta.fn.kp Fta.bd .nil pass0 (pa_cons (pv 2) (pa_cons pe_int pa_nil))))
            (pa_cons (pe_call GA r2 (by rfl) Ffa.gl Ffa.fn.kp Ffa.bd .nil pass0 (pa_cons (pv 2) pa_nil)) pa_nil)))))) (pe_call GT r1 (by rfl) Fta.gl Fta.fn.kp Fta.bd .nil pass0 (pa_cons (pv 2) (pa_cons pe_int pa_nil))) (fun _ _ => rfl)))
        (pss_cons (ps_set (i := 6) nd rfl (.inl rfl) (pe_op op_mulW (pv 5) (pe_call GL r1 (by rfl) Flr.gl Flr.fn.kp Flr.bd .nil pass0 (pa_cons (pv 3) pa_nil))))
        (pss_cons (ps_par (i := 7) (j := 8) (by rfl) nd rfl rfl (by decide) rfl rfl (pa_cons (pe_call GM r3 (by rfl) Fme.gl Fme.fn.kp Fme.bd .nil pass0 (pa_cons (pv 2) (pa_cons (pv 6) pa_nil))) (pa_cons (pe_call GM r3 (by rfl) Fme.gl Fme.fn.kp Fme.bd .nil pass0 (pa_cons (pv 2) (pa_cons (pv 6) pa_nil))) pa_nil)) (by rfl))
        (pss_cons (ps_set (i := 9) nd rfl (.inl rfl) (pe_call GS r4 (by rfl) Fso.gl Fso.fn.kp Fso.bd .nil pass0 (pa_cons (pv 2) pa_nil)))
        (pss_cons (ps_expr (pe_call GF r2 (by rfl) Ffi.gl Ffi.fn.kp Ffi.bd .nil pass0 (pa_cons (pv 2) (pa_cons (pv 9) (pa_cons (pe_op op_sub (pe_op op_mulW (pv 5) (pe_ix ix_tup (pv 3) pe_int (fun _ _ => rfl))) (pe_op op_mulW (pv 7) (pe_ix ix_tup (pv 3) pe_int (fun _ _ => rfl)))) pa_nil)))))
        (pss_cons (ps_if (pt_not (pt_val (pe_callG GR hG2 hr (by rfl) Fri.gl Fri.fn.kp Fri.bd .nil pass0 (pa_cons (pv 4) (pa_cons (pv 3) (pa_cons (pe_tup (pa_cons (pv 5) (pa_cons (pv 7) (pa_cons (pv 8) pa_nil)))) (pa_cons (pv 9) pa_nil))))))) (pss_one (ps_ret pe_bl)) pss_nil)
        (pss_cons (ps_if (pt_cmpR op_lt (pe_callB call_lenD (by rfl) T.len PySem.boot_len (pa_cons (pv 9) pa_nil)) pe_int (nomark _))
          (pss_cons (ps_dput hu (pv 9) pe_str (pe_op op_add (pe_dget2 hu (pv 9) pe_str pe_int ⟨rfl, rfl, rfl, rfl⟩) (pe_call GN r3 (by rfl) Fnu.gl Fnu.fn.kp Fnu.bd .nil pass0 (pa_cons (pv 2) (pa_cons pe_int pa_nil)))) rfl)
          (pss_one (ps_if (pt_not (pt_val (pe_callG GR hG2 hr (by rfl) Fri.gl Fri.fn.kp Fri.bd .nil pass0 (pa_cons (pv 4) (pa_cons (pv 3) (pa_cons (pe_tup (pa_cons (pv 5) (pa_cons (pv 7) (pa_cons (pv 8) pa_nil)))) (pa_cons (pv 9) pa_nil))))))) (pss_one (ps_ret pe_bl)) pss_nil))) pss_nil)
        (pss_one (ps_if (pt_cmpR (op_neD hu64) (pe_lst (pa_cons (pe_meth0 (pv 4) Z.cl M3'.se.me G1 r1 M3'.se.bd .nil pass0) (pa_cons (pe_meth0 (pv 4) Z.cl M3'.ca.me G2 r1 M3'.ca.bd .nil pass0) (pa_cons (pe_meth0 (pv 4) Z.cl M3'.mn.me G3 r1 M3'.mn.bd .nil pass0) pa_nil))))
            (pe_callTy call_list_of (by rfl) T.list (by decide +kernel) (pa_cons (pv 3) pa_nil)) (nomark _)) (pss_one (ps_ret pe_bl)) pss_nil)))))))))))))
      (pss_one (ps_ret (pe_cmpR (op_eqD hu64) (pe_call GW r5 (by rfl) gB kB b3 v3 pass0 (pa_cons (pe_make M GI r4 (by rfl) Z.mgC bI .nil pass0 (pa_cons pe_int (pa_cons pe_int (pa_cons pe_int pa_nil)))) (pa_cons pe_int (pa_cons pe_int pa_nil)))) (pe_tup (pa_cons pe_str (pa_cons pe_int (pa_cons pe_int pa_nil)))) (nomark _)))), ?_⟩
    refine ⟨_, rfl, a, _, rfl, .inl hS, _, _, rfl, _, _, rfl, ?_⟩
    generalize hN : (if (if (20 : Int) < ((ns.map V.int).length : Nat) then (20 : Int) else ((ns.map V.int).length : Nat)) > 1 then (if (20 : Int) < ((ns.map V.int).length : Nat) then (20 : Int) else ((ns.map V.int).length : Nat)) else 1) = N
    have hN1 : 1 ≤ N ∧ N ≤ 30 := by
      rw [← hN]
      split <;> (try split) <;> omega
    refine ⟨N, rfl, by omega, by omega, for_range (lo := 0) (n := N.toNat) (fun i σ H' => (∃ x1 x2 x3 x4 x5 x6 x7 x8 x9, σ = [some (.ref a), x1, x2, x3, x4, x5, x6, x7, x8, x9]) ∧ Same H H') ⟨⟨none, none, none, none, none, none, none, none, none, rfl⟩, Same.refl H⟩ ?_ ?_⟩
    · rintro i σ H1 hi ⟨⟨x1, x2, x3, x4, x5, x6, x7, x8, x9, rfl⟩, sm⟩
      refine ⟨_, rfl, _, rfl, a, ns, i, (by rw [Int.zero_add]; rfl), sm.seq hS, by omega, fun p H2 np s2 hp => ?_⟩
      have npH : H p = none := sm.free np
      refine ⟨_, rfl, p, rfl, hp, fun t sv c m H3 N3' ht hp3 sb3 => ?_⟩
      have sm3 : Same H H3 := sameB_new npH (sm.trans s2) sb3
      have ntp : t ≠ p := ne_of_pot hp3 ht
      refine ⟨_, rfl, t, _, 0, _, rfl, rfl, SqT.of ht, atI_nat (j := 0) rfl, _, rfl, t, _, 1, _, rfl, rfl, SqT.of ht, atI_nat (j := 1) rfl, _, rfl, t, _, 2, _, rfl, rfl, SqT.of ht, atI_nat (j := 2) rfl, fun x dx nx ndx nex => ?_⟩
      refine mk_boat nx ndx nex N3' fun H4 s4 B4 => ⟨rfl, ?_⟩
      have ht4 := s4 _ _ ht
      have hp4 := hp3.mono s4
      have nxp : x ≠ p := hp3.ne nx
      have sm4 := sm3.trans s4
      refine ⟨_, rfl, p, 7, rfl, hp4, by decide, by decide, fun ta H5 ta0 ta1 hp5 sb5 => ?_⟩
      refine ⟨_, rfl, p, 40, rfl, hp5, by decide, by decide, fun tb H6 tb0 tb1 hp6 sb6 => ⟨_, _, rfl, rfl, ?_⟩⟩
      refine ⟨_, rfl, p, rfl, hp6, fun tc H7 tc0 tc1 hp7 sb7 => ?_⟩
      refine ⟨by show 5 ≤ sizeLine; decide, fun l nl => ?_⟩
      have s8 := same_upd (o := .lst [V.int ta, .int 1, .int 0, .int (1 + tb), .int tc]) nl
      have hl8 := upd_same (H := H7) (a := l) (o := .lst [V.int ta, .int 1, .int 0, .int (1 + tb), .int tc])
      have nlp : l ≠ p := hp7.ne nl
      have hp8 := hp7.mono s8
      have sb8 : SameB p H4 (upd H7 l (.lst [V.int ta, .int 1, .int 0, .int (1 + tb), .int tc])) := ((sb5.trans sb6).trans sb7).trans (SameB.of s8)
      generalize upd H7 l (.lst [V.int ta, .int 1, .int 0, .int (1 + tb), .int tc]) = H8 at *
      refine ⟨_, rfl, p, 5, rfl, hp8, by decide, by decide, fun td H9 td0 td1 hp9 sb9 => ?_⟩
      obtain ⟨g, eg, g0, g1⟩ : ∃ g : Int, atI [V.int ta, .int 1, .int 0, .int (1 + tb), .int tc] td = some (.int g) ∧ 0 ≤ g ∧ g ≤ 10 ^ 17 := by
        have hd : td = 0 ∨ td = 1 ∨ td = 2 ∨ td = 3 ∨ td = 4 := by omega
        rcases hd with rfl | rfl | rfl | rfl | rfl
        · exact ⟨ta, rfl, ta0, by omega⟩
        · exact ⟨1, rfl, by decide, by decide⟩
        · exact ⟨0, rfl, by decide, by decide⟩
        · exact ⟨1 + tb, rfl, by omega, by omega⟩
        · exact ⟨tc, rfl, by omega, by omega⟩
      refine ⟨l, _, td, .int g, rfl, rfl, SqL.of (sb9 _ _ nlp hl8), eg, ?_⟩
      have sb49 := sb8.trans sb9
      have ht9 := sb49 _ _ ntp ht4
      have B9 : Bt C H9 x sv c m := B4.keep fun o e => sb49 _ _ nxp e
      obtain ⟨rr0, rr1⟩ := room_bd N3'.s1 N3'.c1 N3'.m1
      have cc1 := N3'.c1
      have cc2 := N3'.c2
      have mm1 := N3'.m1
      have mm2 := N3'.m2
      have ss2 := N3'.s2
      refine ⟨_, rfl, _, rfl, t, sv, c, m, rfl, ht9, N3', _, _, rfl, rfl, wd (by omega) (by omega), ?_⟩
      have mo0 : 0 ≤ g * roomI sv c m := Int.mul_nonneg g0 rr0
      have mo1 : g * roomI sv c m ≤ 10 ^ 17 * 10 ^ 40 := Int.mul_le_mul g1 (by omega) rr0 (by decide)
      refine ⟨_, rfl, _, rfl, p, _, rfl, mo0, by omega, hp9, fun o H10 o0 o1 hp10 sb10 => ?_⟩
      refine ⟨_, rfl, _, rfl, p, _, rfl, mo0, by omega, hp10, fun b H11 b0 b1 hp11 sb11 => ?_⟩
      have sb411 := (sb49.trans sb10).trans sb11
      refine ⟨_, _, rfl, ?_⟩
      refine ⟨_, rfl, p, rfl, hp11, fun d kvs H12 nd12 hd12 hk hl12 hb12 hp12 sb12 => ?_⟩
      have sb412 := sb411.trans sb12
      have sm11 : Same H H11 := sameB_new npH sm4 sb411
      have ndH : H d = none := sm11.free nd12
      have sm12 : Same H H12 := sameB_new npH sm4 sb412
      have ht12 := sb412 _ _ ntp ht4
      have B12 : Bt C H12 x sv c m := B4.keep fun o e => sb412 _ _ nxp e
      have nxd : x ≠ d := by
        obtain ⟨dx', h1⟩ := B12.at_
        exact ne_of h1 hd12 (by intro z; cases z)
      have ntd : t ≠ d := ne_of ht12 hd12 (by intro z; cases z)
      have gc0 : 0 ≤ g * c := Int.mul_nonneg g0 (by omega)
      have gc1 : g * c ≤ 10 ^ 17 * 10 ^ 40 := Int.mul_le_mul g1 cc2 (by omega) (by decide)
      have om0 : 0 ≤ o * m := Int.mul_nonneg o0 (by omega)
      refine ⟨_, rfl, _, rfl, _, rfl, _, rfl, t, _, 1, _, rfl, rfl, SqT.of ht12, atI_nat (j := 1) rfl, _, _, rfl, rfl, wd (by omega) (by omega), _, rfl, _, rfl, t, _, 2, _, rfl, rfl, SqT.of ht12, atI_nat (j := 2) rfl, _, _, rfl, rfl, wd (by omega) (by omega), _, _, rfl, rfl, ?_⟩
      refine ⟨p, d, kvs, _, rfl, hp12, hd12, hk, hl12, hb12, by omega, fun kv2 H13 hd13 hk2 hl13 hb13 hp13 sd13 => ?_⟩
      have sm13 : Same H H13 := fun b' o' e => sd13 _ _ (ne_of_none e npH) (ne_of_none e ndH) (sm12 _ _ e)
      have ht13 := sd13 _ _ ntp ntd ht12
      have B13 : Bt C H13 x sv c m := B12.keep fun o e => sd13 _ _ nxp nxd e
      have G : Gn g o b := ⟨g0, g1, o0, o1, b0, b1⟩
      have ndp : d ≠ p := ne_of_pot hp13 hd13
      refine ⟨_, rfl, _, rfl, _, rfl, _, rfl, _, rfl, by show 3 ≤ sizeLine; decide, fun u nu => ?_⟩
      have s14 := same_upd (o := .tup [V.int g, .int o, .int b]) nu
      refine ⟨_, rfl, x, t, u, d, sv, c, m, g, o, b, kv2, rfl, B13.mono s14, s14 _ _ ht13, upd_same, G, s14 _ _ hd13, hk2, hl13, fun H15 s15 => ⟨_, rfl, ?_⟩⟩
      have s1315 := s14.trans s15
      have sm15 := sm13.trans s1315
      have B15 := B13.mono s1315
      have ht15 := s1315 _ _ ht13
      have hd15 := s1315 _ _ hd13
      have hp15 := hp13.mono s1315
      apply join (α := Option V) (J := fun _ Hx => Bt C Hx x sv c m ∧ Hx t = some (.tup [.int sv, .int c, .int m]) ∧ Same H Hx) (sl := fun y => [some (.ref a), y, some (.ref p), some (.ref t), some (.ref x), some (.int g), some (.int (g * roomI sv c m)), some (.int o), some (.int b), some (.ref d)])
      · intro h
        refine ⟨_, rfl, d, _, rfl, hd15, _, _, rfl, rfl, _, rfl, ite2 (fun hlt => ?_) (fun _ => h _ _ ⟨B15, ht15, sm15⟩)⟩
        have hlt := of_decide_eq_true hlt
        rw [sd_len] at hlt
        obtain ⟨y, ey, y0, y1⟩ := getS (Str.ofString "stuff") (B := 10 ^ 60) (by decide) hk2.w1 hb13
        refine ⟨_, rfl, d, rfl, .inl ⟨_, .inl hd15⟩, _, DGet.k (k := (Sum.inr (Str.ofString "stuff") : Key)) hd15, _, rfl, p, 60, rfl, hp15, by decide, by decide, fun n H16 n1 n2 hp16 sb16 => ?_⟩
        have hd16 := sb16 _ _ ndp hd15
        have ht16 := sb16 _ _ ntp ht15
        have B16 : Bt C H16 x sv c m := B15.keep fun o e => sb16 _ _ nxp e
        have sm16 : Same H H16 := sameB_new npH sm15 sb16
        refine ⟨_, _, ey, rfl, _, rfl, d, _, rfl, DPut.k (k := (Sum.inr (Str.ofString "stuff") : Key)) hd16 (small1000 (by rw [sd_len]; omega)), ?_⟩
        obtain ⟨hk3, hl3⟩ := hk2.put (z := Str.ofString "stuff") (w := y + n) nm_stuff (by omega) (by omega)
        have hd17 : (upd H16 d (.dK (putK (sd kv2) (Sum.inr (Str.ofString "stuff") : Key) (V.int (y + n))))) d = some (.dK (sd (putS kv2 (Str.ofString "stuff") (y + n)))) := by rw [upd_same, ← put_sd]
        have ht17 : (upd H16 d (.dK (putK (sd kv2) (Sum.inr (Str.ofString "stuff") : Key) (V.int (y + n))))) t = some (.tup [.int sv, .int c, .int m]) := by rw [upd_ne ntd]; exact ht16
        have B17 : Bt C (upd H16 d (.dK (putK (sd kv2) (Sum.inr (Str.ofString "stuff") : Key) (V.int (y + n))))) x sv c m := B16.keep fun o e => by rw [upd_ne nxd]; exact e
        have sm17 : Same H (upd H16 d (.dK (putK (sd kv2) (Sum.inr (Str.ofString "stuff") : Key) (V.int (y + n))))) := same_app ndH sm16
        generalize upd H16 d (.dK (putK (sd kv2) (Sum.inr (Str.ofString "stuff") : Key) (V.int (y + n)))) = H17 at *
        refine ⟨_, rfl, _, rfl, _, rfl, _, rfl, _, rfl, by show 3 ≤ sizeLine; decide, fun u2 nu2 => ?_⟩
        have s18 := same_upd (o := .tup [V.int g, .int o, .int b]) nu2
        refine ⟨_, rfl, x, t, u2, d, sv, c, m, g, o, b, _, rfl, B17.mono s18, s18 _ _ ht17, upd_same, G, s18 _ _ hd17, hk3, by omega, fun H19 s19 => ⟨_, rfl, ?_⟩⟩
        have s1719 := s18.trans s19
        exact h _ _ ⟨B17.mono s1719, s1719 _ _ ht17, sm17.trans s1719⟩
      rintro y Hx ⟨Bx, htx, smx⟩
      obtain ⟨dx', hx⟩ := Bx.at_
      refine ⟨_, rfl, x, dx', _, rfl, hx, K32.g1, x, dx', _, _, _, rfl, hx, _, rfl, x, dx', _, rfl, hx, K32.g2, x, dx', _, _, _, rfl, hx, _, rfl, x, dx', _, rfl, hx, K32.g3, x, dx', _, _, _, rfl, hx, by show 3 ≤ sizeLine; decide, fun l1 nl1 => ?_⟩
      have s20 := same_upd (o := .lst [V.int sv, .int c, .int m]) nl1
      refine ⟨_, rfl, t, _, rfl, .inr (SqT.of (s20 _ _ htx)), fun l2 nl2 => ?_⟩
      have s21 := same_upd (o := .lst [V.int sv, .int c, .int m]) nl2
      refine ⟨.list [.int sv, .int c, .int m], .list [.int sv, .int c, .int m], .lst (SqL.of (s21 _ _ upd_same)) (.cons (.int _) (.cons (.int _) (.cons (.int _) .nil))), .lst (SqL.of upd_same) (.cons (.int _) (.cons (.int _) (.cons (.int _) .nil))), three_sh _ _ _, three_sh _ _ _, _, rfl, ?_⟩
      rw [three_eq]
      exact ⟨⟨_, _, _, _, _, _, _, _, _, rfl⟩, (smx.trans s20).trans s21⟩
    · rintro σ H1 ⟨⟨x1, x2, x3, x4, x5, x6, x7, x8, x9, rfl⟩, sm⟩
      have N34 : N3 3 10 4 := ⟨by decide, by decide, by decide, by decide, by decide, by decide⟩
      refine fun x dx nx ndx nex => mk_boat nx ndx nex N34 fun H2 s2 B2 => ⟨rfl, ?_⟩
      refine ⟨x, 3, 10, 4, 2, 5, 0, 0, .non, rfl, B2, ⟨by decide, by decide, by decide, by decide, by decide, by decide⟩, .non, fun r H3 s3 hr3 => ?_⟩
      refine ⟨by show 3 ≤ sizeLine; decide, fun t nt => ?_⟩
      have eb : barI 2 3 10 4 5 0 0 = some (Str.ofString "out", 5, 4) := by decide +kernel
      rw [eb] at hr3
      have s4 := same_upd (o := .tup [V.str (Str.ofString "out"), .int 5, .int 4]) nt
      refine ⟨_, _, (hr3.mono s4).dp, .tup (SqT.of upd_same) (.cons (.str _) (.cons (.int _) (.cons (.int _) .nil))), by decide +kernel, by decide +kernel, ?_⟩
      rw [show PyData.eqv (barD (some (Str.ofString "out", 5, 4))) (.tuple [.str (Str.ofString "out"), .int 5, .int 4]) = true by decide +kernel]
      exact q _
end
end K32

set_option Elab.async false
set_option linter.all false
set_option maxRecDepth 100000
set_option maxHeartbeats 3200000
namespace K32
open PySem PySem.Spec PyProof.Rows L2 LT
/-- what the top has left of a def -/
structure Left (K : PySem.W.Frag) (x : Str) (st : Stmt) (f : Addr) (oc : Value) (od an : Option Addr) (kV dc pm cd ct : Value) (sl : Array (Option Value)) : Prop where
  ns : PySem.W.nsIn K mainGlobals x = some (some (.ref f))
  lk : K.lookup f = some ⟨oc, od, .func (PySem.W.fnOf x x (defArgs st) (defBody st) (defScope st) .none kV dc pm an cd ct), sl⟩
  cd : PySem.W.codeIn K cd x = true
  kp : PySem.W.keepIn K (.ref f) = true
theorem Left.fn {K : PySem.W.Frag} {x : Str} {st : Stmt} {f : Addr} {oc : Value} {od an : Option Addr} {kV dc pm cd ct : Value} {sl : Array (Option Value)} (h : Left K x st f oc od an kV dc pm cd ct sl) :
    Fun K x x st f (PySem.W.fnOf x x (defArgs st) (defBody st) (defScope st) .none kV dc pm an cd ct) := fun_mk h.lk h.cd h.kp
/-- what the top has left of a method -/
structure LeftM (K : PySem.W.Frag) (C : Addr) (x q : Str) (st : Stmt) (f : Addr) (oc : Value) (od an : Option Addr) (kV dc pm cd ct : Value) (sl : Array (Option Value)) : Prop where
  at_ : PySem.W.findIn K (.ref C) x = some (some (.ref f))
  lk : K.lookup f = some ⟨oc, od, .func (PySem.W.fnOf x q (defArgs st) (defBody st) (defScope st) .none kV dc pm an cd ct), sl⟩
  cd : PySem.W.codeIn K cd q = true
  kp : PySem.W.keepIn K (.ref f) = true
  isf : PySem.W.isFn K (.ref f) = true
theorem LeftM.fn {K : PySem.W.Frag} {C : Addr} {x q : Str} {st : Stmt} {f : Addr} {oc : Value} {od an : Option Addr} {kV dc pm cd ct : Value} {sl : Array (Option Value)} (h : LeftM K C x q st f oc od an kV dc pm cd ct sl) :
    Fun K x q st f (PySem.W.fnOf x q (defArgs st) (defBody st) (defScope st) .none kV dc pm an cd ct) := fun_mk h.lk h.cd h.kp
theorem LeftM.me {K : PySem.W.Frag} {C : Addr} {x q : Str} {st : Stmt} {f : Addr} {oc : Value} {od an : Option Addr} {kV dc pm cd ct : Value} {sl : Array (Option Value)} (h : LeftM K C x q st f oc od an kV dc pm cd ct sl) :
    Meth K C x f := ⟨h.at_, h.isf, h.kp⟩
/-- what the top has left of a def with defaults -/
structure LeftD (K : PySem.W.Frag) (x : Str) (st : Stmt) (va : Array Value) (f T : Addr) (oc : Value) (od an : Option Addr) (kV dc pm cd ct : Value) (sl : Array (Option Value)) (oT : Value) (dT : Option Addr) (nT : Nat) (sT : Array (Option Value)) : Prop where
  ns : PySem.W.nsIn K mainGlobals x = some (some (.ref f))
  lk : K.lookup f = some ⟨oc, od, .func (PySem.W.fnOf x x (defArgs st) (defBody st) (defScope st) (.ref T) kV dc pm an cd ct), sl⟩
  cd : PySem.W.codeIn K cd x = true
  kp : PySem.W.keepIn K (.ref f) = true
  lT : K.lookup T = some ⟨oT, dT, .seq va nT, sT⟩
theorem kit_self {K : PySem.W.Frag} {a : Addr} : PySem.W.kitOne K (.ref a) (.ref a) = some true := if_pos (c := ((Value.ref a) == (Value.ref a)) = true) (beq_self_eq_true (Value.ref a))
theorem cls_of {K : PySem.W.Frag} {t : Value} {C : Addr} {b : Bool} (i : PySem.W.isClsIn K C = true) (ty : PySem.W.typeIn K (.ref C) = some (.type "type")) (s : PySem.W.subIn K t (.ref C) = some b) : PySem.W.kitCls K t (.ref C) = some b := by
  have i' : (PySem.W.clsIn K C).isSome = true := i
  show (if ((PySem.W.clsIn K C).isSome && PySem.W.typeIn K (.ref C) == some (.type "type")) = true then PySem.W.subIn K t (.ref C) else none) = some b
  rw [i', ty]
  exact s
theorem kit_yes {K : PySem.W.Frag} {t : Value} {C : Addr} (i : PySem.W.isClsIn K C = true) (ty : PySem.W.typeIn K (.ref C) = some (.type "type")) (s : PySem.W.subIn K t (.ref C) = some true) : PySem.W.kitOne K t (.ref C) = some true := by
  unfold PySem.W.kitOne
  split
  · rfl
  · exact cls_of i ty s
theorem kit_no {K : PySem.W.Frag} {t : Value} {C : Addr} (i : PySem.W.isClsIn K C = true) (ty : PySem.W.typeIn K (.ref C) = some (.type "type")) (s : PySem.W.subIn K t (.ref C) = some false) (q : (t == .ref C) = false) : PySem.W.kitOne K t (.ref C) = some false := by
  unfold PySem.W.kitOne
  rw [q]
  exact cls_of i ty s
theorem kit_ve {K : PySem.W.Frag} {D : Addr} (s : PySem.W.subIn K (.ref D) (.type "ValueError") = some true) : PySem.W.kitOne K (.ref D) (.type "ValueError") = some true := by
  unfold PySem.W.kitOne
  split
  · rfl
  · show (if PySem.W.kitMeta "ValueError" = true then PySem.W.subIn K (.ref D) (.type "ValueError") else none) = some true
    rw [show PySem.W.kitMeta "ValueError" = true by decide +kernel]
    exact s
theorem exm_yes {K : PySem.W.Frag} {t : Value} {C : Addr} (b : PySem.W.subIn K (.ref C) (.type "BaseException") = some true) (i : PySem.W.isClsIn K C = true) (ty : PySem.W.typeIn K (.ref C) = some (.type "type")) (s : PySem.W.subIn K t (.ref C) = some true) : PySem.W.exmOne K t (.ref C) = some true := by
  unfold PySem.W.exmOne
  rw [b]
  exact cls_of i ty s
/-- what the top has left of the classes -/
structure LeftC (K : PySem.W.Frag) (C : Addr) : Prop where
  n_C : PySem.W.nsIn K mainGlobals "Boat" = some (some (.ref C))
  pg : PySem.W.plainGet K C Str.empty = true
  hd : PySem.W.hasDictIn K C = true
  po : PySem.W.plainOver K C = true
  sa : PySem.W.findIn K (.ref C) "__setattr__" = some (some (.builtin "object.__setattr__"))
  f1 : PySem.W.findIn K (.ref C) "many_seats" = some none
  f2 : PySem.W.findIn K (.ref C) "most_weight" = some none
  f3 : PySem.W.findIn K (.ref C) "man_weight" = some none
  kC : PySem.W.keepIn K (.ref C) = true
  mks : PySem.W.makesIn K C = true
theorem all_mk {l : PySem.W.OpenLaw} {w : World} {K : PySem.W.Frag} {h : Heap} {mg : Str → Option Value} {fa : Addr} (X : K.In h) (G : h.Ns mainGlobals mg) (hfa : mg "law" = some (.ref fa))
    {C : Addr} (D : LeftC K C)
    {fI : Addr} {ocI : Value} {odI anI : Option Addr} {kVI dcI pmI cdI ctI : Value} {slI : Array (Option Value)} (FI : LeftM K C "__init__" "Boat.__init__" s_Boat___init__ fI ocI odI anI kVI dcI pmI cdI ctI slI)
    {fse : Addr} {ocse : Value} {odse anse : Option Addr} {kVse dcse pmse cdse ctse : Value} {slse : Array (Option Value)} (Fse : LeftM K C "seats" "Boat.seats" s_Boat_seats fse ocse odse anse kVse dcse pmse cdse ctse slse)
    {fcc : Addr} {occc : Value} {odcc ancc : Option Addr} {kVcc dccc pmcc cdcc ctcc : Value} {slcc : Array (Option Value)} (Fcc : LeftM K C "carries" "Boat.carries" s_Boat_carries fcc occc odcc ancc kVcc dccc pmcc cdcc ctcc slcc)
    {fmn : Addr} {ocmn : Value} {odmn anmn : Option Addr} {kVmn dcmn pmmn cdmn ctmn : Value} {slmn : Array (Option Value)} (Fmn : LeftM K C "man" "Boat.man" s_Boat_man fmn ocmn odmn anmn kVmn dcmn pmmn cdmn ctmn slmn)
    {fbd Tbd : Addr} {ocbd : Value} {odbd anbd : Option Addr} {kVbd dcbd pmbd cdbd ctbd : Value} {slbd : Array (Option Value)} {oTbd : Value} {dTbd : Option Addr} {nTbd : Nat} {sTbd : Array (Option Value)} {tbd : Tok} (Fbd : LeftD K "barred" s_barred #[.int 0 tbd, .none] fbd Tbd ocbd odbd anbd kVbd dcbd pmbd cdbd ctbd slbd oTbd dTbd nTbd sTbd)
    {fwh : Addr} {ocwh : Value} {odwh anwh : Option Addr} {kVwh dcwh pmwh cdwh ctwh : Value} {slwh : Array (Option Value)} (Fwh : Left K "is_whole" s_is_whole fwh ocwh odwh anwh kVwh dcwh pmwh cdwh ctwh slwh)
    {ffr : Addr} {ocfr : Value} {odfr anfr : Option Addr} {kVfr dcfr pmfr cdfr ctfr : Value} {slfr : Array (Option Value)} (Ffr : Left K "is_from" s_is_from ffr ocfr odfr anfr kVfr dcfr pmfr cdfr ctfr slfr)
    {fnm : Addr} {ocnm : Value} {odnm annm : Option Addr} {kVnm dcnm pmnm cdnm ctnm : Value} {slnm : Array (Option Value)} (Fnm : Left K "is_name" s_is_name fnm ocnm odnm annm kVnm dcnm pmnm cdnm ctnm slnm)
    {fro : Addr} {ocro : Value} {odro anro : Option Addr} {kVro dcro pmro cdro ctro : Value} {slro : Array (Option Value)} (Fro : Left K "room_of" s_room_of fro ocro odro anro kVro dcro pmro cdro ctro slro)
    {fwt : Addr} {ocwt : Value} {odwt anwt : Option Addr} {kVwt dcwt pmwt cdwt ctwt : Value} {slwt : Array (Option Value)} (Fwt : Left K "weight_out" s_weight_out fwt ocwt odwt anwt kVwt dcwt pmwt cdwt ctwt slwt)
    {fcw : Addr} {occw : Value} {odcw ancw : Option Addr} {kVcw dccw pmcw cdcw ctcw : Value} {slcw : Array (Option Value)} (Fcw : Left K "check_wanted" s_check_wanted fcw occw odcw ancw kVcw dccw pmcw cdcw ctcw slcw)
    {fst : Addr} {ocst : Value} {odst anst : Option Addr} {kVst dcst pmst cdst ctst : Value} {slst : Array (Option Value)} (Fst : Left K "are_stores" s_are_stores fst ocst odst anst kVst dcst pmst cdst ctst slst)
    {fce : Addr} {occe : Value} {odce ance : Option Addr} {kVce dcce pmce cdce ctce : Value} {slce : Array (Option Value)} (Fce : Left K "_law_cell" s__law_cell fce occe odce ance kVce dcce pmce cdce ctce slce)
    {fpo : Addr} {ocpo : Value} {odpo anpo : Option Addr} {kVpo dcpo pmpo cdpo ctpo : Value} {slpo : Array (Option Value)} (Fpo : Left K "_law_pot" s__law_pot fpo ocpo odpo anpo kVpo dcpo pmpo cdpo ctpo slpo)
    {fta : Addr} {octa : Value} {odta anta : Option Addr} {kVta dcta pmta cdta ctta : Value} {slta : Array (Option Value)} (Fta : Left K "_law_take" s__law_take fta octa odta anta kVta dcta pmta cdta ctta slta)
    {ffa : Addr} {ocfa : Value} {odfa anfa : Option Addr} {kVfa dcfa pmfa cdfa ctfa : Value} {slfa : Array (Option Value)} (Ffa : Left K "_law_far" s__law_far ffa ocfa odfa anfa kVfa dcfa pmfa cdfa ctfa slfa)
    {fnu : Addr} {ocnu : Value} {odnu annu : Option Addr} {kVnu dcnu pmnu cdnu ctnu : Value} {slnu : Array (Option Value)} (Fnu : Left K "_law_number" s__law_number fnu ocnu odnu annu kVnu dcnu pmnu cdnu ctnu slnu)
    {fbo : Addr} {ocbo : Value} {odbo anbo : Option Addr} {kVbo dcbo pmbo cdbo ctbo : Value} {slbo : Array (Option Value)} (Fbo : Left K "_law_boat" s__law_boat fbo ocbo odbo anbo kVbo dcbo pmbo cdbo ctbo slbo)
    {fna : Addr} {ocna : Value} {odna anna : Option Addr} {kVna dcna pmna cdna ctna : Value} {slna : Array (Option Value)} (Fna : Left K "_law_name" s__law_name fna ocna odna anna kVna dcna pmna cdna ctna slna)
    {fso : Addr} {ocso : Value} {odso anso : Option Addr} {kVso dcso pmso cdso ctso : Value} {slso : Array (Option Value)} (Fso : Left K "_law_stores" s__law_stores fso ocso odso anso kVso dcso pmso cdso ctso slso)
    {flr : Addr} {oclr : Value} {odlr anlr : Option Addr} {kVlr dclr pmlr cdlr ctlr : Value} {sllr : Array (Option Value)} (Flr : Left K "_law_room" s__law_room flr oclr odlr anlr kVlr dclr pmlr cdlr ctlr sllr)
    {fme : Addr} {ocme : Value} {odme anme : Option Addr} {kVme dcme pmme cdme ctme : Value} {slme : Array (Option Value)} (Fme : Left K "_law_men" s__law_men fme ocme odme anme kVme dcme pmme cdme ctme slme)
    {ffi : Addr} {ocfi : Value} {odfi anfi : Option Addr} {kVfi dcfi pmfi cdfi ctfi : Value} {slfi : Array (Option Value)} (Ffi : Left K "_law_filled" s__law_filled ffi ocfi odfi anfi kVfi dcfi pmfi cdfi ctfi slfi)
    {fdu : Addr} {ocdu : Value} {oddu andu : Option Addr} {kVdu dcdu pmdu cddu ctdu : Value} {sldu : Array (Option Value)} (Fdu : Left K "_law_due" s__law_due fdu ocdu oddu andu kVdu dcdu pmdu cddu ctdu sldu)
    {fto : Addr} {octo : Value} {odto anto : Option Addr} {kVto dcto pmto cdto ctto : Value} {slto : Array (Option Value)} (Fto : Left K "_law_told" s__law_told fto octo odto anto kVto dcto pmto cdto ctto slto)
    {fri : Addr} {ocri : Value} {odri anri : Option Addr} {kVri dcri pmri cdri ctri : Value} {slri : Array (Option Value)} (Fri : Left K "_law_right" s__law_right fri ocri odri anri kVri dcri pmri cdri ctri slri)
    {fW : Addr} {ocW : Value} {odW anW : Option Addr} {kVW dcW pmW cdW ctW : Value} {slW : Array (Option Value)} (FW : Left K "law" s_law fW ocW odW anW kVW dcW pmW cdW ctW slW)
    {tA : Tok} (x_A : PySem.W.nsIn K mainGlobals "SMALL_LETTERS" = some (some (.str (Str.ofString "abcdefghijklmnopqrstuvwxyz") tA)))
    {tB : Tok} (x_B : PySem.W.nsIn K mainGlobals "LONGEST_NAME" = some (some (.int 8 tB)))
    {tD : Tok} (x_D : PySem.W.nsIn K mainGlobals "MOST_THINGS" = some (some (.int 8 tD)))
    (z_isinstance : PySem.W.nsIn K mainGlobals "isinstance" = some none)
    (z_int : PySem.W.nsIn K mainGlobals "int" = some none)
    (z_bool : PySem.W.nsIn K mainGlobals "bool" = some none)
    (z_len : PySem.W.nsIn K mainGlobals "len" = some none)
    (z_abs : PySem.W.nsIn K mainGlobals "abs" = some none)
    (z_max : PySem.W.nsIn K mainGlobals "max" = some none)
    (z_min : PySem.W.nsIn K mainGlobals "min" = some none)
    (z_divmod : PySem.W.nsIn K mainGlobals "divmod" = some none)
    (z_range : PySem.W.nsIn K mainGlobals "range" = some none)
    (z_repr : PySem.W.nsIn K mainGlobals "repr" = some none)
    (z_zip : PySem.W.nsIn K mainGlobals "zip" = some none)
    (z_ValueError : PySem.W.nsIn K mainGlobals "ValueError" = some none)
    (z_all : PySem.W.nsIn K mainGlobals "all" = some none)
    (z_any : PySem.W.nsIn K mainGlobals "any" = some none)
    (z_sum : PySem.W.nsIn K mainGlobals "sum" = some none)
    (z_sorted : PySem.W.nsIn K mainGlobals "sorted" = some none)
    (z_list : PySem.W.nsIn K mainGlobals "list" = some none)
    (z_tuple : PySem.W.nsIn K mainGlobals "tuple" = some none)
    (z_dict : PySem.W.nsIn K mainGlobals "dict" = some none)
    (z_enumerate : PySem.W.nsIn K mainGlobals "enumerate" = some none)
    (z_reversed : PySem.W.nsIn K mainGlobals "reversed" = some none)
    (z_str : PySem.W.nsIn K mainGlobals "str" = some none)
    (z_set : PySem.W.nsIn K mainGlobals "set" = some none)
    : ∃ fd : FuncData, (∀ (s : Shared) (v : Value), BindsTo s fd ⟨[v], []⟩ [("_law_script", v)]) ∧
      ∀ base : Heap, K.In base → base.Ns mainGlobals mg → FnG l.prog w K mg base CX0 8 fa fd ["_law_script"] (spLaw K) := by
  have e := hfa.symm.trans (PySem.W.mg_of X G FW.ns)
  cases e
  have N : ∀ {x : Str}, PySem.W.nsIn K mainGlobals x = some none → mg x = none := fun z => PySem.W.mg_none_of X G z
  have Bwh : Has K mg "is_whole" ["thing"] s_is_whole _ _ := ⟨Fwh.fn, Fwh.fn.binds fun _ _ _ _ _ _ us hl => match us, hl with | [_], _ => rfl, PySem.W.mg_of X G Fwh.ns⟩
  have Bfr : Has K mg "is_from" ["thing", "least"] s_is_from _ _ := ⟨Ffr.fn, Ffr.fn.binds fun _ _ _ _ _ _ us hl => match us, hl with | [_, _], _ => rfl, PySem.W.mg_of X G Ffr.ns⟩
  have Bnm : Has K mg "is_name" ["thing"] s_is_name _ _ := ⟨Fnm.fn, Fnm.fn.binds fun _ _ _ _ _ _ us hl => match us, hl with | [_], _ => rfl, PySem.W.mg_of X G Fnm.ns⟩
  have Bro : Has K mg "room_of" ["boat"] s_room_of _ _ := ⟨Fro.fn, Fro.fn.binds fun _ _ _ _ _ _ us hl => match us, hl with | [_], _ => rfl, PySem.W.mg_of X G Fro.ns⟩
  have Bwt : Has K mg "weight_out" ["boat", "out", "stores"] s_weight_out _ _ := ⟨Fwt.fn, Fwt.fn.binds fun _ _ _ _ _ _ us hl => match us, hl with | [_, _, _], _ => rfl, PySem.W.mg_of X G Fwt.ns⟩
  have Bcw : Has K mg "check_wanted" ["out", "back", "stores"] s_check_wanted _ _ := ⟨Fcw.fn, Fcw.fn.binds fun _ _ _ _ _ _ us hl => match us, hl with | [_, _, _], _ => rfl, PySem.W.mg_of X G Fcw.ns⟩
  have Bst : Has K mg "are_stores" ["thing"] s_are_stores _ _ := ⟨Fst.fn, Fst.fn.binds fun _ _ _ _ _ _ us hl => match us, hl with | [_], _ => rfl, PySem.W.mg_of X G Fst.ns⟩
  have Bce : Has K mg "_law_cell" ["_law_script", "_law_k"] s__law_cell _ _ := ⟨Fce.fn, Fce.fn.binds fun _ _ _ _ _ _ us hl => match us, hl with | [_, _], _ => rfl, PySem.W.mg_of X G Fce.ns⟩
  have Bpo : Has K mg "_law_pot" ["_law_script", "_law_k"] s__law_pot _ _ := ⟨Fpo.fn, Fpo.fn.binds fun _ _ _ _ _ _ us hl => match us, hl with | [_, _], _ => rfl, PySem.W.mg_of X G Fpo.ns⟩
  have Bta : Has K mg "_law_take" ["_law_pot_here", "_law_room_here"] s__law_take _ _ := ⟨Fta.fn, Fta.fn.binds fun _ _ _ _ _ _ us hl => match us, hl with | [_, _], _ => rfl, PySem.W.mg_of X G Fta.ns⟩
  have Bfa : Has K mg "_law_far" ["_law_pot_here"] s__law_far _ _ := ⟨Ffa.fn, Ffa.fn.binds fun _ _ _ _ _ _ us hl => match us, hl with | [_], _ => rfl, PySem.W.mg_of X G Ffa.ns⟩
  have Bnu : Has K mg "_law_number" ["_law_pot_here", "_law_most"] s__law_number _ _ := ⟨Fnu.fn, Fnu.fn.binds fun _ _ _ _ _ _ us hl => match us, hl with | [_, _], _ => rfl, PySem.W.mg_of X G Fnu.ns⟩
  have Bbo : Has K mg "_law_boat" ["_law_pot_here"] s__law_boat _ _ := ⟨Fbo.fn, Fbo.fn.binds fun _ _ _ _ _ _ us hl => match us, hl with | [_], _ => rfl, PySem.W.mg_of X G Fbo.ns⟩
  have Bna : Has K mg "_law_name" ["_law_pot_here"] s__law_name _ _ := ⟨Fna.fn, Fna.fn.binds fun _ _ _ _ _ _ us hl => match us, hl with | [_], _ => rfl, PySem.W.mg_of X G Fna.ns⟩
  have Bso : Has K mg "_law_stores" ["_law_pot_here"] s__law_stores _ _ := ⟨Fso.fn, Fso.fn.binds fun _ _ _ _ _ _ us hl => match us, hl with | [_], _ => rfl, PySem.W.mg_of X G Fso.ns⟩
  have Blr : Has K mg "_law_room" ["_law_ship"] s__law_room _ _ := ⟨Flr.fn, Flr.fn.binds fun _ _ _ _ _ _ us hl => match us, hl with | [_], _ => rfl, PySem.W.mg_of X G Flr.ns⟩
  have Bme : Has K mg "_law_men" ["_law_pot_here", "_law_most"] s__law_men _ _ := ⟨Fme.fn, Fme.fn.binds fun _ _ _ _ _ _ us hl => match us, hl with | [_, _], _ => rfl, PySem.W.mg_of X G Fme.ns⟩
  have Bfi : Has K mg "_law_filled" ["_law_pot_here", "_law_cargo", "_law_left"] s__law_filled _ _ := ⟨Ffi.fn, Ffi.fn.binds fun _ _ _ _ _ _ us hl => match us, hl with | [_, _, _], _ => rfl, PySem.W.mg_of X G Ffi.ns⟩
  have Bdu : Has K mg "_law_due" ["_law_ship", "_law_four"] s__law_due _ _ := ⟨Fdu.fn, Fdu.fn.binds fun _ _ _ _ _ _ us hl => match us, hl with | [_, _], _ => rfl, PySem.W.mg_of X G Fdu.ns⟩
  have Bto : Has K mg "_law_told" ["_law_way", "_law_ship", "_law_four", "_law_cargo"] s__law_told _ _ := ⟨Fto.fn, Fto.fn.binds fun _ _ _ _ _ _ us hl => match us, hl with | [_, _, _, _], _ => rfl, PySem.W.mg_of X G Fto.ns⟩
  have Bri : Has K mg "_law_right" ["_law_ship", "_law_numbers", "_law_four", "_law_cargo"] s__law_right _ _ := ⟨Fri.fn, Fri.fn.binds fun _ _ _ _ _ _ us hl => match us, hl with | [_, _, _, _], _ => rfl, PySem.W.mg_of X G Fri.ns⟩
  have Dbd : FunD K "barred" "barred" (defArgs s_barred) (defBody s_barred) (defScope s_barred) [.int 0, .non] [] _ _ := ⟨⟨ocbd, odbd, .ref Tbd, kVbd, dcbd, pmbd, anbd, cdbd, ctbd, slbd, rfl, Fbd.lk, Fbd.cd, .inr ⟨nofun, Tbd, _, [.int 0 tbd, .none], nTbd, rfl, Fbd.lT, rfl, .cons ⟨_, rfl⟩ (.cons rfl .nil)⟩, .inl rfl⟩, Fbd.kp⟩
  have bI : L2.Binds K _ ["self", "seats", "carries", "man"] [] := FI.fn.binds fun _ _ _ _ _ _ us hl => match us, hl with | [_, _, _, _], _ => rfl
  have bse : L2.Binds K _ ["self"] [] := Fse.fn.binds fun _ _ _ _ _ _ us hl => match us, hl with | [_], _ => rfl
  have bcc : L2.Binds K _ ["self"] [] := Fcc.fn.binds fun _ _ _ _ _ _ us hl => match us, hl with | [_], _ => rfl
  have bmn : L2.Binds K _ ["self"] [] := Fmn.fn.binds fun _ _ _ _ _ _ us hl => match us, hl with | [_], _ => rfl
  have T : Tx mg := ⟨N z_isinstance, N z_int, N z_bool, N z_len, N z_abs, N z_max, N z_min, N z_divmod, N z_range, N z_repr, N z_zip, N z_ValueError, N z_all, N z_any, N z_sum, N z_sorted, N z_list, N z_tuple, N z_dict, N z_enumerate, N z_reversed, N z_str, N z_set⟩
  have LS : Ls K mg C := ⟨⟨⟨_, PySem.W.mg_of X G x_A⟩, ⟨_, PySem.W.mg_of X G x_B⟩, ⟨_, PySem.W.mg_of X G x_D⟩⟩, ⟨⟨D.pg, D.hd, D.po, D.sa⟩, D.f1, D.f2, D.f3, PySem.W.mg_of X G D.n_C, D.kC⟩, ⟨_, _, ⟨D.mks, FI.at_, FI.isf, D.kC⟩, FI.fn, bI⟩, ⟨_, _, _, _, _, _, ⟨⟨Fse.fn, bse, Fse.me⟩, ⟨Fcc.fn, bcc, Fcc.me⟩, ⟨Fmn.fn, bmn, Fmn.me⟩⟩⟩, ⟨_, _, Dbd, PySem.W.mg_of X G Fbd.ns, Fbd.kp⟩, ⟨_, _, Bro⟩, ⟨_, _, Bwt⟩, ⟨_, _, Bcw⟩, ⟨_, _, Bst⟩, ⟨_, _, Bnm⟩, ⟨_, _, Bfr⟩, ⟨_, _, Bwh⟩, ⟨_, _, Bce⟩, ⟨_, _, Bpo⟩, ⟨_, _, Bta⟩, ⟨_, _, Bfa⟩, ⟨_, _, Bnu⟩, ⟨_, _, Bbo⟩, ⟨_, _, Bna⟩, ⟨_, _, Bso⟩, ⟨_, _, Blr⟩, ⟨_, _, Bme⟩, ⟨_, _, Bfi⟩, ⟨_, _, Bdu⟩, ⟨_, _, Bto⟩, ⟨_, _, Bri⟩⟩
  exact ⟨_, fun s v => .of_eq rfl, fun base _ _ => ok_law FW.fn T LS⟩
end K32
open PySem PySem.W PyProof.Rows
set_option maxHeartbeats 0 in
theorem PySem.Challenge.cw_lightturns_k32_goings_barred_holds : PySem.Challenge.rw_lightturns_k32_goings_barred.Holds := by
  w_on; o_law; k_head; (case hw => w_witness2)
  k_fill
  refine LT.end_of (l := PySem.Challenge.rw_lightturns_k32_goings_barred) (n := 63) (k := 8) (x := "_law_script") (CX := fun _ => L2.CX0) (sp := fun w => K32.spLaw _) rfl (by decide) rfl ⟨rfl, by decide, by decide⟩ (fun w h Y => PySem.W.kIn_of Y) ?F (fun _ _ a ns hl hb _ hS => ⟨a, ns, rfl, hS, hl, fun _ => rfl⟩) (fun _ _ _ _ _ h => h)
  case F =>
    intro w mg fa h KX G hmg
    refine' K32.all_mk (l := PySem.Challenge.rw_lightturns_k32_goings_barred) KX G hmg ⟨?d_n_C, ?d_pg, ?d_hd, ?d_po, ?d_sa, ?d_f1, ?d_f2, ?d_f3, ?d_kC, ?d_mks⟩ ⟨?m_I_at, ?m_I_lk, ?m_I_cd, ?m_I_kp, ?m_I_isf⟩ ⟨?m_se_at, ?m_se_lk, ?m_se_cd, ?m_se_kp, ?m_se_isf⟩ ⟨?m_cc_at, ?m_cc_lk, ?m_cc_cd, ?m_cc_kp, ?m_cc_isf⟩ ⟨?m_mn_at, ?m_mn_lk, ?m_mn_cd, ?m_mn_kp, ?m_mn_isf⟩ ⟨?g_bd_ns, ?g_bd_lk, ?g_bd_cd, ?g_bd_kp, ?g_bd_lT⟩ ⟨?f_wh_ns, ?f_wh_lk, ?f_wh_cd, ?f_wh_kp⟩ ⟨?f_fr_ns, ?f_fr_lk, ?f_fr_cd, ?f_fr_kp⟩ ⟨?f_nm_ns, ?f_nm_lk, ?f_nm_cd, ?f_nm_kp⟩ ⟨?f_ro_ns, ?f_ro_lk, ?f_ro_cd, ?f_ro_kp⟩ ⟨?f_wt_ns, ?f_wt_lk, ?f_wt_cd, ?f_wt_kp⟩ ⟨?f_cw_ns, ?f_cw_lk, ?f_cw_cd, ?f_cw_kp⟩ ⟨?f_st_ns, ?f_st_lk, ?f_st_cd, ?f_st_kp⟩ ⟨?f_ce_ns, ?f_ce_lk, ?f_ce_cd, ?f_ce_kp⟩ ⟨?f_po_ns, ?f_po_lk, ?f_po_cd, ?f_po_kp⟩ ⟨?f_ta_ns, ?f_ta_lk, ?f_ta_cd, ?f_ta_kp⟩ ⟨?f_fa_ns, ?f_fa_lk, ?f_fa_cd, ?f_fa_kp⟩ ⟨?f_nu_ns, ?f_nu_lk, ?f_nu_cd, ?f_nu_kp⟩ ⟨?f_bo_ns, ?f_bo_lk, ?f_bo_cd, ?f_bo_kp⟩ ⟨?f_na_ns, ?f_na_lk, ?f_na_cd, ?f_na_kp⟩ ⟨?f_so_ns, ?f_so_lk, ?f_so_cd, ?f_so_kp⟩ ⟨?f_lr_ns, ?f_lr_lk, ?f_lr_cd, ?f_lr_kp⟩ ⟨?f_me_ns, ?f_me_lk, ?f_me_cd, ?f_me_kp⟩ ⟨?f_fi_ns, ?f_fi_lk, ?f_fi_cd, ?f_fi_kp⟩ ⟨?f_du_ns, ?f_du_lk, ?f_du_cd, ?f_du_kp⟩ ⟨?f_to_ns, ?f_to_lk, ?f_to_cd, ?f_to_kp⟩ ⟨?f_ri_ns, ?f_ri_lk, ?f_ri_cd, ?f_ri_kp⟩ ⟨?f_W_ns, ?f_W_lk, ?f_W_cd, ?f_W_kp⟩ ?x_A ?x_B ?x_D ?z_isinstance ?z_int ?z_bool ?z_len ?z_abs ?z_max ?z_min ?z_divmod ?z_range ?z_repr ?z_zip ?z_ValueError ?z_all ?z_any ?z_sum ?z_sorted ?z_list ?z_tuple ?z_dict ?z_enumerate ?z_reversed ?z_str ?z_set
    (case d_n_C => k_is)
    (case m_I_at => k_is)
    (case m_se_at => k_is)
    (case m_cc_at => k_is)
    (case m_mn_at => k_is)
    (case g_bd_ns => k_is)
    (case f_wh_ns => k_is)
    (case f_fr_ns => k_is)
    (case f_nm_ns => k_is)
    (case f_ro_ns => k_is)
    (case f_wt_ns => k_is)
    (case f_cw_ns => k_is)
    (case f_st_ns => k_is)
    (case f_ce_ns => k_is)
    (case f_po_ns => k_is)
    (case f_ta_ns => k_is)
    (case f_fa_ns => k_is)
    (case f_nu_ns => k_is)
    (case f_bo_ns => k_is)
    (case f_na_ns => k_is)
    (case f_so_ns => k_is)
    (case f_lr_ns => k_is)
    (case f_me_ns => k_is)
    (case f_fi_ns => k_is)
    (case f_du_ns => k_is)
    (case f_to_ns => k_is)
    (case f_ri_ns => k_is)
    (case f_W_ns => k_is)
    (case x_A => k_is)
    (case x_B => k_is)
    (case x_D => k_is)
    (case m_I_lk => k_is)
    (case m_se_lk => k_is)
    (case m_cc_lk => k_is)
    (case m_mn_lk => k_is)
    (case g_bd_lk => k_is)
    (case f_wh_lk => k_is)
    (case f_fr_lk => k_is)
    (case f_nm_lk => k_is)
    (case f_ro_lk => k_is)
    (case f_wt_lk => k_is)
    (case f_cw_lk => k_is)
    (case f_st_lk => k_is)
    (case f_ce_lk => k_is)
    (case f_po_lk => k_is)
    (case f_ta_lk => k_is)
    (case f_fa_lk => k_is)
    (case f_nu_lk => k_is)
    (case f_bo_lk => k_is)
    (case f_na_lk => k_is)
    (case f_so_lk => k_is)
    (case f_lr_lk => k_is)
    (case f_me_lk => k_is)
    (case f_fi_lk => k_is)
    (case f_du_lk => k_is)
    (case f_to_lk => k_is)
    (case f_ri_lk => k_is)
    (case f_W_lk => k_is)
    (case d_pg => k_is)
    (case d_hd => k_is)
    (case d_po => k_is)
    (case d_sa => k_is)
    (case d_f1 => k_is)
    (case d_f2 => k_is)
    (case d_f3 => k_is)
    (case d_kC => k_is)
    (case d_mks => k_is)
    (case m_I_cd => k_is)
    (case m_I_kp => k_is)
    (case m_I_isf => k_is)
    (case m_se_cd => k_is)
    (case m_se_kp => k_is)
    (case m_se_isf => k_is)
    (case m_cc_cd => k_is)
    (case m_cc_kp => k_is)
    (case m_cc_isf => k_is)
    (case m_mn_cd => k_is)
    (case m_mn_kp => k_is)
    (case m_mn_isf => k_is)
    (case g_bd_cd => k_is)
    (case g_bd_kp => k_is)
    (case g_bd_lT => k_is)
    (case f_wh_cd => k_is)
    (case f_wh_kp => k_is)
    (case f_fr_cd => k_is)
    (case f_fr_kp => k_is)
    (case f_nm_cd => k_is)
    (case f_nm_kp => k_is)
    (case f_ro_cd => k_is)
    (case f_ro_kp => k_is)
    (case f_wt_cd => k_is)
    (case f_wt_kp => k_is)
    (case f_cw_cd => k_is)
    (case f_cw_kp => k_is)
    (case f_st_cd => k_is)
    (case f_st_kp => k_is)
    (case f_ce_cd => k_is)
    (case f_ce_kp => k_is)
    (case f_po_cd => k_is)
    (case f_po_kp => k_is)
    (case f_ta_cd => k_is)
    (case f_ta_kp => k_is)
    (case f_fa_cd => k_is)
    (case f_fa_kp => k_is)
    (case f_nu_cd => k_is)
    (case f_nu_kp => k_is)
    (case f_bo_cd => k_is)
    (case f_bo_kp => k_is)
    (case f_na_cd => k_is)
    (case f_na_kp => k_is)
    (case f_so_cd => k_is)
    (case f_so_kp => k_is)
    (case f_lr_cd => k_is)
    (case f_lr_kp => k_is)
    (case f_me_cd => k_is)
    (case f_me_kp => k_is)
    (case f_fi_cd => k_is)
    (case f_fi_kp => k_is)
    (case f_du_cd => k_is)
    (case f_du_kp => k_is)
    (case f_to_cd => k_is)
    (case f_to_kp => k_is)
    (case f_ri_cd => k_is)
    (case f_ri_kp => k_is)
    (case f_W_cd => k_is)
    (case f_W_kp => k_is)
    (case z_isinstance => k_is)
    (case z_int => k_is)
    (case z_bool => k_is)
    (case z_len => k_is)
    (case z_abs => k_is)
    (case z_max => k_is)
    (case z_min => k_is)
    (case z_divmod => k_is)
    (case z_range => k_is)
    (case z_repr => k_is)
    (case z_zip => k_is)
    (case z_ValueError => k_is)
    (case z_all => k_is)
    (case z_any => k_is)
    (case z_sum => k_is)
    (case z_sorted => k_is)
    (case z_list => k_is)
    (case z_tuple => k_is)
    (case z_dict => k_is)
    (case z_enumerate => k_is)
    (case z_reversed => k_is)
    (case z_str => k_is)
    (case z_set => k_is)

