import PyProof.Rows.All
import Wide.All
import OpenK.AllK
import Wide.FinOn
import HandS.ForMost
import HandS.IsInst
import HandS.Wide
import HandS.WideBits
import HandS.EndBits
import HandS.Style
import HandS.RaiseMore
import PyProof.ReprRoads
import PyProof.ListStr
import HandS.ForExc
import HandS.Exc
import HandS.ExcIs
import HandS.CallSlots
import HandS.HotCalls
import HandS.Defaults
import HandS.MakeKw
import HandS.MakeKwOnly
import HandS.Nested
import HandS.ExcInit
import KE.KExcSuper
import HandS.ExcField
import HandS.FStr
import HandS.Words
import KE.KExcIs
import HandS.Walk
import HandS.Flow
import HandS.Zip
import PyProof.EqKinds
import PyProof.NeKinds
import KE.KFmtOwn
import HandS.OwnEq
import KE.DatumOrd
import HandS.FStrTup
import KE.DataMinMax
import HandS.TupMul
import PySem.Challenge.RW_lightturns_k44_moved_equal_shown
import HandS.SortInts
import KE.KSortedM
import HandS.More
set_option Elab.async false
set_option linter.all false
set_option maxRecDepth 100000
/-! Own layer: defs called where no repr is under way (FnG), repr of data, the end of a law by such a def. -/
namespace LT
open PySem PySem.Spec PyProof.Rows L2

structure FnG (P : Program) (w : World) (K : PySem.W.Frag) (mg : Str → Option Value) (base : Heap)
    (CX : CXT) (k : Nat) (f : Addr) (fd : FuncData) (ps : List Str) (sp : Sp) : Prop where
  argc : ∀ {vs : List V} {H : Hp} {Q : VK} {E : XK}, sp vs H Q E → vs.length = ps.length
  go : ∀ {A : Around} {outer : List Env} {s : Shared} {H : Hp} {args : Args} {us : List Value} {vs : List V}
    {Q : VK} {E : XK}, A.guards = some [] → Room k A → Env0 P w K mg base A outer s H →
    BindsTo s fd args (ps.zip us) → Vals vs us → sp vs H Q E →
    codeAny (model P w) A (.call (.ref f) args) (CR CX outer P w H s Q E) s

section
variable {P : Program} {w : World} {K : PySem.W.Frag} {mg : Str → Option Value} {base : Heap}
theorem FnG.of {CX : CXT} {k : Nat} {f : Addr} {fd : FuncData} {ps : List Str} {sp : Sp}
    (F : FnOk P w K mg base CX k f fd ps sp) : FnG P w K mg base CX k f fd ps sp :=
  ⟨fun h => F.len _ _ _ _ h, fun _ hr e b v h => F.run _ _ _ _ _ _ _ _ _ hr e b v h⟩

theorem okG {x qual : Str} {st : Stmt} {f : Addr} {fd : FuncData} {N ps : List Str} {k : Nat} {sp : Sp}
    (F : Fun K x qual st f fd) (S : FnScope N ps (defScope st))
    (argc : ∀ {vs : List V} {H : Hp} {Q : VK} {E : XK}, sp vs H Q E → vs.length = ps.length)
    (body : ∀ (cdv : Value) (A : Around) (outer : List Env) (s : Shared) (H : Hp) (vs : List V) (Q : VK) (E : XK),
      A.guards = some [] → Room k (A.deeper (envOfC qual (defScope st) s.heap.objs.size f cdv)) → sp vs H Q E →
      ∃ t, PSs (cxOf CX0 P w K mg base N qual (defScope st) f cdv A outer s H E).nox (defBody st) t ∧
        t { nx := fun _ H' => Q .non H', rt := Q } (start N vs) H) :
    FnG P w K mg base CX0 (k + 1) f fd ps sp := by
  obtain ⟨oc, od, kV, doc, pm, an, cdv, ct, osl, rfl, lk, hcd⟩ := F.ex
  refine ⟨argc, ?_⟩
  intro A outer s H args us vs Q E hg hr e0 hb r hsp
  have inS : ∀ b o, base.get? b = some o → s.heap.get? b = some o := fun b o e => (e0.bs b o e).1
  have KX : K.In s.heap := e0.mod.kin.keeps inS
  have hkind : ∀ y ∈ ps.zip us, (defScope st).names.lookup y.1 = some .local ∨
      ((defScope st).names.lookup y.1 = some .cell ∧
        ((cellsFrom (s.heap.objs.size + 1) (defScope st).names []).lookup y.1).isSome = true) := by
    rintro ⟨n, v⟩ hy
    rcases S.par n (List.of_mem_zip hy).1 with q | q
    · exact Or.inl q
    · exact Or.inr ⟨q, PySem.W.cellsFrom_some _ _ _ (Or.inl q)⟩
  refine codeAny_call_function hr.depth (KX _ _ lk) rfl S.co S.gen rfl (PySem.W.codeRec_of KX hcd)
    (hb _ _ _ _ (wpAny_newFunctionEnv_cells S.kind hkind fun env he s1 x => ?_))
  subst he
  refine ⟨(e0.mod.nolimit.keeps inS).keeps x.toInCall.keep, codeAny_func ?_⟩
  obtain ⟨t, ht, hq⟩ := body cdv A outer s H vs Q E hg (hr.deeper _) hsp
  have I := inv_start (CX := CX0) (N := N) (qual := qual) (f := f) (cd := cdv) (E := E) S hr.hd e0 (argc hsp) r x
  refine wpAny_mono (ht.nox.run [] s1 (start N vs) H _ I hq) (fun fl s' hs => ?_) (fun e s' hs => hs)
  cases fl with
  | brk => obtain ⟨_, _, _, q⟩ := hs; exact q.elim
  | cont => obtain ⟨_, _, _, q⟩ := hs; exact q.elim
  | next =>
    obtain ⟨σ', H', J, q⟩ := hs
    exact ⟨V.non, H', J.os, J.bare, J.base, J.hok, rfl, q⟩
  | ret u =>
    obtain ⟨v, σ', H', J, rv, q⟩ := hs
    exact ⟨v, H', J.os, J.bare, J.base, J.hok, rv, q⟩
end

/-! ### the call of such a def -/
section
variable {X : Cx} {CX : CXT} {k : Nat} {f : Addr} {fd : FuncData} {ps : List Str} {sp : Sp} {dvs : List V}
  {ds : List Value} {E : XK} {x : Str} {p pos : Pos} {e : Expr} {es : List Expr} {t : TA}
theorem runG {pins : List (Addr × Obj)} {σ : L2.St} {H : Hp} {s : Shared} {Q : VK} {us : List Value} {vs : List V}
    (F : FnG X.prog X.w X.K X.mg X.base CX k f fd ps sp) (hg : X.A.guards = some []) (hr : Room k X.A)
    (hb : Binds X.K fd ps ds) (hd : Vals dvs ds) (hx : Passes CX X E)
    (I : Inv X pins σ H s) (r : Vals vs us) (h : sp (vs ++ dvs) H Q E) :
    wpAny (model X.prog X.w) X.A (call (.ref f) us) (EP X pins σ Q) X.xe s := by
  have r2 : Vals (vs ++ dvs) (us ++ ds) := r.append hd
  have hl : (us ++ ds).length = ps.length := r2.length.symm.trans (F.argc h)
  refine wpAny_call (codeAny_mono (F.go hg hr I.env0 (hb s us I.kIn hl) r2 h) fun r s' hq => ?_)
  match r, hq with
  | .error e, hq => exact hx pins σ H s e s' I hq
  | .ok (.ret u), hq => exact I.after hq
  | .ok .next, hq => exact hq.elim
  | .ok .brk, hq => exact hq.elim
  | .ok .cont, hq => exact hq.elim
theorem pe_callG (F : FnG X.prog X.w X.K X.mg X.base CX k f fd ps sp) (hG : X.A.guards = some []) (hr : Room k X.A)
    (hg : Gl X x) (hm : X.mg x = some (.ref f)) (hk : PySem.W.keepIn X.K (.ref f) = true) (hb : Binds X.K fd ps ds)
    (hd : Vals dvs ds) (hx : Passes CX X E) (ha : PA X (e :: es) t)
    (hdb : (x == ("__debug__" : Str)) = false := by decide)
    (he : starEach (e :: es) X.env = (false, eval e X.env) :: starEach es X.env := by rfl)
    (hpl : (backTo pos (starEach es X.env)).any (·.1) = false := by rfl) :
    PE X (.Call (.Name x p) (e :: es) [] pos) (tCall sp dvs E t) := by
  refine ⟨fun pins s σ H Q I h => wpAny_Call_Name_kw (ld_glob I hg hm ?_ hdb)⟩
  refine PySem.W.callWith_K (h₀ := X.base) I.ok.mod.kin hk ?_ he hpl
  exact thn (ha.run pos pins s σ H _ I h) fun us s1 ⟨vs, H1, I1, r, q⟩ => ⟨I1.kIn, runG F hG hr hb hd hx I1 r q⟩

/-- f(k = v, ..), keywords alone -/
theorem pe_callKw {ks : List Str} {kws : List Keyword} {tk : TA} {g : List Value → List Value → List Value} {gV : List V → List V → List V}
    (F : FnOk X.prog X.w X.K X.mg X.base CX k f fd ps sp) (hr : Room k X.A) (hg : Gl X x) (hm : X.mg x = some (.ref f))
    (hk : PySem.W.keepIn X.K (.ref f) = true) (hb : KBinds X.K fd ps ks g gV) (hx : Passes CX X E) (hkw : PK X kws tk)
    (hall : (backToKw pos (keywordEach kws X.env)).all (·.1.isSome) = true := by rfl)
    (hks : (backToKw pos (keywordEach kws X.env)).filterMap (·.1) = ks := by rfl)
    (hdb : (x == ("__debug__" : Str)) = false := by decide)
    (hpl : ((backTo pos (starEach [] X.env)).any (·.1) || (backToKw pos (keywordEach kws X.env)).any (·.1.isNone)) = false := by rfl) :
    PE X (.Call (.Name x p) [] kws pos) (tCallK sp gV E tNil tk) := by
  refine ⟨fun pins s σ H Q I h => wpAny_Call_Name_kw (ld_glob I hg hm ?_ hdb)⟩
  refine PySem.W.callWith_KW0 (h₀ := X.base) I.ok.mod.kin hk hall ?_ hpl
  refine thn (hkw.run pos pins s σ H _ I h) fun ws s2 ⟨zs, H2, I2, rz, q2⟩ => ⟨I2.kIn, ?_⟩
  rw [hks]
  exact run_fnk (us := []) F hr hb hx I2 .nil rz q2
/-- positional values, then those of keywords, in the order of the parameters -/
theorem kb_of {K : PySem.W.Frag} {y qual : Str} {st : Stmt} {f : Addr} {fd : FuncData} {ps ks : List Str} (F : Fun K y qual st f fd)
    (h : ∀ (kV doc pm : Value) (an : Option Addr) (cdv ct : Value) (us ws : List Value), (us ++ ws).length = ps.length →
      bindArgs (PySem.W.fnOf y qual (defArgs st) (defBody st) (defScope st) .none kV doc pm an cdv ct) ⟨us, ks.zip ws⟩ = pure (ps.zip (us ++ ws))) :
    KBinds K fd ps ks (· ++ ·) (· ++ ·) := by
  obtain ⟨oc, od, kV, doc, pm, an, cdv, ct, osl, rfl, lk, hcd⟩ := F.ex
  exact ⟨fun s us ws _ hl => .of_eq (h kV doc pm an cdv ct us ws hl), fun r z => r.append z⟩
end

/-! ### repr of data -/
inductive Sh (K : PySem.W.Frag) (H : Hp) : V → PyData → Prop
  | dp {v : V} {d : PyData} : Dp K H v d → d.hasDict = false → Sh K H v d
  | one {a : Addr} {k : Str} {i : Int} : H a = some (.dK [(.inr k, .int i)]) → Sh K H (.ref a) (.dict [(.str k, .int i)])
section
variable {X : Cx} {pins : List (Addr × Obj)} {σ : L2.St} {H : Hp} {s : Shared}
theorem Sh.reads (I : Inv X pins σ H s) {v : V} {d : PyData} {u : Value} (h : Sh X.K H v d) (r : RelV v u) :
    ∃ as, Reads s.heap u d as ∧ (d.hasDict = true → sysModules ∉ as) := by
  cases h with
  | dp h hd =>
    obtain ⟨as, q⟩ := Dp.reads I d v u h r
    exact ⟨as, q, PyData.noDict_hsm hd⟩
  | one h =>
    rename_i a k i
    cases r
    obtain ⟨_, hs, vs, rel, o, es, ep, ho, hx, hd, hko, hp, hn⟩ := I.hok a _ h
    cases rel with
    | cons r1 r2 =>
      cases r2
      rename_i kv
      obtain ⟨kk, uu⟩ := kv
      obtain ⟨e1, t, e2⟩ := r1
      cases e1
      cases e2
      generalize hes : es.toList = l at hp
      cases hp with
      | cons k1 k2 k3 =>
        cases k3
        rename_i e
        have k0 : keyIs (Sum.inr k) e.key = true := k1
        obtain ⟨_, _, z, _⟩ | ⟨y, t', z, e3⟩ := keyIs_shape k0
        · cases z
        · cases z
          refine ⟨_, Reads.dict (as := []) (bs := []) ho hx.1 hd ?_ ?_, fun _ z => ?_⟩
          · rw [hes, List.map_cons, List.map_nil, e3]
            exact ReadsAll.cons (Reads.str _ _) .nil
          · rw [hes, List.map_cons, List.map_nil, k2]
            exact ReadsAll.cons (Reads.int _ _) .nil
          · have z2 : sysModules = a := by simpa using z
            rw [z2] at hs
            simp at hs
theorem call_reprSh (hG : X.A.guards = some []) (hu : X.A.units + 64 < cLine) : CallR X (.builtin "repr")
    (fun xs H Q => ∃ x d, xs = [x] ∧ Sh X.K H x d ∧ d.showable = true ∧ d.depth ≤ 60 ∧ d.shown.length ≤ sizeLine ∧
      Q (.str d.shown) H) := by
  intro pins s σ H xs us Q I r h
  obtain ⟨x, d, rfl, hs, sh, dp, sz, q⟩ := h
  obtain ⟨u, rfl, ru⟩ := vals1 r
  obtain ⟨as, rd, hm⟩ := hs.reads I ru
  cases rd with
  | none => exact PySem.P.repr_of_none ⟨.str _, H, I.tok _, ⟨_, rfl⟩, q⟩
  | bool b => exact PySem.P.repr_of_bool ⟨.str _, H, I.tok _, ⟨_, rfl⟩, q⟩
  | int i t => exact PySem.P.repr_of_int (of_decide_eq_true sh) ⟨.str _, H, I.tok _, ⟨_, rfl⟩, q⟩
  | str y t => exact PySem.P.repr_of_str ⟨.str _, H, I.tok _, ⟨_, rfl⟩, q⟩ sz
  | list h1 h2 h3 h4 =>
    exact repr_of_reads' (.list h1 h2 h3 h4) sh hm hG (by omega) (fun _ _ e => e) (fun h' u tk hk => ⟨.str _, H, I.kept hk, ⟨_, rfl⟩, q⟩) sz
  | tuple h1 h2 h3 h4 =>
    exact repr_of_reads' (.tuple h1 h2 h3 h4) sh hm hG (by omega) (fun _ _ e => e) (fun h' u tk hk => ⟨.str _, H, I.kept hk, ⟨_, rfl⟩, q⟩) sz
  | dict h1 h2 h3 h4 h5 =>
    exact repr_of_reads' (.dict h1 h2 h3 h4 h5) sh hm hG (by omega) (fun _ _ e => e) (fun h' u tk hk => ⟨.str _, H, I.kept hk, ⟨_, rfl⟩, q⟩) sz
end

/-! ### text * number, list(text) -/
section
variable {X : Cx}
theorem rep_list (a : Array Nat) : ∀ (n : Nat) (acc : Array Nat),
    ((List.replicate n a).foldl (· ++ ·) acc).toList = acc.toList ++ (List.replicate n a.toList).flatten
  | 0, acc => by simp
  | n + 1, acc => by
    rw [List.replicate_succ, List.foldl_cons, rep_list a n, List.replicate_succ, List.flatten_cons, Array.toList_append, List.append_assoc]
theorem rep_len (a : Str) (n : Nat) : (Str.mk ((List.replicate n a.cps).foldl (· ++ ·) #[])).length = n * a.length := by
  show Array.size _ = n * a.cps.size
  rw [← Array.length_toList, rep_list]
  simp [List.sum_replicate_nat]
theorem op_mul_str : OpR X (binaryOp .Mult) (fun x y H Q => ∃ (a : Str) (n : Int), x = .str a ∧ y = .int n ∧ 2 ≤ n ∧ n ≤ 1000 ∧ 1 ≤ a.length ∧ a.length ≤ 1000 ∧
    Q (.str ⟨(List.replicate n.toNat a.cps).foldl (· ++ ·) #[]⟩) H) := by
  intro pins s σ H x y v u Q I rx ry h
  obtain ⟨a, n, rfl, rfl, h2, hn, h1, ha, q⟩ := h
  obtain ⟨t, rfl⟩ := rx
  obtain ⟨t', rfl⟩ := ry
  have hz : a.length * n.toNat ≤ 1000000 := Nat.le_trans (Nat.mul_le_mul ha (show n.toNat ≤ 1000 by omega)) (by decide)
  refine PySem.P.mul_str ?_ (fun _ _ => ?_) (fun _ _ => ?_) ?_
  · rw [decide_eq_false (by omega), decide_eq_false (by omega)]
    rfl
  · have h3 : (1000 : Int) ≤ (2 ^ 63 - 1) / n := by
      rw [Int.le_ediv_iff_mul_le (by omega)]
      omega
    omega
  · exact decide_eq_false (by rw [sizeLine_eq]; omega)
  · rw [if_neg (by omega), if_neg]
    · refine ⟨?_, .str _, H, I.tok _, ⟨_, rfl⟩, q⟩
      rw [rep_len, sizeLine_eq, Nat.mul_comm]
      omega
    · rw [Bool.or_eq_true, beq_iff_eq, beq_iff_eq]
      omega
theorem paired_of {α β : Type} {R : α → β → Prop} : ∀ {xs : List α} {ys : List β}, xs.length = ys.length →
    (∀ (j : Nat) x y, xs[j]? = some x → ys[j]? = some y → R x y) → Paired R xs ys
  | [], [], _, _ => .nil
  | [], _ :: _, h, _ => by cases h
  | _ :: _, [], h, _ => by cases h
  | x :: xs, y :: ys, h, f => .cons (f 0 x y rfl rfl) (paired_of (Nat.succ.inj h) fun j a b h1 h2 => f (j + 1) a b h1 h2)
theorem call_list_txt (hc : X.calm = true) : CallR X (.type "list") (fun xs H Q => ∃ (a : Str), xs = [.str a] ∧ a.length ≤ sizeLine ∧
    ∀ l, H l = none → Q (.ref l) (upd H l (.lst (a.cps.toList.map fun c => V.str ⟨#[c]⟩)))) := by
  intro pins s σ H xs us Q I r h
  obtain ⟨a, rfl, hl, q⟩ := h
  obtain ⟨u, rfl, t, rfl⟩ := vals1 r
  refine call_list_str (I.ok.hd hc) a t (hn := hl) fun h' tk acc c hk ho hit => ?_
  have hn : H s.heap.objs.size = none := I.hok.fresh (Nat.le_refl _)
  refine ⟨.ref s.heap.objs.size, _, I.laid (t' := tk) hk (Nat.le_refl _) ?_, rfl, q _ hn⟩
  refine ⟨?_, acc.toList, c, ?_, by simpa using ho⟩
  · rw [List.length_map, Array.length_toList]
    exact hl
  · refine paired_of (by rw [List.length_map, Array.length_toList, Array.length_toList, hit.1]) fun j v u h1 h2 => ?_
    rw [List.getElem?_map, Array.getElem?_toList] at h1
    obtain ⟨d, t', h3, rfl⟩ := hit.2 j u (by rw [← Array.getElem?_toList]; exact h2)
    rw [h3] at h1
    cases h1
    exact ⟨t', rfl⟩
end

/-! ### the end of a law whose def wants that no repr is under way -/
theorem end_call {P : Program} {w : World} {K : PySem.W.Frag} {mg mb : Str → Option Value} {CX : CXT} {k : Nat} {fa a : Addr}
    {fd : FuncData} {x : Str} {sp : Sp} {s₁ : Shared} {vs : List Value} {ns : List Int}
    (KX : K.In s₁.heap) (hns : s₁.heap.Ns mainGlobals mg) (hb : s₁.heap.Ns builtinsNs mb)
    (hbb : ∀ x : Str, x ≠ "__name__" → mb x = bootBuiltins x) (hlim : s₁.heap.NoLimit) (hg : s₁.gens = #[])
    (ha : s₁.heap.get? a = some { cls := .type "list", data := .seq vs.toArray }) (hi : IntsAre vs ns)
    (hl : ns.length ≤ sizeLine) (hr : Room k callerA)
    (F : ∀ base : Heap, K.In base → base.Ns mainGlobals mg → FnG P w K mg base CX k fa fd [x] sp)
    (hbind : ∀ (s : Shared) (u : Value), BindsTo s fd ⟨[u], []⟩ [(x, u)])
    (hsp : ∀ H : Hp, Only H → SqL K H a (ns.map V.int) → sp [.ref a] H (fun v _ => v = .bl true) fun _ _ _ => False)
    (hCX : ∀ H e s', CX [] H s₁ (fun _ _ _ => False) e s' → False) :
    codeAny (model P w) callerA (.call (.ref fa) ⟨[.ref a], []⟩)
      (fun r s' => r = .ok (.ret (.bool true)) ∧ OldK s₁.heap s'.heap ∧ s'.os = s₁.os ∧ AllBare s'.gens) s₁ := by
  have lenV := hi.length
  have start : ∀ H : Hp, Only H → SqL K H a (ns.map V.int) → HOk P w H s₁.heap → (∀ b, H b ≠ none → b = a) →
      (H a ≠ none → K.lookup a = none) → codeAny (model P w) callerA (.call (.ref fa) ⟨[.ref a], []⟩)
        (fun r s' => r = .ok (.ret (.bool true)) ∧ OldK s₁.heap s'.heap ∧ s'.os = s₁.os ∧ AllBare s'.gens) s₁ := by
    intro H hO hS hok hA hK
    have free : ∀ {b : Addr}, (b = a → False) → H b = none := fun {b} hne => by
      cases q : H b with
      | none => rfl
      | some u => exact (hne (hA b (by rw [q]; exact Option.some_ne_none u))).elim
    have nsK : ∀ {b : Addr} {m : Str → Option Value}, s₁.heap.Ns b m → (hidT s₁.heap H).Ns b m := by
      rintro b m ⟨o, es, ep, e, d, r⟩
      refine ⟨o, es, ep, hidT_get e (free fun z => ?_), d, r⟩
      subst z
      rw [ha] at e
      cases e
      cases d
    have inK : K.In (hidT s₁.heap H) := fun b o e => hidT_get (KX b o e) (by
      cases q : H b with
      | none => rfl
      | some u =>
        obtain rfl : b = a := hA b (by rw [q]; exact Option.some_ne_none u)
        have z := hK (by rw [q]; exact Option.some_ne_none u)
        rw [z] at e
        cases e)
    have hM : Mod K mg (hidT s₁.heap H) := ⟨inK, nsK hns, ⟨mb, nsK hb, hbb⟩, hlim.imp fun _ z => ⟨nsK z.1, z.2⟩⟩
    have e0 : Env0 P w K mg (hidT s₁.heap H) callerA [] s₁ H :=
      ⟨rfl, hM, fun b o e => of_hidT e, Nat.le_of_eq (hidT_size _ _), trivial,
        fun b z => absurd (show b ∈ ([] : List Addr) from z) List.not_mem_nil, hok, .of_eq hg⟩
    refine codeAny_mono ((F _ inK (nsK hns)).go (us := [.ref a]) (vs := [.ref a]) rfl hr e0 (hbind s₁ (.ref a)) (.cons rfl .nil) (hsp H hO hS)) fun r s' h => ?_
    match r, h with
    | .error e, h => exact (hCX H e s' h).elim
    | .ok .next, h => exact h.elim
    | .ok .brk, h => exact h.elim
    | .ok .cont, h => exact h.elim
    | .ok (.ret u), h =>
      obtain ⟨v, H', os, bare, un, hok', r', rfl⟩ := h
      obtain rfl : u = Value.bool true := r'
      refine ⟨rfl, OldK.of_keep fun b o e => ?_, os, bare⟩
      rcases hO b with z | ⟨ob, xs, z⟩
      · exact un.keep b o e z (fun y => absurd (show b ∈ ([] : List Addr) from y) List.not_mem_nil) List.not_mem_nil
      · have z1 := (hok b _ z).1
        rw [e] at z1
        cases z1
        exact (hok' b _ (un.frzs b _ _ z)).1
  cases hk : K.lookup a with
  | some o =>
    have e := KX a o hk
    rw [ha] at e
    cases e
    refine start (fun _ => none) (fun _ => .inl rfl) (.inr ⟨_, vs.toArray, _, hk, rfl, rfl, rfl, ?_, by simpa using vals_ints hi⟩)
      (fun b u z => nomatch z) (fun b z => absurd rfl z) fun z => absurd rfl z
    rw [List.size_toArray, lenV]
    exact hl
  | none =>
    refine start (upd (fun _ => none) a (.frz { cls := .type "list", data := .seq vs.toArray } (.lst (ns.map V.int))))
      (fun b => ?_) (.inl (.inr ⟨_, upd_same⟩)) (fun b u z => ?_) (fun b z => ?_) fun _ => hk
    · by_cases q : b = a
      · exact .inr ⟨_, _, by rw [q]; exact upd_same⟩
      · exact .inl (upd_ne q)
    · by_cases q : b = a
      · subst q
        rw [upd_same] at z
        cases z
        exact ⟨ha, by rw [List.length_map]; exact hl, vs, _, vals_ints hi, ha⟩
      · rw [upd_ne q] at z
        cases z
    · by_cases q : b = a
      · exact q
      · exact absurd (upd_ne q) z

theorem end_of {l : PySem.W.OpenLaw} {n k : Nat} {q : Program} {loose : List Str} {XP : (Str → Option Value) → Heap → Prop}
    {YP : World → Heap → Prop} {d : DefRec} {K : Params → PySem.W.Frag} {CX : World → CXT} {sp : World → Sp} {x : Str}
    (hn : l.most = some n) (hn2 : n ≤ sizeLine) (hdf : d.params.defaults = []) (hr : Room k callerA)
    (hY : ∀ (w : World) (h : Heap), YP w h → (K w.params).In h)
    (F : ∀ (w : World) (mg : Str → Option Value) (fa : Addr) (h : Heap), (K w.params).In h → h.Ns mainGlobals mg →
      mg d.name = some (.ref fa) → ∃ fd : FuncData, (∀ (s : Shared) (u : Value), BindsTo s fd ⟨[u], []⟩ [(x, u)]) ∧
        ∀ base : Heap, (K w.params).In base → base.Ns mainGlobals mg →
          FnG l.prog w (K w.params) mg base (CX w) k fa fd [x] (sp w))
    (hsp : ∀ (w : World) (H : Hp) (a : Addr) (ns : List Int), ns.length ≤ n →
      (∀ z ∈ ns, Builtin.Int.intBits z ≤ 1048576) → Only H → SqL (K w.params) H a (ns.map V.int) →
      sp w [.ref a] H (fun v _ => v = .bl true) fun _ _ _ => False)
    (hCX : ∀ (w : World) (H : Hp) (s : Shared) (e : Value) (s' : Shared), CX w [] H s (fun _ _ _ => False) e s' → False) :
    PySem.W.WalkO q loose XP YP l.row.toRowW d [] (fun f vs => PySem.call f vs) :=
  Att.attach_callB hn hdf fun w _ s₁ mg mb fa o pm cd doc a vs ns G Y ho hd hcd hmg hobj hints hlen hbits hg => by
    obtain ⟨fd, hb, hF⟩ := F w mg fa _ (hY w _ Y) G.T.g hmg
    exact end_call (hY w _ Y) G.T.g G.T.b G.T.builtins G.T.nolimit hg hobj hints (Nat.le_trans hlen hn2) hr hF hb
      (fun H hO hS => hsp w H a ns hlen hbits hO hS) fun H e s' => hCX w H s₁ e s'
end LT

set_option Elab.async false
set_option linter.all false
set_option maxRecDepth 100000
/-! Own layer: a def to which the caught error is handed; isinstance of it there. -/
namespace LT
open PySem PySem.Spec PyProof.Rows L2
/-- as FnOk, called within an except suite; p is the caught error, which the promise may name -/
structure FnE (P : Program) (w : World) (K : PySem.W.Frag) (mg : Str → Option Value) (base : Heap)
    (k : Nat) (f : Addr) (fd : FuncData) (ps : List Str) (sp : Addr × Obj → Sp) : Prop where
  argc : ∀ {p : Addr × Obj} {vs : List V} {H : Hp} {Q : VK} {E : XK}, sp p vs H Q E → vs.length = ps.length
  go : ∀ {A : Around} {outer : List Env} {s : Shared} {H : Hp} {args : Args} {us : List Value} {vs : List V}
    {Q : VK} {E : XK} {p : Addr × Obj}, L2H.RoomH k A → L2H.PinOk outer H s p → Env0 P w K mg base A outer s H →
    BindsTo s fd args (ps.zip us) → Vals vs us → sp p vs H Q E →
    codeAny (model P w) A (.call (.ref f) args) (CR CX0 outer P w H s Q E) s
section
variable {P : Program} {w : World} {K : PySem.W.Frag} {mg : Str → Option Value} {base : Heap}
theorem okE {x qual : Str} {st : Stmt} {f : Addr} {fd : FuncData} {N ps : List Str} {k : Nat} {sp : Addr × Obj → Sp}
    (F : Fun K x qual st f fd) (S : FnScope N ps (defScope st))
    (argc : ∀ {p : Addr × Obj} {vs : List V} {H : Hp} {Q : VK} {E : XK}, sp p vs H Q E → vs.length = ps.length)
    (body : ∀ (cdv : Value) (A : Around) (outer : List Env) (s : Shared) (H : Hp) (vs : List V) (Q : VK) (E : XK) (p : Addr × Obj),
      L2H.RoomH k (A.deeper (envOfC qual (defScope st) s.heap.objs.size f cdv)) → sp p vs H Q E →
      ∃ t, PSs (L2H.cxH CX0 P w K mg base N qual (defScope st) f cdv A outer s H E p).nox (defBody st) t ∧
        t { nx := fun _ H' => Q .non H', rt := Q } (start N vs) H) :
    FnE P w K mg base (k + 1) f fd ps sp := by
  obtain ⟨oc, od, kV, doc, pm, an, cdv, ct, osl, rfl, lk, hcd⟩ := F.ex
  refine ⟨argc, ?_⟩
  intro A outer s H args us vs Q E p hr hpin e0 hb r hsp
  have inS : ∀ b o, base.get? b = some o → s.heap.get? b = some o := fun b o e => (e0.bs b o e).1
  have KX : K.In s.heap := e0.mod.kin.keeps inS
  have hkind : ∀ y ∈ ps.zip us, (defScope st).names.lookup y.1 = some .local ∨
      ((defScope st).names.lookup y.1 = some .cell ∧
        ((cellsFrom (s.heap.objs.size + 1) (defScope st).names []).lookup y.1).isSome = true) := by
    rintro ⟨n, v⟩ hy
    rcases S.par n (List.of_mem_zip hy).1 with q | q
    · exact Or.inl q
    · exact Or.inr ⟨q, PySem.W.cellsFrom_some _ _ _ (Or.inl q)⟩
  refine codeAny_call_function hr.depth (KX _ _ lk) rfl S.co S.gen rfl (PySem.W.codeRec_of KX hcd)
    (hb _ _ _ _ (wpAny_newFunctionEnv_cells S.kind hkind fun env he s1 x => ?_))
  subst he
  refine ⟨(e0.mod.nolimit.keeps inS).keeps x.toInCall.keep, codeAny_func ?_⟩
  obtain ⟨t, ht, hq⟩ := body cdv A outer s H vs Q E p (hr.deeper _) hsp
  have I := L2H.inv_startH (CX := CX0) (N := N) (qual := qual) (f := f) (cd := cdv) (E := E) S hpin e0 (argc hsp) r x
  refine wpAny_mono (ht.nox.run [] s1 (start N vs) H _ I hq) (fun fl s' hs => ?_) (fun e s' hs => hs)
  cases fl with
  | brk => obtain ⟨_, _, _, q⟩ := hs; exact q.elim
  | cont => obtain ⟨_, _, _, q⟩ := hs; exact q.elim
  | next =>
    obtain ⟨σ', H', J, q⟩ := hs
    exact ⟨V.non, H', J.os, J.bare, J.base, J.hok, rfl, q⟩
  | ret u =>
    obtain ⟨v, σ', H', J, rv, q⟩ := hs
    exact ⟨v, H', J.os, J.bare, J.base, J.hok, rv, q⟩
end
section
variable {X : Cx} {k : Nat} {f : Addr} {fd : FuncData} {ps : List Str} {sp : Addr × Obj → Sp} {x : Str} {q pos : Pos} {e : Expr}
  {es : List Expr} {t : TA} {p : Addr × Obj}
/-- the call of such a def, where p is pinned -/
def tCallE (p : Addr × Obj) (sp : Addr × Obj → Sp) (t : TA) : TE := fun σ H Q => t σ H fun vs H1 => sp p vs H1 Q E0
theorem pe_callE (F : FnE X.prog X.w X.K X.mg X.base k f fd ps sp) (hr : L2H.RoomH k X.A) (hp : p ∈ X.pn) (hg : Gl X x)
    (hm : X.mg x = some (.ref f)) (hk : PySem.W.keepIn X.K (.ref f) = true) (hb : L2.Binds X.K fd ps []) (ha : PA X (e :: es) t)
    (hdb : (x == ("__debug__" : Str)) = false := by decide)
    (he : starEach (e :: es) X.env = (false, eval e X.env) :: starEach es X.env := by rfl)
    (hpl : (backTo pos (starEach es X.env)).any (·.1) = false := by rfl) :
    PE X (.Call (.Name x q) (e :: es) [] pos) (tCallE p sp t) := by
  refine ⟨fun pins s σ H Q I h => wpAny_Call_Name_kw (ld_glob I hg hm ?_ hdb)⟩
  refine PySem.W.callWith_K (h₀ := X.base) I.ok.mod.kin hk ?_ he hpl
  refine thn (ha.run pos pins s σ H _ I h) fun us s1 ⟨vs, H1, I1, r, h1⟩ => ⟨I1.kIn, ?_⟩
  have hl : (us ++ []).length = ps.length := by
    rw [List.append_nil, ← r.length]
    exact F.argc h1
  have b := hb s1 us I1.kIn hl
  rw [List.append_nil] at b
  obtain ⟨p1, p2, p3, p4, p5⟩ := I1.pin p (List.mem_append_left _ hp)
  have pin : L2H.PinOk X.stack H1 s1 p := ⟨p1, p2, fun z => (List.mem_cons.mp (I1.stkSub p.1 z)).elim p3 p4, p5⟩
  refine wpAny_call (codeAny_mono (F.go hr pin I1.env0 b r h1) fun r s' hq => ?_)
  match r, hq with
  | .error _, hq => exact hq.elim
  | .ok (.ret u), hq => exact I1.after hq
  | .ok .next, hq => exact hq.elim
  | .ok .brk, hq => exact hq.elim
  | .ok .cont, hq => exact hq.elim
end
section
variable {X : Cx} {k : Nat} {f a : Addr} {oe : Obj} {cls : Value} {d : Option Addr} {fd : FuncData} {ps : List Str} {sp : Addr × Obj → Sp} {x : Str} {q pos : Pos} {e : Expr}
  {es : List Expr} {t : TA} {pn : List (Addr × Obj)}
/-- .. in an except suite; its reading names the error by its class and dict alone -/
def tCallZ (a : Addr) (cls : Value) (d : Option Addr) (sp : Addr × Obj → Sp) (t : TA) : TE := fun σ H Q => t σ H fun vs H1 =>
  ∀ oe : Obj, Zc cls d oe → (∃ vs, oe.data = .fields vs) → sp (a, oe) vs H1 Q E0
theorem pe_callZ (F : FnE X.prog X.w X.K X.mg X.base k f fd ps sp) (hr : Room k X.A) (hz : Zc cls d oe) (hf : ∃ vs, oe.data = .fields vs) (hg : Gl X x)
    (hm : X.mg x = some (.ref f)) (hk : PySem.W.keepIn X.K (.ref f) = true) (hb : L2.Binds X.K fd ps []) (ha : PA (X.suite a ((a, oe) :: pn)) (e :: es) t)
    (hdb : (x == ("__debug__" : Str)) = false := by decide)
    (he : starEach (e :: es) X.env = (false, eval e X.env) :: starEach es X.env := by rfl)
    (hpl : (backTo pos (starEach es X.env)).any (·.1) = false := by rfl) :
    PE (X.suite a ((a, oe) :: pn)) (.Call (.Name x q) (e :: es) [] pos) (tCallZ a cls d sp t) := by
  refine ⟨fun pins s σ H Q I h => ?_⟩
  have h2 : t σ H fun vs H1 => (fun vs H1 => ∀ oe : Obj, Zc cls d oe → (∃ vs, oe.data = .fields vs) → sp (a, oe) vs H1 Q E0) vs H1 := h
  refine (wpAny_Call_Name_kw (ld_glob (X := X.suite a ((a, oe) :: pn)) I hg hm ?_ hdb))
  refine PySem.W.callWith_K (h₀ := X.base) I.ok.mod.kin hk ?_ he hpl
  refine thn (ha.run pos pins s σ H _ I h2) fun us s1 ⟨vs, H1, I1, r, h1⟩ => ⟨I1.kIn, ?_⟩
  have h1 := h1 oe hz hf
  have hl : (us ++ []).length = ps.length := by
    rw [List.append_nil, ← r.length]
    exact F.argc h1
  have b := hb s1 us I1.kIn hl
  rw [List.append_nil] at b
  obtain ⟨p1, p2, p3, p4, p5⟩ := I1.pin (a, oe) (List.mem_append_left _ List.mem_cons_self)
  have pin : L2H.PinOk X.stack H1 s1 (a, oe) := ⟨p1, p2, fun z => (List.mem_cons.mp (I1.stkSub a z)).elim p3 p4, p5⟩
  refine wpAny_call (codeAny_mono (F.go (A := X.A.mark (some (.ref a))) ⟨hr.dp, hr.un⟩ pin I1.env0 b r h1) fun r s' hq => ?_)
  match r, hq with
  | .error _, hq => exact hq.elim
  | .ok (.ret u), hq => exact I1.after hq
  | .ok .next, hq => exact hq.elim
  | .ok .brk, hq => exact hq.elim
  | .ok .cont, hq => exact hq.elim
end
/-! ### isinstance of the pinned error -/
section
variable {X : Cx} {a D : Addr} {oe : Obj}
theorem pinned_at {pins : List (Addr × Obj)} {σ : L2.St} {H : Hp} {s : Shared} (I : Inv X pins σ H s) (hp : (a, oe) ∈ X.pn) (hz : Zc (.ref D) none oe)
    (hf : ∃ vs, oe.data = .fields vs) : PySem.W.InstAt s.heap a oe D none := by
  obtain ⟨hget, _⟩ := I.pin (a, oe) (List.mem_append_left _ hp)
  obtain ⟨vs, hv⟩ := hf
  obtain ⟨oc, od, oda, osl⟩ := oe
  obtain ⟨h1, h2⟩ := hz
  dsimp only at h1 h2 hv
  subst h1 h2 hv
  exact ⟨hget, rfl, rfl, trivial⟩
theorem call_isP (hp : (a, oe) ∈ X.pn) (C : ExcC X.K D) (hz : Zc (.ref D) none oe) (hf : ∃ vs, oe.data = .fields vs) :
    CallR X (.builtin "isinstance") (fun xs H Q => ∃ (c : V) (cv : Value) (b : Bool), xs = [.ref a, c] ∧ ClsV c cv ∧ PySem.W.kitOne X.K (.ref D) cv = some b ∧ Q (.bl b) H) := by
  intro pins s σ H xs us Q I r h
  obtain ⟨c, cv, b, rfl, hc, e, q⟩ := h
  obtain ⟨u1, u2, rfl, r1, r2⟩ := vals2 r
  have e2 := hc.eq r2
  subst e2
  cases r1
  exact PySem.W.kia_one (PySem.W.handS_kitx_exc C.hg C.hk C.hs C.hd C.ha C.hn C.ht C.hm) I.kIn (pinned_at I hp hz hf) e (fun z => nomatch z)
    fun tk => ⟨.bl b, H, I.tok tk, rfl, q⟩
theorem call_isPT (hp : (a, oe) ∈ X.pn) (C : ExcC X.K D) (hz : Zc (.ref D) none oe) (hf : ∃ vs, oe.data = .fields vs) :
    CallR X (.builtin "isinstance") (fun xs H Q => ∃ (tp : Addr) (cs : List V) (us : List Value) (b : Bool), xs = [.ref a, .ref tp] ∧ H tp = some (.tup cs) ∧ Paired ClsV cs us ∧
      PySem.W.kitAny X.K (.ref D) us = some b ∧ Q (.bl b) H) := by
  intro pins s σ H xs us Q I r h
  obtain ⟨tp, cs, ws, b, rfl, hT, k, e, q⟩ := h
  obtain ⟨u1, u2, rfl, r1, r2⟩ := vals2 r
  cases r1
  cases (show u2 = Value.ref tp from r2)
  obtain ⟨_, its, rv, o, h1, h2, n, h3⟩ := (show ObjOk X.prog X.w H s.heap tp (.tup cs) from I.hok tp _ hT)
  have e3 := ClsV.all k rv
  subst e3
  obtain ⟨oc, od, dt, sl⟩ := o
  simp only at h2 h3
  subst h2 h3
  exact PySem.W.kia_tup (PySem.W.handS_kitx_exc C.hg C.hk C.hs C.hd C.ha C.hn C.ht C.hm) I.kIn (pinned_at I hp hz hf) h1 e (fun z => nomatch z)
    fun tk => ⟨.bl b, H, I.tok tk, rfl, q⟩
end
end LT

set_option Elab.async false
set_option linter.all false
set_option maxRecDepth 100000
set_option maxHeartbeats 1600000
/-! an own error whose __init__ begins with super().__init__(..): the def by its body -/
namespace LT
open PySem PySem.Spec PyProof.Rows L2 NdefX
/-- what the written part says of it -/
structure SupC (K : PySem.W.Frag) (prog : Program) (mg : Str → Option Value) (C cc : Addr) (F : NF) (ar : Arg) : Prop where
  oex : OexC K C
  cl : F.cl = [(("__class__" : Str), cc)]
  cell : ∃ a b c, K.lookup cc = some ⟨a, b, .cell (some (.ref C)), c⟩
  file : ∃ (a : Value) (b : Option Addr) (vs : Array Value) (c : Array (Option Value)) (fl : Str) (tf : Tok), K.lookup F.c = some ⟨a, b, .fields vs, c⟩ ∧ vs[2]? = some (.str fl tf) ∧ ((prog.main.file : Str) == fl) = true
  hsub : PySem.W.mroIn K C (.ref C) = some true
  sup : PySem.W.ks_superIn K C C "__init__" = some (some (.builtin "ValueError.__init__"))
  sB : PySem.W.subIn K (.ref C) (.type "ValueError") = some true
  op : PySem.W.nsIn K cStatics "thirdparty.any" = some none
  hp : (F.params.posonlyargs ++ F.params.args).head? = some ar
  cd : PySem.W.codeIn K (.ref F.c) F.qual = true
  ks : F.scope.names.lookup ("super" : Str) = some .globalImplicit
  top : (prog.main.scope.names.lookup ("super" : Str)).isSome = false
  ms : mg "super" = none
section
variable {X : Cx} {pins : List (Addr × Obj)} {σ : L2.St} {H : Hp} {s : Shared} {a C u : Addr} {E : Value → Shared → Prop} {A : Around}
/-- the bound ValueError.__init__ called -/
theorem mw_ok {us : List Value} {Q : Value → Shared → Prop} (T : OexC X.K C) (I : Inv X pins σ H s) (e : H a = some (exo a C none)) (hu : s.heap.get? u = some (PySem.W.kxs_mw "ValueError.__init__" a)) (hl : us.length ≤ sizeLine) (h : ∀ s', Inv X pins σ H s' → Q .none s') :
    wpAny (model X.prog X.w) A (call (.ref u) us) Q E s := by
  obtain ⟨nm, q, N, bs, bm, sn, sub, ab, col, dd, k0, k1, k2, k3, k5, hC, hbm⟩ := T.cls
  obtain ⟨t1, ho⟩ := exo_at I.hok e
  have hCh := I.kIn _ _ hC
  have fin : ∀ h', (∀ b o, b ≠ a → s.heap.get? b = some o → h'.get? b = some o) → h'.get? a = some (PySem.W.excObj C s.heap.objs.size none .none) → Q .none { s with heap := h' } := fun h' k hx => by
    have J := I.write (t' := s.toks) (x := a) (e := a) (o := exo a C none) (by rw [e]; exact True.intro) (.inl rfl) k ⟨_, hx⟩ (exo_ok hx)
    have eu : upd H a (exo a C none) = H := by
      funext b
      by_cases hb : b = a
      · rw [hb, upd_same, e]
      · rw [upd_ne hb]
    rw [eu] at J
    exact h _ J
  obtain ⟨hh, g, d, tk, os⟩ := s
  refine wpAny_call (codeAny_of_tree ?_)
  show wpAny _ A.in1 (callAny (.ref u) ⟨us, []⟩) _ _ _
  simp only [callAny]
  refine wpAny_bind (wpAny_load hu ?_)
  simp only [PySem.W.kxs_mw, show (Value.type "method-wrapper" == Value.type "method" || Value.type "method-wrapper" == Value.type "builtin_function_or_method" || Value.type "method-wrapper" == Value.type "method-wrapper") = true by decide, if_true]
  refine PySem.W.KFB.if_so (by decide) ?_
  refine wpAny_bind (PySem.W.check_bound_init F.excBase_ValueError.toExcCallFacts hCh ho rfl ?_)
  refine wpAny_bind (wpAny_pure (wpAny_pure ?_))
  refine ⟨plainId_quiet F.excBase_ValueError.init.plain _, codeAny_builtin F.excBase_ValueError.initEntry ?_⟩
  exact PySem.W.exc_init_tree (cls := .ref C) (t0 := t1) (dv := none) (c2 := .none) (c3 := .none) (b4 := .bool false) ho hl fun h' k hx _ => fin h' k hx
end
section
variable {CX : CXT} {P : Program} {w : World} {K : PySem.W.Frag} {mg : Str → Option Value} {base : Heap} {N ps pr : List Str} {F : NF} {f : Addr} {fd : FuncData} {C cc : Addr} {ar : Arg} {k : Nat} {sp : Sp}
/-- THE RULE -/
theorem sup_of {e : Expr} {es : List Expr} {rest : List Stmt} {p0 p1 p2 pos pos' : Pos} {pl : Env → Sem Bool} (D : SupC K P mg C cc F ar)
    (lk : ∃ (oc : Value) (od : Option Addr) (dV kV doc pm : Value) (an : Option Addr) (ct : Value) (osl : Array (Option Value)), fd = PySem.W.fnX F.name F.qual F.params F.body F.scope F.cl dV kV doc pm an (.ref F.c) ct ∧ K.lookup f = some ⟨oc, od, .func fd, osl⟩)
    (S : NScope N ps ["__class__"] F.scope) (hps : ps = ar.arg :: pr) (hB : F.body = .Expr (.Call (.Attribute (.Call (.Name "super" p0) [] [] p1) "__init__" p2) (e :: es) [] pos) pos' :: rest)
    (len : ∀ vs H Q E, sp vs H Q E → vs.length = ps.length)
    (hc : ∀ env, eval (.Call (.Attribute (.Call (.Name "super" p0) [] [] p1) "__init__" p2) (e :: es) [] pos) env = (do
      let ov ← attributeBase (.Call (.Name "super" p0) [] [] p1) "__init__" env (eval (.Call (.Name "super" p0) [] [] p1) env)
      standAt p2.atName
      let (f, first) ← holding [ov] (getMethod ov "__init__" (pl env))
      callWith pos f first (backTo pos (starEach (e :: es) env)) []))
    (he : ∀ env, starEach (e :: es) env = (false, eval e env) :: starEach es env) (hpl : ∀ env, (backTo pos (starEach es env)).any (·.1) = false)
    (hi : ∀ env : Env, env.scope = F.scope → interactive env = false) (hs : ∀ env, swapsWith (.Call (.Attribute (.Call (.Name "super" p0) [] [] p1) "__init__" p2) (e :: es) [] pos) none pos'.line env = pure false)
    (hbody : ∀ (A : Around) (outer : List Env) (s : Shared) (H : Hp) (vs : List V) (Q : VK) (E : XK), Room k (A.deeper (envF F f s.heap.objs.size)) → sp vs H Q E →
      ∃ (a : Addr) (vr : List V) (ta : TA) (t : TS), vs = .ref a :: vr ∧ H a = some (exo a C none) ∧ PA (ncx CX P w K mg base N F f A outer s H E) (e :: es) ta ∧ PSs (ncx CX P w K mg base N F f A outer s H E) rest t ∧
        ta (startF N vs [some (.ref C)]) H (fun ws H1 => ws.length ≤ 1000 ∧ H1 a = some (exo a C none) ∧ t { nx := fun _ H' => Q .non H', rt := Q } (startF N vs [some (.ref C)]) H1)) :
    FnOk P w K mg base CX (k + 1) f fd ps sp := by
  obtain ⟨oc, od, dV, kV, doc, pm, an, ct, osl, rfl, lk⟩ := lk
  refine ⟨len, fun A outer s H args us vs Q E hr e0 hb r hsp => ?_⟩
  have KB : K.In base := e0.mod.kin
  have KX : K.In s.heap := e0.mod.kin.keeps fun b o e => (e0.bs b o e).1
  have hl := len _ _ _ _ hsp
  have lim : s.heap.NoLimit := e0.mod.nolimit.keeps fun b o e => (e0.bs b o e).1
  obtain ⟨c1, c2, c3, hcell⟩ := D.cell
  obtain ⟨f1, f2, fvs, f3, fl, tf, hfc, hfv, hfl⟩ := D.file
  refine codeAny_call_function hr.depth (KX _ _ lk) rfl S.co S.gen rfl (PySem.W.codeRec_of KX D.cd) (hb _ _ _ _ ?_)
  refine wpAny_newFunctionEnv S.nocell (fun ⟨n, _⟩ hy => S.par n (List.of_mem_zip hy).1) (fun h₁ hns hsb => ⟨lim.fresh _ hsb, ?_⟩) S.kind
  show codeAny _ _ (.func F.body (envF F f s.heap.objs.size)) _ _
  have kp : ∀ b o, s.heap.get? b = some o → h₁.get? b = some o := fun b o e => hsb.extBut b o (Nat.ne_of_lt (Heap.lt_size e)) (Heap.get?_push_of_some _ e)
  obtain ⟨a, vr, ta, t, rfl, ha, hA, hT, hq⟩ := hbody A outer s H vs Q E (hr.deeper _) hsp
  have CA : CellsAt F.cl ["__class__"] [some (.ref C)] s.heap H := by
    rw [D.cl]
    refine ⟨rfl, fun y c e => ?_, fun x y c h1 h2 => ?_, fun i y hi => ?_⟩
    · have e' : c = cc := by
        simp only [List.lookup] at e
        split at e
        · exact (Option.some.inj e).symm
        · cases e
      subst e'
      exact ⟨(e0.bs _ _ (KB _ _ hcell)).2, _, _, KX _ _ hcell, rfl⟩
    · have one : ∀ {z : Str} {c : Addr}, ([(("__class__" : Str), cc)] : List (Str × Addr)).lookup z = some c → z = "__class__" := fun {z c} e => by
        simp only [List.lookup] at e
        split at e
        · rename_i h
          exact eq_of_beq h
        · cases e
      rw [one h1, one h2]
    · cases i with
      | zero =>
        cases hi
        exact ⟨cc, by simp [List.lookup], fun v hv => by cases hv; exact ⟨.ref C, rfl, _, KX _ _ hcell, rfl⟩⟩
      | succ i => cases hi
  have I : Inv (ncx CX P w K mg base N F f A outer s H E) [] (startF N (.ref a :: vr) [some (.ref C)]) H { s with heap := h₁, toks := s.toks + (ps.zip us).length } := inv_startN S hr.hd e0 hl r CA hns kp
  refine PySem.ks_codeAny_funcAt ?_
  have fin : ∀ {σ' : L2.St} {H' : Hp} {v : V} {u : Value} {s' : Shared}, Inv (ncx CX P w K mg base N F f A outer s H E) [] σ' H' s' → L2.RelV v u → Q v H' → CE outer P w H s Q u s' :=
    fun {σ' H' v u s'} J rv q => ⟨v, H', J.os, J.bare, J.base, J.hok, rv, q⟩
  -- the rest of the body
  have last : ∀ {H1 : Hp} {s1 : Shared}, Inv (ncx CX P w K mg base N F f A outer s H E) [] (startF N (.ref a :: vr) [some (.ref C)]) H1 s1 → t { nx := fun _ H' => Q .non H', rt := Q } (startF N (.ref a :: vr) [some (.ref C)]) H1 →
      PySem.wpAt (model P w) (A.deeper (envF F f s.heap.objs.size)) (.func F.body (envF F f s.heap.objs.size)) (execs rest (envF F f s.heap.objs.size)) (fun fl s' => CR CX outer P w H s Q E (.ok (.ret (match fl with | .ret v => v | _ => .none))) s')
        (fun e s' => wpAny (model P w) (A.deeper (envF F f s.heap.objs.size)) (leaving (envF F f s.heap.objs.size) e) (fun _ s'' => CR CX outer P w H s Q E (.error e) s'') (fun e' s'' => CR CX outer P w H s Q E (.error e') s'') s') s1 := by
    intro H1 s1 J q
    refine PySem.wpAt_of_wpAny (wpAny_mono (hT.run [] s1 _ H1 _ J q) (fun fl s' hs => ?_) fun e s' hs => hs)
    cases fl with
    | ret u =>
      obtain ⟨v, σ', H', J, rv, q⟩ := hs
      exact fin J rv q
    | next =>
      obtain ⟨σ', H', J, q⟩ := hs
      exact fin (v := V.non) (u := Value.none) J rfl q
    | brk =>
      obtain ⟨_, _, _, q⟩ := hs
      exact False.elim q
    | cont =>
      obtain ⟨_, _, _, q⟩ := hs
      exact False.elim q
  rw [hB]
  rw [hB] at last
  obtain ⟨nm, qn, Nn, bs, bm, sn, sub, ab, col, dd, k0, k1, k2, k3, k5, hCk, hbm⟩ := D.oex.cls
  obtain ⟨t1, hx⟩ := exo_at I.hok ha
  obtain ⟨cd, hcl, hal⟩ : ∃ cd, PySem.W.clsIn K C = some cd ∧ PySem.W.alongIn K "__init__" ((cd.mro.dropWhile (· != .ref C)).drop 1) = some (some (.builtin "ValueError.__init__")) := by
    have z := D.sup
    unfold PySem.W.ks_superIn at z
    cases hc : PySem.W.clsIn K C with
    | none => rw [hc] at z; cases z
    | some cd => rw [hc] at z; exact ⟨cd, rfl, z⟩
  have hv : (ps.zip us).reverse.lookup ar.arg = some (.ref a) := by
    have ndP : ps.Nodup := by
      have q := S.nd.sublist (List.take_sublist (ps.length + [("__class__" : Str)].length) N)
      rw [S.pre] at q
      exact (List.nodup_append.mp q).1
    cases r with
    | @cons _ u0 _ ur ra rr =>
      obtain rfl : u0 = Value.ref a := ra
      exact zip_look (i := 0) ndP (by rw [hps]; rfl) rfl
  obtain ⟨mb, b1, b2⟩ := e0.mod.blt
  have K1 : K.In h₁ := KX.keeps kp
  have hcl0 : F.cl.lookup ("__class__" : Str) = some cc := by rw [D.cl]; simp [List.lookup]
  refine PySem.ks_wpAt_execs_cons (PySem.ks_wpAt_Expr_any (PySem.ks_wpAt_MethodCall (pl := pl _) ?_ (hc _)) (hi _ rfl) (hs _))
  refine PySem.ks_wpAt_super_base (ar := ar) D.ks (S.frk _ (.head _)) (by decide) rfl (K1 _ _ lk) rfl D.hp rfl (K1 _ _ hfc) rfl hfv hfl D.top ?_
  refine PySem.W.ks_loadName_global S.kind D.ks (PySem.Calls.loadGlobal_builtin (env := envF F f s.heap.objs.size) (e0.mod.glob.keeps I.bk) D.ms (b1.keeps I.bk) ((b2 "super" (by decide)).trans (show bootBuiltins "super" = some (.type "super") by decide +kernel)) ⟨rfl, ?_⟩)
  refine wpAny_loadName_free S.kind (S.frk _ (.head _)) hcl0 ⟨_, K1 _ _ hcell, rfl⟩ ?_
  refine wpAny_loadName_local S.kind (S.par ar.arg (by rw [hps]; exact .head _)) hns hv ?_
  refine PySem.ks_wpAny_isType_cls (K1 _ _ hCk) rfl ⟨rfl, ?_⟩
  refine PySem.ks_wpAny_call_super (K1 _ _ hCk) rfl hx rfl (fun c e => nomatch e) (PySem.W.looks_mroIn K1 D.hsub) (fun h2 eo k2 => ?_)
  have I2 := I.un (t' := s.toks + (ps.zip us).length) (h' := h2) (Un.kept k2) (I.hok.kept k2)
  have K2 : K.In h2 := K1.keeps k2
  have IA : PySem.W.InstAt h2 a (PySem.W.excObj C t1 none .none) C none := ⟨k2 _ _ hx, rfl, rfl, trivial⟩
  refine PySem.W.kxs_getMethod PySem.W.kxs_ValueError eo (PySem.W.looks_opaque K2 D.op) (l₀ := cd.mro) (fun A Q E s k q => wpAny_bind ((PySem.W.looks_clsIn K2 hcl) A _ E s k (wpAny_pure q))) rfl K2 hal (IA.type.andThen (PySem.W.looks_subIn K2 D.sB)) (PySem.W.ks_ne K2 IA hcl) (by decide) ?_
  have k3 : ∀ b o, h2.get? b = some o → (h2.push (PySem.W.kxs_mw "ValueError.__init__" a)).get? b = some o := fun b o e => Heap.get?_push_of_some _ e
  have I3 := I2.un (t' := s.toks + (ps.zip us).length + 1) (h' := h2.push (PySem.W.kxs_mw "ValueError.__init__" a)) (Un.kept k3) (I2.hok.kept k3)
  have hu3 : (h2.push (PySem.W.kxs_mw "ValueError.__init__" a)).get? h2.objs.size = some (PySem.W.kxs_mw "ValueError.__init__" a) := Heap.get?_push_at rfl rfl
  have I4 : Inv (ncx CX P w K mg base N F f A outer s H E) [(h2.objs.size, PySem.W.kxs_mw "ValueError.__init__" a)] (startF N (.ref a :: vr) [some (.ref C)]) H _ := I3.pins_of fun p hp => by
    rw [List.mem_singleton.mp hp]
    exact ⟨hu3, I2.hok.fresh (Nat.le_refl _), Nat.ne_of_gt I2.lt, I2.nofs (Nat.le_refl _), fun v z => nomatch z⟩
  have args : wpAny (model P w) (A.deeper (envF F f s.heap.objs.size)) (spliced (backTo pos (starEach (e :: es) (envF F f s.heap.objs.size)))) _ _ _ := hA.run pos _ _ _ H _ I4 hq
  rw [he] at args
  show wpAny _ _ (callWith pos (.ref h2.objs.size) [] (backTo pos (starEach (e :: es) (envF F f s.heap.objs.size))) []) _ _ _
  rw [he]
  refine PySem.W.kxs_callWith (i := "ValueError.__init__") (x := a) (by show (false || (backTo pos (starEach es _)).any (·.1)) = false; rw [hpl]; rfl) (PySem.Calls.evalArgs_plain ?_)
  refine wpAny_mono args (fun ws s1 hw => ?_) fun e s' hs => hs
  obtain ⟨vs, H1, J, rv, hlen, e1, q⟩ := hw
  have hu := (J.pin _ (List.mem_append_right _ (.head _))).1
  have J0 : Inv (ncx CX P w K mg base N F f A outer s H E) [] (startF N (.ref a :: vr) [some (.ref C)]) H1 s1 := J.pins_of fun p hp => absurd hp (by simp)
  have hlen' : ws.length ≤ sizeLine := by rw [← rv.length, sizeLine_eq]; omega
  exact ⟨hu, mw_ok (X := ncx CX P w K mg base N F f A outer s H E) D.oex J0 e1 hu hlen' fun s' J' => last J' q⟩
end
end LT

set_option Elab.async false
set_option linter.all false
set_option maxRecDepth 100000
set_option maxHeartbeats 1600000
/-! Own layer: a def to which a caught error with a field is handed: isinstance of it, its field; repr of lists of data; the __init__ of such errors. -/
namespace LT
open PySem PySem.Spec PyProof.Rows L2 NdefX
section
variable {X : Cx} {a D dd : Addr} {oe : Obj} {fs : List (Str × V)}
theorem pinned_dd {pins : List (Addr × Obj)} {σ : L2.St} {H : Hp} {s : Shared} (I : Inv X pins σ H s) (hp : (a, oe) ∈ X.pn) (hz : Zc (.ref D) (some dd) oe)
    (hf : ∃ vs, oe.data = .fields vs) (hd : H dd = some (.xd fs)) : ∃ od, PySem.W.InstAt s.heap a oe D (some od) := by
  obtain ⟨hget, _⟩ := I.pin (a, oe) (List.mem_append_left _ hp)
  obtain ⟨vs, hv⟩ := hf
  have hx : ObjOk X.prog X.w H s.heap dd (.xd fs) := I.hok dd _ hd
  obtain ⟨mA, hns, hr⟩ := hx
  obtain ⟨od, ho, hl⟩ := lookIn_ns hns
  exact ⟨od, hget, hz.1, by unfold PySem.W.notCls; rw [hv] <;> rfl, by rw [hz.2]; exact ho⟩
theorem cls_some {K : PySem.W.Frag} {D : Addr} (h : PySem.W.hasDictIn K D = true) : (PySem.W.clsIn K D).isSome = true := by
  obtain ⟨cd, hc, _⟩ := PySem.W.any_some h
  rw [hc]
  rfl
theorem call_isF (hp : (a, oe) ∈ X.pn) (C : ExcC X.K D) (hz : Zc (.ref D) (some dd) oe) (hf : ∃ vs, oe.data = .fields vs) :
    CallR X (.builtin "isinstance") (fun xs H Q => ∃ (fs : List (Str × V)) (c : V) (cv : Value) (b : Bool), H dd = some (.xd fs) ∧ xs = [.ref a, c] ∧ ClsV c cv ∧ PySem.W.kitOne X.K (.ref D) cv = some b ∧ Q (.bl b) H) := by
  intro pins s σ H xs us Q I r h
  obtain ⟨fs, c, cv, b, hd, rfl, hc, e, q⟩ := h
  obtain ⟨u1, u2, rfl, r1, r2⟩ := vals2 r
  have e2 := hc.eq r2
  subst e2
  cases r1
  obtain ⟨od, J⟩ := pinned_dd I hp hz hf hd
  exact PySem.W.kia_one (PySem.W.kitx_exc (cls_some C.hd) C.hg C.hk C.hs C.ha C.hn C.ht C.hm) I.kIn J e (fun z => nomatch z)
    fun tk => ⟨.bl b, H, I.tok tk, rfl, q⟩
theorem call_isFT (hp : (a, oe) ∈ X.pn) (C : ExcC X.K D) (hz : Zc (.ref D) (some dd) oe) (hf : ∃ vs, oe.data = .fields vs) :
    CallR X (.builtin "isinstance") (fun xs H Q => ∃ (fs : List (Str × V)) (tp : Addr) (cs : List V) (us : List Value) (b : Bool), H dd = some (.xd fs) ∧ xs = [.ref a, .ref tp] ∧ H tp = some (.tup cs) ∧ Paired ClsV cs us ∧
      PySem.W.kitAny X.K (.ref D) us = some b ∧ Q (.bl b) H) := by
  intro pins s σ H xs us Q I r h
  obtain ⟨fs, tp, cs, ws, b, hd, rfl, hT, k, e, q⟩ := h
  obtain ⟨u1, u2, rfl, r1, r2⟩ := vals2 r
  cases r1
  cases (show u2 = Value.ref tp from r2)
  obtain ⟨_, its, rv, o, h1, h2, n, h3⟩ := (show ObjOk X.prog X.w H s.heap tp (.tup cs) from I.hok tp _ hT)
  have e3 := ClsV.all k rv
  subst e3
  obtain ⟨oc, od', dt, sl⟩ := o
  simp only at h2 h3
  subst h2 h3
  obtain ⟨od, J⟩ := pinned_dd I hp hz hf hd
  exact PySem.W.kia_tup (PySem.W.kitx_exc (cls_some C.hd) C.hg C.hk C.hs C.ha C.hn C.ht C.hm) I.kIn J h1 e (fun z => nomatch z)
    fun tk => ⟨.bl b, H, I.tok tk, rfl, q⟩
/-- e.f of the pinned error -/
theorem pe_xfP {e : Expr} {te : TE} {pos : Pos} {n : Str} (hp : (a, oe) ∈ X.pn) (T : XfC X.K D) (hno : PySem.W.findIn X.K (.ref D) n = some none)
    (hz : Zc (.ref D) (some dd) oe) (hf : ∃ vs, oe.data = .fields vs) (he : PE X e te) (hb : attributeBase e n X.env (eval e X.env) = eval e X.env := by rfl) :
    PE X (.Attribute e n pos) (tXf a (.ref D) (some dd) D n te) := by
  refine ⟨fun pins s σ H Q I h => ?_⟩
  refine attr_of hb (thn (he.run pins s σ H _ I h) fun u s1 hh => ?_)
  obtain ⟨x, H1, I1, rx, ex, _, dd', fs, v, ed, ea, l, q⟩ := hh
  subst ex
  obtain rfl : u = Value.ref a := rx
  cases ed
  obtain ⟨ha, _⟩ := I1.pin (a, oe) (List.mem_append_left _ hp)
  obtain ⟨vs, hd⟩ := hf
  have hx : ObjOk X.prog X.w H1 s1.heap dd (.xd fs) := I1.hok dd _ ea
  obtain ⟨mA, hns, hr⟩ := hx
  obtain ⟨od, ho, hl⟩ := lookIn_ns hns
  obtain ⟨u, hu, ru⟩ := RelO.some_of (v := v) (o := mA n) (by rw [← l]; exact hr n)
  have J : PySem.W.InstAt s1.heap a oe D (some od) := ⟨ha, hz.1, by unfold PySem.W.notCls; rw [hd] <;> rfl, by rw [hz.2]; exact ho⟩
  exact HandSPX.exc_get I1.kIn J T.ga T.gg T.exC (PySem.W.findObj_own T.hdC hno rfl (by rw [hl, hu])) (handed_of ru) ⟨v, H1, I1.tok _, ru, q⟩
end

/-! ### an own error's __init__(self, field): super().__init__(f".. {field}"); self.field = field -/
abbrev nfI (st : Stmt) (qual : Str) (cc c : Addr) : NF := ⟨"__init__", qual, defArgs st, defBody st, defScope st, [(("__class__" : Str), cc)], c⟩
abbrev arI (st : Stmt) : Arg := ((defArgs st).posonlyargs ++ (defArgs st).args).head!
abbrev LkI (K : PySem.W.Frag) (F : NF) (f : Addr) (fd : FuncData) : Prop := ∃ (oc : Value) (od : Option Addr) (dV kV doc pm : Value) (an : Option Addr) (ct : Value) (osl : Array (Option Value)), fd = PySem.W.fnX F.name F.qual F.params F.body F.scope F.cl dV kV doc pm an (.ref F.c) ct ∧ K.lookup f = some ⟨oc, od, .func fd, osl⟩
theorem nil_app (x : Str) : Str.empty ++ x = x := by
  cases x with
  | mk a =>
    show Str.mk (#[] ++ a) = Str.mk a
    rw [Array.empty_append]
/-- its promise: the field is kept -/
def spErr (C : Addr) (fld : Str) : Sp := fun vs H Q _ => ∃ (a : Addr) (z : Str), vs = [.ref a, .str z] ∧ z.length ≤ 1000 ∧ H a = some (exo a C none) ∧ ∀ dx, H dx = none → dx ≠ a → Q .non (upd (upd H dx (exd dx [(fld, .str z)])) a (exo a C (some dx)))
/-- raise X("..."), as its maker leaves the heap -/
theorem err_made {H : Hp} {a C : Addr} {fld z : Str} {Q : XK} (na : H a = none) (hz : z.length ≤ 1000) (h : ∀ d H', H d = none → Same H H' → H' d = some (.xd [(fld, .str z)]) → Q (.ref C) (some d) H') :
    spErr C fld (.ref a :: ([.str z] ++ [])) (upd H a (exo a C none))
      (fun v H2 => v = .non ∧ ∃ (d : Addr) (fs : List (Str × V)), H2 a = some (exo a C (some d)) ∧ H2 d = some (exd d fs) ∧ H d = none ∧ Q (.ref C) (some d) (upd (del H2 a) d (.xd fs))) (fun _ _ _ => False) := by
  refine ⟨a, z, rfl, hz, upd_same, fun dx n1 n2 => ⟨rfl, dx, [(fld, .str z)], upd_same, ?_, ?_, ?_⟩⟩
  · rw [upd_ne n2, upd_same]
  · rw [upd_ne n2] at n1
    exact n1
  · rw [upd_ne n2] at n1
    refine h dx _ n1 (fun b o e => ?_) upd_same
    have nb := ne_of_none e na
    have nd := ne_of_none e n1
    rw [upd_ne nd, del_ne nb, upd_ne nb, upd_ne nd, upd_ne nb]
    exact e

/-! ### repr of a list of data, among them dicts without entries -/
inductive Sd (K : PySem.W.Frag) (H : Hp) : V → PyData → Prop
  | dp {v : V} {d : PyData} : Dp K H v d → d.hasDict = false → Sd K H v d
  | ed {a : Addr} : H a = some (.dK []) → Sd K H (.ref a) (.dict [])
theorem Sd.mono {K : PySem.W.Frag} {H H' : Hp} {v : V} {d : PyData} (s : Same H H') (h : Sd K H v d) (hm : Dp K H v d → Dp K H' v d) : Sd K H' v d := by
  cases h with
  | dp h hd => exact .dp (hm h) hd
  | ed h => exact .ed (s _ _ h)
section
variable {X : Cx} {pins : List (Addr × Obj)} {σ : L2.St} {H : Hp} {s : Shared}
theorem Sd.reads (I : Inv X pins σ H s) {v : V} {d : PyData} {u : Value} (h : Sd X.K H v d) (r : RelV v u) :
    ∃ as, Reads s.heap u d as ∧ (d.hasDict = true → sysModules ∉ as) := by
  cases h with
  | dp h hd =>
    obtain ⟨as, q⟩ := Dp.reads I d v u h r
    exact ⟨as, q, PyData.noDict_hsm hd⟩
  | ed h =>
    rename_i a
    cases r
    obtain ⟨_, hs, vs, rel, o, es, ep, ho, hx, hd, hko, hp, hn⟩ := I.hok a _ h
    cases rel
    generalize hes : es.toList = l at hp
    cases hp
    refine ⟨_, Reads.dict (as := []) (bs := []) (kvs := []) ho hx.1 hd ?_ ?_, fun _ z => ?_⟩
    · rw [hes]; exact .nil
    · rw [hes]; exact .nil
    · have z2 : sysModules = a := by simpa using z
      rw [z2] at hs
      simp at hs
theorem Sd.all (I : Inv X pins σ H s) : ∀ {vs : List V} {ds : List PyData} {us : List Value}, Paired (Sd X.K H) vs ds → Vals vs us → PyData.showableAll ds = true → (∀ t ∈ PyData.shownAll ds, t.length ≤ sizeLine) →
    ∃ as bs, ReadsAll s.heap us ds as ∧ ReadAtMost s.heap (PyData.depthAll ds) bs ∧ ReprAllK X.prog X.w bs s.heap (PyData.depthAll ds) us (PyData.shownAll ds)
  | _, _, _, .nil, r, _, _ => by
    cases r
    exact ⟨_, [], .nil, (fun _ h => nomatch h), by simp only [PyData.shownAll]; exact .nil⟩
  | _ :: _, d :: ds, _, .cons h hs, r, sh, hz => by
    cases r with
    | cons r1 r2 =>
      have sh' : d.showable = true ∧ PyData.showableAll ds = true := by simpa [PyData.showableAll] using sh
      obtain ⟨as, q1, n1⟩ := h.reads I r1
      obtain ⟨b1, hb1, k1⟩ := ReprK.of_reads (prog := X.prog) (w := X.w) q1 sh'.1 n1 (hz _ (by simp only [PyData.shownAll]; exact List.mem_cons_self ..))
      obtain ⟨bs, b2, q2, hb2, k2⟩ := Sd.all I hs r2 sh'.2 (fun t ht => hz t (by simp only [PyData.shownAll]; exact List.mem_cons_of_mem _ ht))
      refine ⟨_, b1 ++ b2, .cons q1 q2, ?_, ?_⟩
      · simp only [PyData.depthAll]
        exact (hb1.mono (Nat.le_max_left _ _)).append (hb2.mono (Nat.le_max_right _ _))
      · simp only [PyData.depthAll, PyData.shownAll]
        exact .cons ((k1.more fun b hb => List.mem_append_left _ hb).level_le (Nat.le_max_left _ _)) (k2.more_le (fun b hb => List.mem_append_right _ hb) (Nat.le_max_right _ _))
theorem call_reprSd (hG : X.A.guards = some []) (hu : X.A.units + 64 < cLine) : CallR X (.builtin "repr")
    (fun xs H Q => ∃ l vs ds, xs = [.ref l] ∧ SqL X.K H l vs ∧ Paired (Sd X.K H) vs ds ∧ (PyData.list ds).showable = true ∧ (PyData.list ds).depth ≤ 60 ∧ (PyData.list ds).shown.length ≤ sizeLine ∧
      Q (.str (PyData.list ds).shown) H) := by
  intro pins s σ H xs us Q I r h
  obtain ⟨l, vs, ds, rfl, hl, hs, sh, dp, sz, q⟩ := h
  obtain ⟨u, rfl, ru⟩ := vals1 r
  cases ru
  obtain ⟨its, rv, ⟨o, n, ho, hc, _, hd⟩, _⟩ := I.list hl
  have hz' : (listText (PyData.shownAll ds)).length ≤ sizeLine := by simpa only [PyData.shown] using sz
  obtain ⟨as, bs, rd, hb, hk⟩ := Sd.all I hs rv (by simpa [PyData.showable] using sh) (fun t ht => Nat.le_trans (listText_mem_le ht) hz')
  have hna : l ∉ bs := not_mem_of_deeper (.list ho hc hd rd) (by simp only [PyData.depth]; omega) hb
  have dp2 : PyData.depthAll ds + 1 ≤ 60 := by simpa only [PyData.depth] using dp
  have q2 : Q (.str (listText (PyData.shownAll ds))) H := by simpa only [PyData.shown] using q
  refine call_repr_slot (by omega) (show s.TypeIs (.ref l) "list" from ⟨o, ho, hc⟩) F.slot_list_repr.toG ?_
  cases its with
  | nil =>
    cases rd
    simp only [PyData.shownAll, listText_nil] at q2
    exact call_list_repr_empty ⟨o, ho, hc⟩ ho hd ⟨_, _, rfl, ⟨.str _, H, I.kept fun _ _ e => e, ⟨_, rfl⟩, q2⟩⟩
  | cons x l' =>
    exact call_list_reprK (A := X.A.in1) ho hc hd hna (by simpa using hk.length_eq) (fun i y e => hk.item i y (by simpa using e)) hG (fun b _ => Clear.nil b) (by show X.A.units + 1 + _ < cLine; omega) (fun _ _ e => e)
      (fun h' u tk hk' => ⟨_, _, rfl, ⟨.str _, H, I.kept hk', ⟨_, rfl⟩, q2⟩⟩) hz'
end
/-! ### keywords in any turn, no defaults -/
theorem vals_rev : ∀ {vs : List V} {us : List Value}, Vals vs us → Vals vs.reverse us.reverse
  | _, _, .nil => .nil
  | _, _, .cons h r => by
    rw [List.reverse_cons, List.reverse_cons]
    exact (vals_rev r).append (.cons h .nil)
theorem kbn_of {K : PySem.W.Frag} {y qual : Str} {st : Stmt} {f : Addr} {fd : FuncData} {ps : List Str} (F : Fun K y qual st f fd) (n : Nat) (ks : List Str) (g : {α : Type} → List α → List α → List α)
    (hrel : ∀ {vs zs : List V} {us ws : List Value}, Vals vs us → Vals zs ws → Vals (g vs zs) (g us ws))
    (h : ∀ (kV doc pm : Value) (an : Option Addr) (cdv ct : Value) (us ws : List Value), us.length = n → ws.length = ks.length →
      bindArgs (PySem.W.fnOf y qual (defArgs st) (defBody st) (defScope st) .none kV doc pm an cdv ct) ⟨us, ks.zip ws⟩ = pure (ps.zip (g us ws))) :
    KBn K fd ps n ks (fun us ws => g us ws) (fun vs zs => g vs zs) := by
  obtain ⟨oc, od, kV, doc, pm, an, cdv, ct, osl, rfl, lk, hcd⟩ := F.ex
  exact ⟨fun s us ws _ l1 l2 => .of_eq (h kV doc pm an cdv ct us ws l1 l2), fun r1 r2 => hrel r1 r2⟩
end LT

set_option Elab.async false
set_option linter.all false
set_option maxRecDepth 100000
/-! Own layer: shown texts have signs of the alphabet alone (strOk). -/
namespace LT
open PySem PySem.Spec PyProof.Rows L2
theorem ok_of (s : String) : PyData.strOk (Str.ofString s) = true := by
  rw [Str.ofString_eq_toList]
  show (((s.toList.map Char.toNat).toArray).all fun c => decide (c < 0x110000)) = true
  rw [List.all_toArray, List.all_eq_true]
  intro c hc
  obtain ⟨d, _, rfl⟩ := List.mem_map.mp hc
  have h : d.val.toNat.isValidChar := d.valid
  rcases h with h | h <;> (refine decide_eq_true ?_; show d.val.toNat < _; omega)
theorem ok_app {x y : Str} (hx : PyData.strOk x = true) (hy : PyData.strOk y = true) : PyData.strOk (x ++ y) = true := by
  show ((x.cps ++ y.cps).all fun c => decide (c < 0x110000)) = true
  rw [Array.all_append]
  rw [show (x.cps.all fun c => decide (c < 0x110000)) = true from hx, show (y.cps.all fun c => decide (c < 0x110000)) = true from hy]
  rfl
theorem ok_textFrom : ∀ (ts : List Str) (k : Nat) (acc : Str), PyData.strOk acc = true → (∀ t ∈ ts, PyData.strOk t = true) → PyData.strOk (textFrom k acc ts) = true
  | [], _, _, ha, _ => ha
  | t :: r, k, acc, ha, h => ok_textFrom r (k + 1) _ (ok_app (ok_app ha (by split <;> exact ok_of _)) (h t List.mem_cons_self)) fun u hu => h u (List.mem_cons_of_mem _ hu)
theorem ok_listText {ts : List Str} (h : ∀ t ∈ ts, PyData.strOk t = true) : PyData.strOk (listText ts) = true := ok_app (ok_textFrom ts 0 _ (ok_of "[") h) (ok_of "]")
/-- a tuple of texts beside itself -/
theorem strs_lay {xs : List Str} (h : ∀ x ∈ xs, PyData.strOk x = true) : PyData.canLay0 (.tuple (xs.map .str)) = true ∧ SeqAt.shaped (.tuple (xs.map .str)) = true := by
  have a : ∀ {ys : List Str}, (∀ x ∈ ys, PyData.strOk x = true) → PyData.canLayAll0 (ys.map .str) = true ∧ PyData.depthAll (ys.map .str) = 0 := by
    intro ys
    induction ys with
    | nil => intro _; exact ⟨by simp [PyData.canLayAll0], by simp [PyData.depthAll]⟩
    | cons y ys ih =>
      intro hy
      obtain ⟨i1, i2⟩ := ih fun x hx => hy x (List.mem_cons_of_mem _ hx)
      exact ⟨by simp [PyData.canLayAll0, PyData.canLay0, hy y List.mem_cons_self, i1], by simp [PyData.depthAll, PyData.depth, i2]⟩
  obtain ⟨a1, a2⟩ := a h
  have h0 : PyData.canLay0 (.tuple (xs.map .str)) = true := by simpa [PyData.canLay0] using a1
  refine ⟨h0, ?_⟩
  unfold SeqAt.shaped
  rw [h0]
  simp [PyData.depth, a2]
end LT

set_option Elab.async false
set_option linter.all false
set_option maxRecDepth 100000
set_option maxHeartbeats 1600000
/-! Own layer: what every law of this program wants: names of defs, things handed in, pots, heaps that grow. -/
namespace LT
open PySem PySem.Spec PyProof.Rows L2 NdefX
/-- names that are still the built-in ones -/
structure Tx (mg : Str → Option Value) : Prop where
  isi : mg "isinstance" = none
  int : mg "int" = none
  bool : mg "bool" = none
  len : mg "len" = none
  abs : mg "abs" = none
  max : mg "max" = none
  min : mg "min" = none
  divmod : mg "divmod" = none
  range : mg "range" = none
  repr : mg "repr" = none
  zip : mg "zip" = none
  ve : mg "ValueError" = none
  all : mg "all" = none
  any : mg "any" = none
  sum : mg "sum" = none
  sorted : mg "sorted" = none
  list : mg "list" = none
  tuple : mg "tuple" = none
  dict : mg "dict" = none
  enumerate : mg "enumerate" = none
  reversed : mg "reversed" = none
  str : mg "str" = none
  set : mg "set" = none
/-- a def that stands as a name of the module -/
structure Has (K : PySem.W.Frag) (mg : Str → Option Value) (x : Str) (ps : List Str) (st : Stmt) (f : Addr) (fd : FuncData) : Prop where
  fn : Fun K x x st f fd
  bd : L2.Binds K fd ps []
  gl : mg x = some (.ref f)
/-- a method of the class at C -/
structure Mth (K : PySem.W.Frag) (C : Addr) (m q : Str) (ps : List Str) (st : Stmt) (f : Addr) (fd : FuncData) : Prop where
  fn : Fun K m q st f fd
  bd : L2.Binds K fd ps []
  me : Meth K C m f
/-- what is handed in -/
inductive Odd (H : Hp) : V → Prop
  | non : Odd H .non
  | bl (b : Bool) : Odd H (.bl b)
  | int (i : Int) : Odd H (.int i)
  | str (z : Str) : Odd H (.str z)
  | lst {a : Addr} {xs : List V} : H a = some (.lst xs) → Odd H (.ref a)
  | tup {a : Addr} {xs : List V} : H a = some (.tup xs) → Odd H (.ref a)
  | dK {a : Addr} {kvs : List (Key × V)} : H a = some (.dK kvs) → Odd H (.ref a)
theorem Odd.mono {H H' : Hp} (s : Same H H') {v : V} (h : Odd H v) : Odd H' v := by
  cases h with
  | non => exact .non
  | bl b => exact .bl b
  | int i => exact .int i
  | str z => exact .str z
  | lst e => exact .lst (s _ _ e)
  | tup e => exact .tup (s _ _ e)
  | dK e => exact .dK (s _ _ e)
def isInt : V → Bool
  | .int _ => true
  | .bl _ => true
  | _ => false
def isBl : V → Bool
  | .bl _ => true
  | _ => false
theorem Odd.ty {K : PySem.W.Frag} {H : Hp} {v : V} (h : Odd H v) : ∃ t, TyX K H v t ∧ PySem.W.kitOne K t (.type "int") = some (isInt v) ∧ PySem.W.kitOne K t (.type "bool") = some (isBl v) := by
  cases h with
  | non => exact ⟨_, .base .non, kit_ty (show kitB "NoneType" "int" = some false by decide +kernel), kit_ty (show kitB "NoneType" "bool" = some false by decide +kernel)⟩
  | bl b => exact ⟨_, .base (.bl b), kit_ty (show kitB "bool" "int" = some true by decide +kernel), kit_ty (show kitB "bool" "bool" = some true by decide +kernel)⟩
  | int i => exact ⟨_, .base (.int i), kit_ty (show kitB "int" "int" = some true by decide +kernel), kit_ty (show kitB "int" "bool" = some false by decide +kernel)⟩
  | str z => exact ⟨_, .base (.str z), kit_ty (show kitB "str" "int" = some false by decide +kernel), kit_ty (show kitB "str" "bool" = some false by decide +kernel)⟩
  | lst e => exact ⟨_, .base (.lst e), kit_ty (show kitB "list" "int" = some false by decide +kernel), kit_ty (show kitB "list" "bool" = some false by decide +kernel)⟩
  | tup e => exact ⟨_, .base (.tup e), kit_ty (show kitB "tuple" "int" = some false by decide +kernel), kit_ty (show kitB "tuple" "bool" = some false by decide +kernel)⟩
  | dK e => exact ⟨_, .base (.dK e), kit_ty (show kitB "dict" "int" = some false by decide +kernel), kit_ty (show kitB "dict" "bool" = some false by decide +kernel)⟩
def wholeB : V → Bool
  | .int _ => true
  | _ => false
theorem whole_eq (v : V) : (isInt v && !isBl v) = wholeB v := by cases v <;> rfl
def fromB : V → Int → Bool
  | .int i, l => decide (l ≤ i)
  | _, _ => false
def withinB : V → Int → Int → Bool
  | .int i, l, m => decide (l ≤ i) && decide (i ≤ m)
  | _, _, _ => false
theorem from_int {v : V} {l : Int} (h : fromB v l = true) : ∃ i, v = .int i ∧ l ≤ i := by
  cases v <;> first | exact ⟨_, rfl, of_decide_eq_true h⟩ | cases h
theorem bool_false {b : Bool} (h : ¬ b = true) : b = false := by cases b <;> first | rfl | exact absurd rfl h
theorem same_upd {H : Hp} {p : Addr} {o : HO} (h : H p = none) : Same H (upd H p o) := fun b x e => by
  rw [upd_ne (ne_of_none e h)]
  exact e
theorem same_app {H H1 : Hp} {p : Addr} {o : HO} (h : H p = none) (s : Same H H1) : Same H (upd H1 p o) := fun b x e => by
  rw [upd_ne (ne_of_none e h)]
  exact s _ _ e
/-- a pot: two numbers -/
def Pot (H : Hp) (p : Addr) : Prop := ∃ a b : Int, H p = some (.lst [.int a, .int b]) ∧ 0 ≤ a ∧ 0 ≤ b ∧ b < 2147483647
/-- all but what stands at p is as it was -/
def SameB (p : Addr) (H H' : Hp) : Prop := ∀ b o, b ≠ p → H b = some o → H' b = some o
theorem SameB.trans {p : Addr} {H H1 H2 : Hp} (a : SameB p H H1) (b : SameB p H1 H2) : SameB p H H2 := fun c o n h => b c o n (a c o n h)
theorem SameB.of {p : Addr} {H H' : Hp} (s : Same H H') : SameB p H H' := fun b o _ e => s b o e
theorem SameB.upd {p : Addr} {H H' : Hp} {o : HO} (s : SameB p H H') : SameB p H (upd H' p o) := fun b x n e => by
  rw [upd_ne n]
  exact s b x n e
theorem SameB.new {p q : Addr} {H H' : Hp} {o : HO} (h : H q = none) (s : SameB p H H') : SameB p H (L2.upd H' q o) := fun b x n e => by
  rw [upd_ne (ne_of_none e h)]
  exact s b x n e
theorem Pot.ne {H : Hp} {p q : Addr} (h : Pot H p) (n : H q = none) : q ≠ p := fun e => by
  obtain ⟨a, b, e1, _⟩ := h
  rw [← e, n] at e1
  cases e1
theorem SameB.none {p q : Addr} {H H1 : Hp} (s : SameB p H H1) (h : Pot H1 p) (n : H1 q = none) : H q = none := by
  cases e : H q with
  | none => rfl
  | some o =>
    rw [s q o (h.ne n) e] at n
    cases n
theorem Pot.upd {H : Hp} {p q : Addr} {o : HO} (h : Pot H p) (n : q ≠ p) : Pot (L2.upd H q o) p := by
  obtain ⟨a, b, e, r⟩ := h
  exact ⟨a, b, by rw [upd_ne n.symm]; exact e, r⟩
theorem Pot.mono {H H' : Hp} {p : Addr} (h : Pot H p) (s : Same H H') : Pot H' p := by
  obtain ⟨a, b, e, r⟩ := h
  exact ⟨a, b, s _ _ e, r⟩
theorem ne_of_pot {H : Hp} {p q : Addr} {o : HO} (h : Pot H p) (e : H q = some o) (n : ∀ a b : Int, o ≠ .lst [.int a, .int b] := by intros; nofun) : q ≠ p := by
  obtain ⟨a, b, ep, _⟩ := h
  exact ne_of e ep (n a b)
theorem sameB_new {p : Addr} {H H1 H2 : Hp} (n : H p = none) (s : Same H H1) (b : SameB p H1 H2) : Same H H2 := fun c o e => b c o (ne_of_none e n) (s c o e)

theorem lg_of {i : Int} (h : i.natAbs ≤ 10 ^ 60) : i.natAbs.log2 < 1920 := by
  rcases Nat.eq_zero_or_pos i.natAbs with z | z
  · rw [z]; decide
  · rw [Nat.log2_lt (by omega)]
    exact Nat.lt_of_le_of_lt h (by decide)
theorem tlen {i : Int} (h : i.natAbs.log2 < 1920) : (Str.ofString (toString i)).length ≤ 1921 := by
  rw [PySem.ofString_length]
  exact int_text_length_le (by decide) h
theorem same_made {H : Hp} {x dx C : Addr} {o : HO} (nx : H x = none) (nd : H dx = none) : Same H (upd (upd H dx (.own x)) x o) := fun b z e => by
  rw [upd_ne (ne_of_none e nx), upd_ne (ne_of_none e nd)]
  exact e

/-- a list of one own error with its field: facts of the class and its __init__ -/
structure Nx (K : PySem.W.Frag) (P : Program) (mg : Str → Option Value) (st : Stmt) (nm q fld : Str) (CN fN cc c : Addr) (fdN : FuncData) : Prop where
  sup : SupC K P mg CN cc (nfI st q cc c) (arI st)
  lk : LkI K (nfI st q cc c) fN fdN
  hno : PySem.W.findIn K (.ref CN) fld = some none
  ini : PySem.W.findIn K (.ref CN) "__init__" = some (some (.ref fN))
  tI : PySem.W.typeIn K (.ref fN) = some (.type "function")
  bd : L2.Binds K fdN ["self", fld] []
  gl : mg nm = some (.ref CN)
/-! ### isinstance, in an except suite, of an error of any class -/
section
variable {X : Cx} {a : Addr} {oe : Obj} {cls : Value} {d : Option Addr}
/-- the error's dict stands -/
def HasD (d : Option Addr) (H : Hp) : Prop := d = none ∨ ∃ (dd : Addr) (fs : List (Str × V)), d = some dd ∧ H dd = some (.xd fs)
theorem HasD.mono {H H' : Hp} (h : HasD d H) (s : Same H H') : HasD d H' := by
  rcases h with h | ⟨dd, fs, e, h⟩
  · exact .inl h
  · exact .inr ⟨dd, fs, e, s _ _ h⟩
theorem pinned_any {pins : List (Addr × Obj)} {σ : L2.St} {H : Hp} {s : Shared} {D : Addr} (I : Inv X pins σ H s) (hp : (a, oe) ∈ X.pn) (hz : Zc (.ref D) d oe)
    (hf : ∃ vs, oe.data = .fields vs) (hd : HasD d H) : ∃ od, PySem.W.InstAt s.heap a oe D od := by
  rcases hd with rfl | ⟨dd, fs, rfl, hd⟩
  · exact ⟨none, pinned_at I hp hz hf⟩
  · obtain ⟨od, h⟩ := pinned_dd I hp hz hf hd
    exact ⟨some od, h⟩
theorem call_isX (hp : (a, oe) ∈ X.pn) (hz : Zc cls d oe) (hf : ∃ vs, oe.data = .fields vs) :
    CallR X (.builtin "isinstance") (fun xs H Q => ∃ (D : Addr) (c : V) (cv : Value) (b : Bool), cls = .ref D ∧ ExcC X.K D ∧ HasD d H ∧ xs = [.ref a, c] ∧ ClsV c cv ∧ PySem.W.kitOne X.K (.ref D) cv = some b ∧ Q (.bl b) H) := by
  intro pins s σ H xs us Q I r h
  obtain ⟨D, c, cv, b, rfl, C, hd, rfl, hc, e, q⟩ := h
  obtain ⟨u1, u2, rfl, r1, r2⟩ := vals2 r
  have e2 := hc.eq r2
  subst e2
  cases r1
  obtain ⟨od, J⟩ := pinned_any I hp hz hf hd
  exact PySem.W.kia_one (PySem.W.kitx_exc (cls_some C.hd) C.hg C.hk C.hs C.ha C.hn C.ht C.hm) I.kIn J e (fun z => nomatch z)
    fun tk => ⟨.bl b, H, I.tok tk, rfl, q⟩
theorem call_isXT (hp : (a, oe) ∈ X.pn) (hz : Zc cls d oe) (hf : ∃ vs, oe.data = .fields vs) :
    CallR X (.builtin "isinstance") (fun xs H Q => ∃ (D : Addr) (tp : Addr) (cs : List V) (us : List Value) (b : Bool), cls = .ref D ∧ ExcC X.K D ∧ HasD d H ∧ xs = [.ref a, .ref tp] ∧ H tp = some (.tup cs) ∧ Paired ClsV cs us ∧
      PySem.W.kitAny X.K (.ref D) us = some b ∧ Q (.bl b) H) := by
  intro pins s σ H xs us Q I r h
  obtain ⟨D, tp, cs, ws, b, rfl, C, hd, rfl, hT, k, e, q⟩ := h
  obtain ⟨u1, u2, rfl, r1, r2⟩ := vals2 r
  cases r1
  cases (show u2 = Value.ref tp from r2)
  obtain ⟨_, its, rv, o, h1, h2, n, h3⟩ := (show ObjOk X.prog X.w H s.heap tp (.tup cs) from I.hok tp _ hT)
  have e3 := ClsV.all k rv
  subst e3
  obtain ⟨oc, od', dt, sl⟩ := o
  simp only at h2 h3
  subst h2 h3
  obtain ⟨od, J⟩ := pinned_any I hp hz hf hd
  exact PySem.W.kia_tup (PySem.W.kitx_exc (cls_some C.hd) C.hg C.hk C.hs C.ha C.hn C.ht C.hm) I.kIn J h1 e (fun z => nomatch z)
    fun tk => ⟨.bl b, H, I.tok tk, rfl, q⟩
end
section
variable {X : Cx} {a : Addr} {oe : Obj} {cls : Value} {d : Option Addr} {pn : List (Addr × Obj)}
def rIsX (K : PySem.W.Frag) (a : Addr) (cls : Value) (d : Option Addr) : List V → Hp → VK → Prop := fun xs H Q => ∃ (D : Addr) (c : V) (cv : Value) (b : Bool), cls = .ref D ∧ ExcC K D ∧ HasD d H ∧ xs = [.ref a, c] ∧ ClsV c cv ∧ PySem.W.kitOne K (.ref D) cv = some b ∧ Q (.bl b) H
def rIsXT (K : PySem.W.Frag) (a : Addr) (cls : Value) (d : Option Addr) : List V → Hp → VK → Prop := fun xs H Q => ∃ (D : Addr) (tp : Addr) (cs : List V) (us : List Value) (b : Bool), cls = .ref D ∧ ExcC K D ∧ HasD d H ∧ xs = [.ref a, .ref tp] ∧ H tp = some (.tup cs) ∧ Paired ClsV cs us ∧
      PySem.W.kitAny K (.ref D) us = some b ∧ Q (.bl b) H
theorem call_isS (hz : Zc cls d oe) (hf : ∃ vs, oe.data = .fields vs) : CallR (X.suite a ((a, oe) :: pn)) (.builtin "isinstance") (rIsX X.K a cls d) := call_isX (X := X.suite a ((a, oe) :: pn)) (a := a) (oe := oe) List.mem_cons_self hz hf
theorem call_isST (hz : Zc cls d oe) (hf : ∃ vs, oe.data = .fields vs) : CallR (X.suite a ((a, oe) :: pn)) (.builtin "isinstance") (rIsXT X.K a cls d) := call_isXT (X := X.suite a ((a, oe) :: pn)) (a := a) (oe := oe) List.mem_cons_self hz hf
end
/-! ### things of all sorts, with their data -/
inductive Th (H : Hp) : V → PyData → Prop
  | non : Th H .non .none
  | bl (b : Bool) : Th H (.bl b) (.bool b)
  | int (i : Int) : i.natAbs ≤ 10 ^ 61 → Th H (.int i) (.int i)
  | str (z : Str) : (PyData.str z).showable = true → (PyData.str z).shown.length ≤ 1921 → PyData.strOk (PyData.str z).shown = true → Th H (.str z) (.str z)
  | lst {a : Addr} (n : Int) : n.natAbs ≤ 10 ^ 61 → H a = some (.lst [.int n]) → Th H (.ref a) (.list [.int n])
  | tup {a : Addr} (n : Int) : n.natAbs ≤ 10 ^ 61 → H a = some (.tup [.int n]) → Th H (.ref a) (.tuple [.int n])
  | dk {a : Addr} : H a = some (.dK []) → Th H (.ref a) (.dict [])
theorem lg61 {i : Int} (h : i.natAbs ≤ 10 ^ 61) : i.natAbs.log2 < 1920 := by
  rcases Nat.eq_zero_or_pos i.natAbs with z | z
  · rw [z]; decide
  · rw [Nat.log2_lt (by omega)]
    exact Nat.lt_of_le_of_lt h (by decide)
theorem tlen61 {i : Int} (h : i.natAbs ≤ 10 ^ 61) : (Str.ofString (toString i)).length ≤ 204 := by
  rw [PySem.ofString_length]
  rcases Nat.eq_zero_or_pos i.natAbs with z | z
  · rw [show i = 0 by omega]; decide
  · have : i.natAbs.log2 < 203 := by
      rw [Nat.log2_lt (by omega)]
      exact Nat.lt_of_le_of_lt h (by decide)
    exact Nat.le_trans (int_text_length_le (k := 203) (by decide) this) (by decide)
theorem Th.monoB {H H' : Hp} {p : Addr} {v : V} {d : PyData} (h : Th H v d) (hp : Pot H p) (s : SameB p H H') : Th H' v d := by
  cases h with
  | non => exact .non
  | bl b => exact .bl b
  | int i hi => exact .int i hi
  | str z a b c => exact .str z a b c
  | lst n hn e => exact .lst n hn (s _ _ (ne_of_pot hp e) e)
  | tup n hn e => exact .tup n hn (s _ _ (ne_of_pot hp e) e)
  | dk e => exact .dk (s _ _ (ne_of_pot hp e) e)
theorem Th.mono {H H' : Hp} {v : V} {d : PyData} (h : Th H v d) (s : Same H H') : Th H' v d := by
  cases h with
  | non => exact .non
  | bl b => exact .bl b
  | int i hi => exact .int i hi
  | str z a b c => exact .str z a b c
  | lst n hn e => exact .lst n hn (s _ _ e)
  | tup n hn e => exact .tup n hn (s _ _ e)
  | dk e => exact .dk (s _ _ e)
theorem Th.upd {H : Hp} {th : Addr} {v : V} {d : PyData} {xs : List V} {o : HO} (h : Th H v d) (ht : H th = some (.lst xs)) (hl : xs.length ≠ 1) : Th (L2.upd H th o) v d := by
  cases h with
  | non => exact .non
  | bl b => exact .bl b
  | int i hi => exact .int i hi
  | str z a b c => exact .str z a b c
  | lst n hn e => exact .lst n hn (by rw [upd_ne (ne_of e ht (by intro z; cases z; exact hl rfl))]; exact e)
  | tup n hn e => exact .tup n hn (by rw [upd_ne (ne_of e ht (by intro z; cases z))]; exact e)
  | dk e => exact .dk (by rw [upd_ne (ne_of e ht (by intro z; cases z))]; exact e)
theorem Th.odd {H : Hp} {v : V} {d : PyData} (h : Th H v d) : Odd H v := by
  cases h with
  | non => exact .non
  | bl b => exact .bl b
  | int i hi => exact .int i
  | str z a b c => exact .str _
  | lst n hn e => exact .lst e
  | tup n hn e => exact .tup e
  | dk e => exact .dK e
theorem Th.sd {K : PySem.W.Frag} {H : Hp} {v : V} {d : PyData} (h : Th H v d) : Sd K H v d := by
  cases h with
  | non => exact .dp .non (by simp [PyData.hasDict])
  | bl b => exact .dp (.bl b) (by simp [PyData.hasDict])
  | int i hi => exact .dp (.int i) (by simp [PyData.hasDict])
  | str z a b c => exact .dp (.str _) (by simp [PyData.hasDict])
  | lst n hn e => exact .dp (.lst (SqL.of e) (.cons (.int n) .nil)) (by simp [PyData.hasDict, PyData.hasDictAll])
  | tup n hn e => exact .dp (.tup (SqT.of e) (.cons (.int n) .nil)) (by simp [PyData.hasDict, PyData.hasDictAll])
  | dk e => exact .ed e
theorem shown_one (n : Int) : (PyData.list [.int n]).shown = listText [Str.ofString (toString n)] ∧ (PyData.tuple [.int n]).shown = tupleText [Str.ofString (toString n)] := by
  constructor
  · simp only [PyData.shown, PyData.shownAll]
  · simp only [PyData.shown, PyData.shownAll]
theorem Th.fit {H : Hp} {v : V} {d : PyData} (h : Th H v d) : d.showable = true ∧ d.depth ≤ 1 ∧ d.shown.length ≤ 1921 := by
  cases h with
  | non => exact ⟨by simp [PyData.showable], by simp [PyData.depth], by decide +kernel⟩
  | bl b => cases b <;> exact ⟨by simp [PyData.showable], by simp [PyData.depth], by decide +kernel⟩
  | int i hi => exact ⟨by simpa [PyData.showable] using lg61 hi, by simp [PyData.depth], by simp only [PyData.shown]; exact Nat.le_trans (tlen61 hi) (by decide)⟩
  | str z a b c => exact ⟨a, by simp [PyData.depth], b⟩
  | lst n hn e =>
    refine ⟨by simpa [PyData.showable, PyData.showableAll] using lg61 hn, by simp [PyData.depth, PyData.depthAll], ?_⟩
    rw [(shown_one n).1]
    have := listText_len_le [Str.ofString (toString n)]
    have := tlen61 hn
    simp only [List.map_cons, List.map_nil, List.sum_cons, List.sum_nil, List.length_cons, List.length_nil] at *
    omega
  | tup n hn e =>
    refine ⟨by simpa [PyData.showable, PyData.showableAll] using lg61 hn, by simp [PyData.depth, PyData.depthAll], ?_⟩
    rw [(shown_one n).2]
    have := tupleText_len_le [Str.ofString (toString n)]
    have := tlen61 hn
    simp only [List.map_cons, List.map_nil, List.sum_cons, List.sum_nil, List.length_cons, List.length_nil] at *
    omega
  | dk e => exact ⟨by decide +kernel, by decide +kernel, by decide +kernel⟩
/-- three of them in a list -/
theorem fit3 {H : Hp} {a b c : V} {da db dc : PyData} (ha : Th H a da) (hb : Th H b db) (hc : Th H c dc) : (PyData.list [da, db, dc]).showable = true ∧ (PyData.list [da, db, dc]).depth ≤ 60 ∧ (PyData.list [da, db, dc]).shown.length ≤ sizeLine := by
  obtain ⟨a1, a2, a3⟩ := ha.fit
  obtain ⟨b1, b2, b3⟩ := hb.fit
  obtain ⟨c1, c2, c3⟩ := hc.fit
  refine ⟨by simp [PyData.showable, PyData.showableAll, a1, b1, c1], by simp only [PyData.depth, PyData.depthAll]; omega, ?_⟩
  have e := listText_len_le [da.shown, db.shown, dc.shown]
  simp only [List.map_cons, List.map_nil, List.sum_cons, List.sum_nil, List.length_cons, List.length_nil] at e
  have e2 : PyData.shown (.list [da, db, dc]) = listText [da.shown, db.shown, dc.shown] := by simp only [PyData.shown, PyData.shownAll]
  rw [e2, sizeLine_eq]
  omega
/-! ### xs.count(y), flat things -/
theorem count_eqU {x : V} : ∀ {xs : List V} {us : List Value}, Vals xs us → xs.all flatV = true → us.countP (eqU x) = xs.countP fun y => eqV y x
  | _, _, .nil, _ => rfl
  | y :: xs, u :: us, .cons r t, f => by
    rw [List.all_cons, Bool.and_eq_true] at f
    rw [List.countP_cons, List.countP_cons, eqU_of r f.1, count_eqU t f.2]
def rCntV (K : PySem.W.Frag) : V → List V → Hp → VK → Prop := fun x xs H Q => ∃ (p : Addr) (ys : List V) (y : V), x = .ref p ∧ xs = [y] ∧ SqL K H p ys ∧ flatV y = true ∧ ys.all flatV = true ∧ Q (.int (ys.countP fun z => eqV z y : Nat)) H
theorem mt_countV {X : Cx} : MtR X "list.count" (rCntV X.K) := by
  intro pins s σ H x xs v us Q I rx rxs h
  obtain ⟨p, ys, y, rfl, rfl, hs, fy, fs, q⟩ := h
  cases rx
  obtain ⟨u, rfl, ru⟩ := rxs.one
  obtain ⟨its, rv, ⟨⟨cls, dd, data, sl⟩, n, ho, hc, hdn, hd⟩, hlen⟩ := I.list hs
  simp only at hc hd
  subst hc hd
  refine call_meets PySem.F.slot_list_count ⟨_, ho, rfl⟩ PySem.F.entry_list_count (PySem.F.args_list_count_2 _ _)
    (SeqAt.list_countAt p its.toArray n dd sl u (eqU y)) ⟨ho, fun z hz => mem_eqAt ru fy rv fs z (by simpa using hz), ?_⟩
  have ec : its.toArray.toList.countP (eqU y) = ys.countP fun z => eqV z y := count_eqU rv fs
  refine ⟨.int (ys.countP fun z => eqV z y : Nat), H, I.tok _, ⟨s.toks, ?_⟩, q⟩
  show Value.int ((its.toArray.toList.countP (eqU y) : Nat) : Int) s.toks = _
  rw [ec]
/-- xs.count(y) in an except suite -/
theorem pe_countS {X : Cx} {a : Addr} {oe : Obj} {pn : List (Addr × Obj)} {o e : Expr} {to : TE} {t : TA} {apos cpos : Pos} (ho : PE (X.suite a ((a, oe) :: pn)) o to) (ha : PA (X.suite a ((a, oe) :: pn)) [e] t)
    (hbase : attributeBase o "count" X.env (eval o X.env) = eval o X.env := by rfl)
    (hfew : ((backTo cpos (starEach [e] X.env)).all (fun x => !x.1) && (backToKw cpos (keywordEach [] X.env)).all (fun x => x.1.isSome)
      && decide (([e] : List Expr).length + ([] : List Keyword).length + (if ([] : List Keyword).isEmpty then 0 else 1) < 30)) = true := by rfl)
    (hline : (apos.endLine == cpos.line) = true := by rfl) (hs : starEach [e] X.env = (false, eval e X.env) :: starEach [] X.env := by rfl) (hplain : (backTo cpos (starEach [] X.env)).any (·.1) = false := by rfl) :
    PE (X.suite a ((a, oe) :: pn)) (.Call (.Attribute o "count" apos) [e] [] cpos) (tBM X.K "list" (rCntV X.K) to t) :=
  pe_bm (X := X.suite a ((a, oe) :: pn)) PySem.F.plainAttrs_list PySem.F.slot_list_count PySem.F.type_list_count (mt_countV (X := X.suite a ((a, oe) :: pn))) ho ha hbase hfew hline hs hplain
theorem ix_listS {X : Cx} {a : Addr} {oe : Obj} {pn : List (Addr × Obj)} : IxR (X.suite a ((a, oe) :: pn)) (rIxL X.K) := ix_list (X := X.suite a ((a, oe) :: pn))
end LT

set_option Elab.async false
set_option linter.all false
set_option maxRecDepth 100000
/-! Own layer: ==, != of instances of a class with its own __eq__; repr, str of such; a method called by keywords. -/
namespace LT
open PySem PySem.Spec PyProof.Rows L2
section
variable {M : Model} {A : Around} {E : Value → Shared → Prop} {s : Shared} {Q : Value → Shared → Prop} {K : PySem.W.Frag} {y C dy : Addr}
open AutoSeq1 (wpAny_loadPart')
theorem int_dec (b : Int) (u : Tok) (y C dy : Addr) :
    Meets (Builtin.«int.__eq__» ⟨[.int b u, .ref y], []⟩) (fun _ R s => s.heap.get? y = some (PySem.W.instObj C dy) ∧ R (.ok (.ret .notImplemented)) s) :=
  .of_wp fun prog w A R s h => by
    obtain ⟨hp, g, d, tk, os⟩ := s
    obtain ⟨hl, h⟩ := h
    wp_walk using wpAny_loadPart' hl, wpAny_load hl
    exact ⟨_, rfl, h⟩
theorem bool_dec (b : Bool) (y C dy : Addr) :
    Meets (Builtin.«int.__eq__» ⟨[.bool b, .ref y], []⟩) (fun _ R s => s.heap.get? y = some (PySem.W.instObj C dy) ∧ R (.ok (.ret .notImplemented)) s) :=
  .of_wp fun prog w A R s h => by
    obtain ⟨hp, g, d, tk, os⟩ := s
    obtain ⟨hl, h⟩ := h
    wp_walk using wpAny_loadPart' hl, wpAny_load hl
    exact ⟨_, rfl, h⟩
theorem str_dec (b : Str) (u : Tok) (y C dy : Addr) :
    Meets (Builtin.«str.__eq__» ⟨[.str b u, .ref y], []⟩) (fun _ R s => s.heap.get? y = some (PySem.W.instObj C dy) ∧ R (.ok (.ret .notImplemented)) s) :=
  .of_wp fun prog w A R s h => by
    obtain ⟨hp, g, d, tk, os⟩ := s
    obtain ⟨hl, h⟩ := h
    wp_walk using wpAny_loadPart' hl, wpAny_load hl
    exact ⟨_, rfl, h⟩
theorem list_dec {K : PySem.W.Frag} (l y C dy : Addr) (hsub : PySem.W.subIn K (.ref C) (.type "list") = some false) :
    Meets (Builtin.«list.__eq__» ⟨[.ref l, .ref y], []⟩) (fun _ R s => K.In s.heap ∧ s.heap.get? y = some (PySem.W.instObj C dy) ∧ (∃ o, s.heap.get? l = some o ∧ o.cls = .type "list") ∧ R (.ok (.ret .notImplemented)) s) :=
  .of_wp fun prog w A R s h => by
    obtain ⟨hp, g, d, tk, os⟩ := s
    obtain ⟨X, hl, ⟨o, ho, hc⟩, h⟩ := h
    have f1 := PySem.W.looks_subIn (M := model prog w) X hsub
    have f2 : ∀ {A' : Around} {Q' : Bool → Shared → Prop} {E' : Value → Shared → Prop}, Q' false ⟨hp, g, d, tk, os⟩ →
        wpAny (model prog w) A' (isInstance (.ref y) (.type "list")) Q' E' ⟨hp, g, d, tk, os⟩ := fun {A' Q' E'} q =>
      wpAny_bind (wpAny_typeOf_ref hl (f1.here q))
    wp_walk using f2
    exact ⟨_, rfl, h⟩
theorem tuple_dec {K : PySem.W.Frag} (l y C dy : Addr) (hsub : PySem.W.subIn K (.ref C) (.type "tuple") = some false) :
    Meets (Builtin.«tuple.__eq__» ⟨[.ref l, .ref y], []⟩) (fun _ R s => K.In s.heap ∧ s.heap.get? y = some (PySem.W.instObj C dy) ∧ (∃ o, s.heap.get? l = some o ∧ o.cls = .type "tuple") ∧ R (.ok (.ret .notImplemented)) s) :=
  .of_wp fun prog w A R s h => by
    obtain ⟨hp, g, d, tk, os⟩ := s
    obtain ⟨X, hl, ⟨o, ho, hc⟩, h⟩ := h
    have f1 := PySem.W.looks_subIn (M := model prog w) X hsub
    have f2 : ∀ {A' : Around} {Q' : Bool → Shared → Prop} {E' : Value → Shared → Prop}, Q' false ⟨hp, g, d, tk, os⟩ →
        wpAny (model prog w) A' (isInstance (.ref y) (.type "tuple")) Q' E' ⟨hp, g, d, tk, os⟩ := fun {A' Q' E'} q =>
      wpAny_bind (wpAny_typeOf_ref hl (f1.here q))
    wp_walk using f2
    exact ⟨_, rfl, h⟩
end
section
variable {prog : Program} {w : World} {A : Around} {E : Value → Shared → Prop} {s : Shared} {Q : Value → Shared → Prop} {K : PySem.W.Frag}
  {y C f : Addr} {oy : Obj} {od : Option Obj} {a : Value} {T id : String}
/-- a thing of a built-in type on the left, which declines; the own __eq__ of the right one is asked -/
theorem rc_eq_refl (X : K.In s.heap) (I : PySem.W.InstAt s.heap y oy C od) (ha : s.TypeIs a T) (hsub : PySem.W.subIn K (.ref C) (.type T) = some false)
    (h1 : Slot T "__eq__" id) (hc1 : ∀ Q' : Value → Shared → Prop, Q' .notImplemented s → wpAny (model prog w) A (call (.builtin id) [a, .ref y]) Q' E s)
    (hs : PySem.W.findIn K (.ref C) "__eq__" = some (some (.ref f))) (hf : PySem.W.isFn K (.ref f) = true) (hu : A.units < cLine)
    (h : wpAny (model prog w) A (call (.ref f) [.ref y, a]) (PySem.W.CmpBack Q) E s) :
    wpAny (model prog w) A (richCompare .Eq a (.ref y)) Q E s := by
  have two : wpAny (model prog w) A (tryCompare (.ref y) "__eq__" a) (fun r s' => ∃ v, r = some v ∧ Q v s') E s := by
    unfold tryCompare
    refine wpAny_bind (PySem.W.ifBound_K X I hs hf (wpAny_mono h (fun v s' hv => ?_) fun _ _ e => e))
    cases v <;> first | exact hv.elim | exact wpAny_pure ⟨_, rfl, hv⟩
  simp only [richCompare, ha.oneThing_none, cmpInfo]
  refine wpAny_holding (wpAny_bind (wpAny_cRoomFor hu ?_))
  refine wpAny_bind (wpAny_typeOf ha (wpAny_bind (I.type.here ?_)))
  rw [if_pos (show (Value.type T != Value.ref C) = true by simp)]
  refine wpAny_bind ((PySem.W.looks_subIn X hsub).here ?_)
  simp only [Bool.false_eq_true, if_false, Bool.not_false, if_true]
  refine wpAny_bind (m := tryCompare a _ (.ref y)) (wpAny_tryCompare_declines ha h1 (hc1 _ ⟨rfl, ?_⟩))
  refine wpAny_bind (m := tryCompare (.ref y) _ a) (wpAny_mono two (fun r s' z => ?_) fun _ _ e => e)
  obtain ⟨v, rfl, hq⟩ := z
  exact wpAny_pure hq
end

/-! ### == by an own __eq__ -/
/-- what the class says of its __eq__ -/
structure EqC (K : PySem.W.Frag) (C f : Addr) : Prop where
  eq : PySem.W.findIn K (.ref C) "__eq__" = some (some (.ref f))
  fn : PySem.W.isFn K (.ref f) = true
  ne : PySem.W.findIn K (.ref C) "__ne__" = some (some (.builtin "object.__ne__"))
  ob : PySem.W.mroIn K C (.type "object") = some true
  sN : PySem.W.subIn K (.ref C) (.type "NoneType") = some false
  sB : PySem.W.subIn K (.ref C) (.type "bool") = some false
  sI : PySem.W.subIn K (.ref C) (.type "int") = some false
  sS : PySem.W.subIn K (.ref C) (.type "str") = some false
  sL : PySem.W.subIn K (.ref C) (.type "list") = some false
  sT : PySem.W.subIn K (.ref C) (.type "tuple") = some false
/-- a thing beside an instance of C -/
inductive Beside (K : PySem.W.Frag) (C : Addr) (H : Hp) : V → Prop
  | non : Beside K C H .non
  | bl (b : Bool) : Beside K C H (.bl b)
  | int (i : Int) : Beside K C H (.int i)
  | str (z : Str) : Beside K C H (.str z)
  | lst {a : Addr} {xs : List V} : H a = some (.lst xs) → Beside K C H (.ref a)
  | tup {a : Addr} {xs : List V} : H a = some (.tup xs) → Beside K C H (.ref a)
  | ins {a dx : Addr} {fs : List (Str × V)} : H a = some (.ins C dx fs) → Beside K C H (.ref a)
section
variable {X : Cx} {C f : Addr} {fd : FuncData} {ps : List Str} {sp : Sp} {n : Nat}
theorem run_eq {A : Around} {pins : List (Addr × Obj)} {σ : L2.St} {H : Hp} {s : Shared} {Q : VK} {v : V} {u : Value} {a : Addr}
    (F : FnOk X.prog X.w X.K X.mg X.base CX0 n f fd ps sp) (sb : L2.Sub X n A) (hb : L2.Binds X.K fd ps []) (I : Inv X pins σ H s) (r : RelV v u)
    (h : sp [.ref a, v] H (fun z H' => ∃ b, z = .bl b ∧ Q z H') E0) :
    wpAny (model X.prog X.w) A (call (.ref f) [.ref a, u]) (fun z s' => ∃ b H', z = .bool b ∧ Inv X pins σ H' s' ∧ Q (.bl b) H') X.xe s := by
  have e0 : Env0 X.prog X.w X.K X.mg X.base A X.stack s H := by
    have e := I.env0
    exact ⟨by rw [sb.fr]; exact e.frames, e.mod, e.bs, e.bsz, e.funs, e.frf, e.hok, e.bare⟩
  have r2 : Vals [V.ref a, v] [Value.ref a, u] := .cons rfl (.cons r .nil)
  have hl := F.len _ _ _ _ h
  have b := hb s [.ref a, u] I.kIn (by simpa using hl)
  rw [List.append_nil] at b
  refine wpAny_call (codeAny_mono (F.run A X.stack s H ⟨[.ref a, u], []⟩ [.ref a, u] [.ref a, v] _ E0 sb.room e0 b r2 h) fun r s' hq => ?_)
  match r, hq with
  | .error _, hq => exact hq.elim
  | .ok .next, hq => exact hq.elim
  | .ok .brk, hq => exact hq.elim
  | .ok .cont, hq => exact hq.elim
  | .ok (.ret z), hq =>
    obtain ⟨z', H', I', rz, b, rfl, q⟩ := I.after hq
    cases rz
    exact ⟨b, H', rfl, I', q⟩
theorem rc_own (EC : EqC X.K C f) {A : Around} {pins : List (Addr × Obj)} {σ : L2.St} {H : Hp} {s : Shared} {Q : VK} {v : V} {u : Value} {a dx : Addr} {fs : List (Str × V)}
    (F : FnOk X.prog X.w X.K X.mg X.base CX0 n f fd ps sp) (sb : L2.Sub X n A) (hb : L2.Binds X.K fd ps []) (I : Inv X pins σ H s) (r : RelV v u)
    (ha : H a = some (.ins C dx fs)) (hv : Beside X.K C H v) (h : sp [.ref a, v] H (fun z H' => ∃ b, z = .bl b ∧ Q z H') E0) :
    wpAny (model X.prog X.w) A (richCompare .Eq (.ref a) u) (fun z s' => ∃ b H', z = .bool b ∧ Inv X pins σ H' s' ∧ Q (.bl b) H') X.xe s := by
  obtain ⟨mA, J, _⟩ := ins_get I.hok ha
  obtain ⟨od, J, _⟩ := J.look
  obtain ⟨m, hF⟩ := I.fr
  have nt : ∀ T : String, (PySem.W.subIn X.K (.type T) (.ref C) == some false) = true → PySem.W.notFirst X.K C (.type T) = true := fun T e => by
    unfold PySem.W.notFirst
    rw [e, Bool.or_true]
  have tyv : ∃ t, PySem.W.Looks (model X.prog X.w) s.heap (typeOf u) t ∧ PySem.W.notFirst X.K C t = true := by
    cases hv with
    | non => obtain ⟨P, Z, p, _⟩ := kit_of I r (.base .non); exact ⟨_, Z.ty _ _ I.kIn p, nt _ (by rfl)⟩
    | bl b => obtain ⟨P, Z, p, _⟩ := kit_of I r (.base (.bl b)); exact ⟨_, Z.ty _ _ I.kIn p, nt _ (by rfl)⟩
    | int i => obtain ⟨P, Z, p, _⟩ := kit_of I r (.base (.int i)); exact ⟨_, Z.ty _ _ I.kIn p, nt _ (by rfl)⟩
    | str z => obtain ⟨P, Z, p, _⟩ := kit_of I r (.base (.str z)); exact ⟨_, Z.ty _ _ I.kIn p, nt _ (by rfl)⟩
    | lst e => obtain ⟨P, Z, p, _⟩ := kit_of I r (.base (.lst e)); exact ⟨_, Z.ty _ _ I.kIn p, nt _ (by rfl)⟩
    | tup e => obtain ⟨P, Z, p, _⟩ := kit_of I r (.base (.tup e)); exact ⟨_, Z.ty _ _ I.kIn p, nt _ (by rfl)⟩
    | ins e =>
      cases r
      obtain ⟨mB, J', _⟩ := ins_get I.hok e
      obtain ⟨od', J', _⟩ := J'.look
      exact ⟨_, J'.type, by simp [PySem.W.notFirst]⟩
  obtain ⟨t, ht, hn⟩ := tyv
  refine PySem.W.cmp_K (op := .Eq) sb.room.units0 hF I.ok.mod.kin J ht hn EC.eq EC.fn (wpAny_mono (run_eq F sb hb I r h) (fun z s' hz => ?_) fun _ _ x => x)
  obtain ⟨b, H', rfl, I', q⟩ := hz
  exact ⟨b, H', rfl, I', q⟩
/-- the other way about -/
theorem rc_own_refl (EC : EqC X.K C f) {A : Around} {pins : List (Addr × Obj)} {σ : L2.St} {H : Hp} {s : Shared} {Q : VK} {v : V} {u : Value} {a dx : Addr} {fs : List (Str × V)}
    (F : FnOk X.prog X.w X.K X.mg X.base CX0 n f fd ps sp) (sb : L2.Sub X n A) (hb : L2.Binds X.K fd ps []) (I : Inv X pins σ H s) (r : RelV v u)
    (ha : H a = some (.ins C dx fs)) (hv : Beside X.K C H v) (hni : ∀ b dy gs, v = .ref b → H b ≠ some (.ins C dy gs)) (h : sp [.ref a, v] H (fun z H' => ∃ b, z = .bl b ∧ Q z H') E0) :
    wpAny (model X.prog X.w) A (richCompare .Eq u (.ref a)) (fun z s' => ∃ b H', z = .bool b ∧ Inv X pins σ H' s' ∧ Q (.bl b) H') X.xe s := by
  obtain ⟨mA, J, _⟩ := ins_get I.hok ha
  have hob := J.obj
  obtain ⟨od, J, _⟩ := J.look
  have fin := wpAny_mono (run_eq (A := A) F sb hb I r h) (Q' := PySem.W.CmpBack fun z s' => ∃ b H', z = .bool b ∧ Inv X pins σ H' s' ∧ Q (.bl b) H') (fun z s' hz => by
    obtain ⟨b, H', rfl, I', q⟩ := hz
    exact ⟨b, H', rfl, I', q⟩) fun _ _ x => x
  cases hv with
  | non =>
    cases r
    exact rc_eq_refl I.kIn J rfl EC.sN PySem.F.slot_NoneType_eq (fun Q' q => call_gives PySem.F.slot_NoneType_eq rfl PySem.F.entry_NoneType_eq (PySem.F.args_NoneType_eq_2 _ _) (SeqAt.NoneType___eq___none_ref_0 _) q) EC.eq EC.fn sb.room.units0 fin
  | bl b =>
    cases r
    exact rc_eq_refl I.kIn J rfl EC.sB PySem.F.slot_bool_eq (fun Q' q => call_meets PySem.F.slot_bool_eq rfl PySem.F.entry_int_eq (PySem.F.args_int_eq_2 _ _) (bool_dec b a C dx) ⟨hob, q⟩) EC.eq EC.fn sb.room.units0 fin
  | int i =>
    obtain ⟨t, rfl⟩ := r
    exact rc_eq_refl I.kIn J (typeIs_int _ _ _) EC.sI PySem.F.slot_int_eq (fun Q' q => call_meets PySem.F.slot_int_eq (typeIs_int _ _ _) PySem.F.entry_int_eq (PySem.F.args_int_eq_2 _ _) (int_dec i t a C dx) ⟨hob, q⟩) EC.eq EC.fn sb.room.units0 fin
  | str z =>
    obtain ⟨t, rfl⟩ := r
    exact rc_eq_refl I.kIn J (typeIs_str _ _ _) EC.sS PySem.F.slot_str_eq (fun Q' q => call_meets PySem.F.slot_str_eq (typeIs_str _ _ _) PySem.F.entry_str_eq (PySem.F.args_str_eq_2 _ _) (str_dec z t a C dx) ⟨hob, q⟩) EC.eq EC.fn sb.room.units0 fin
  | @lst l xs e =>
    cases r
    obtain ⟨_, its, k, _, h1⟩ := (show ObjOk X.prog X.w H s.heap l (.lst xs) from I.hok l _ e)
    exact rc_eq_refl I.kIn J ⟨_, h1, rfl⟩ EC.sL PySem.F.slot_list_eq (fun Q' q => call_meets PySem.F.slot_list_eq ⟨_, h1, rfl⟩ PySem.F.entry_list_eq (PySem.F.args_list_eq_2 _ _) (list_dec l a C dx EC.sL) ⟨I.kIn, hob, ⟨_, h1, rfl⟩, q⟩) EC.eq EC.fn sb.room.units0 fin
  | @tup l xs e =>
    cases r
    obtain ⟨_, its, _, o, h1, h2, _⟩ := (show ObjOk X.prog X.w H s.heap l (.tup xs) from I.hok l _ e)
    exact rc_eq_refl I.kIn J ⟨_, h1, h2⟩ EC.sT PySem.F.slot_tuple_eq (fun Q' q => call_meets PySem.F.slot_tuple_eq ⟨_, h1, h2⟩ PySem.F.entry_tuple_eq (PySem.F.args_tuple_eq_2 _ _) (tuple_dec l a C dx EC.sT) ⟨I.kIn, hob, ⟨_, h1, h2⟩, q⟩) EC.eq EC.fn sb.room.units0 fin
  | ins e => exact absurd e (hni _ _ _ rfl)
/-- x == y, one of them an instance of C -/
def rOwn (K : PySem.W.Frag) (C : Addr) (sp : Sp) : R2 := fun x y H Q =>
  (∃ a dx fs, x = .ref a ∧ H a = some (.ins C dx fs) ∧ Beside K C H y ∧ sp [x, y] H (fun z H' => ∃ b, z = .bl b ∧ Q z H') E0) ∨
  (∃ a dx fs, y = .ref a ∧ H a = some (.ins C dx fs) ∧ Beside K C H x ∧ (∀ b dy gs, x = .ref b → H b ≠ some (.ins C dy gs)) ∧ sp [y, x] H (fun z H' => ∃ b, z = .bl b ∧ Q z H') E0)
theorem op_own (EC : EqC X.K C f) (F : FnOk X.prog X.w X.K X.mg X.base CX0 n f fd ps sp) (hr : Room n X.A) (hb : L2.Binds X.K fd ps []) :
    OpR X (compareOp .Eq) (rOwn X.K C sp) := by
  intro pins s σ H x y v u Q I rx ry h
  rcases h with ⟨a, dx, fs, rfl, ha, hv, h⟩ | ⟨a, dx, fs, rfl, ha, hv, hni, h⟩
  · cases rx
    refine wpAny_mono (rc_own EC F ⟨hr, rfl⟩ hb I ry ha hv h) (fun z s' hz => ?_) fun _ _ x => x
    obtain ⟨b, H', rfl, I', q⟩ := hz
    exact ⟨.bl b, H', I', rfl, q⟩
  · cases ry
    refine wpAny_mono (rc_own_refl EC F ⟨hr, rfl⟩ hb I rx ha hv hni h) (fun z s' hz => ?_) fun _ _ x => x
    obtain ⟨b, H', rfl, I', q⟩ := hz
    exact ⟨.bl b, H', I', rfl, q⟩
/-- == within a list: the same object is equal to itself -/
theorem eqb_own (EC : EqC X.K C f) {A : Around} {pins : List (Addr × Obj)} {σ : L2.St} {H : Hp} {s : Shared} {Q : VK} {a b dx dy : Addr} {fs gs : List (Str × V)}
    (F : FnOk X.prog X.w X.K X.mg X.base CX0 n f fd ps sp) (sb : L2.Sub X n A) (hb : L2.Binds X.K fd ps []) (I : Inv X pins σ H s)
    (ha : H a = some (.ins C dx fs)) (hb' : H b = some (.ins C dy gs)) (hs : a = b → Q (.bl true) H) (h : a ≠ b → sp [.ref a, .ref b] H (fun z H' => ∃ b, z = .bl b ∧ Q z H') E0) :
    wpAny (model X.prog X.w) A (eqBool (.ref a) (.ref b)) (fun r s' => ∃ H', Inv X pins σ H' s' ∧ Q (.bl r) H') X.xe s := by
  by_cases e : a = b
  · subst e
    exact SeqAt.EqAt.same (A := A) (s := s) (.ref a) X.prog X.w X.xe _ ⟨H, I, hs rfl⟩
  · refine GQ.eqBool_refG e (wpAny_mono (rc_own (v := .ref b) EC F sb hb I rfl ha (.ins hb') (h e)) (fun z s' hz => ?_) fun _ _ x => x)
    obtain ⟨r, H', rfl, I', q⟩ := hz
    exact ⟨r, rfl, H', I', q⟩
end
/-! ### x in [y], [y] == [x] -/
section
variable {prog : Program} {w : World} {A : Around} {E : Value → Shared → Prop} {s : Shared}
open AutoSeq1 (wpAny_loadPart')
open MeetsSeq MeetsSeq3
def OneAt (l : Addr) (y : Value) (s : Shared) : Prop := ∃ (items : Array Value) (n : Nat), s.heap.get? l = some { cls := .type "list", data := .seq items n } ∧ items.size = 1 ∧ items[0]? = some y
theorem loop_none {R : Result → Shared → Prop} {l : Addr} {x y : Value} (hl : OneAt l y s) (h : R (.ok (.ret (.bool false))) s) (i : Nat) (h1 : i = 1) :
    wpAny (model prog w) A.in1 (Builtin.«list.__contains__.loop» ⟨[.ref l, x, rawInt i], []⟩) (GQ.FinOf prog w A R) (fun e s' => R (.error e) s') s := by
  obtain ⟨items, n, hl, hz, _⟩ := hl
  obtain ⟨hp, g, d, tk, os⟩ := s
  wp_walk using wpAny_loadPart' hl
  have hi : items[((i : Nat) : Int).toNat]? = none := by simp; omega
  rw [hi]
  wp_walk
  exact h
theorem loop_one {R : Result → Shared → Prop} {l : Addr} {x y : Value} (hl : OneAt l y s)
    (h : wpAny (model prog w) A.in1 (eqBool y x) (fun r s' => OneAt l y s' ∧ R (.ok (.ret (.bool r))) s') (fun e s' => R (.error e) s') s) (i : Nat) (h0 : i = 0) :
    wpAny (model prog w) A.in1 (Builtin.«list.__contains__.loop» ⟨[.ref l, x, rawInt i], []⟩) (GQ.FinOf prog w A R) (fun e s' => R (.error e) s') s := by
  obtain ⟨items, n, hl, hz, hy⟩ := hl
  obtain ⟨hp, g, d, tk, os⟩ := s
  wp_walk using wpAny_loadPart' hl
  have hi : items[((i : Nat) : Int).toNat]? = some y := by
    rw [h0]
    exact hy
  rw [hi]
  refine wpAny_bind (wpAny_mono h (fun r s2 hr => ?_) fun _ _ x => x)
  obtain ⟨h1, h2⟩ := hr
  cases r with
  | true =>
    obtain ⟨hp2, g2, d2, tk2, os2⟩ := s2
    wp_walk
    exact h2
  | false =>
    have last := loop_none (prog := prog) (w := w) (A := A) (x := x) h1 h2 (i + 1) (by omega)
    have hc : ((i : Int) + 1) = ((i + 1 : Nat) : Int) := by omega
    obtain ⟨hp2, g2, d2, tk2, os2⟩ := s2
    wp_walk
    rw [hc]
    exact ⟨plainId_quiet plain_contains_loop _, codeAny_builtin entry_contains_loop (by
      rw [Around.under_plainId plain_contains_loop _]
      exact last)⟩
theorem in_one {Q : Value → Shared → Prop} {l : Addr} {x y : Value} (hl : OneAt l y s)
    (h : wpAny (model prog w) A.in1 (eqBool y x) (fun r s' => OneAt l y s' ∧ Q (.bool r) s') E s) : wpAny (model prog w) A (compareOp .In x (.ref l)) Q E s := by
  obtain ⟨items, n, ho, _, _⟩ := id hl
  show wpAny _ A (do return .bool (← contains (.ref l) x)) Q E s
  refine wpAny_bind (wpAny_contains_slot ⟨_, ho, rfl⟩ PySem.F.slot_list_contains (GQ.call_here PySem.F.slot_list_contains ⟨_, ho, rfl⟩ PySem.F.entry_list_contains (PySem.F.args_list_contains_2 _ _) ?_))
  have first := loop_one (prog := prog) (w := w) (A := A) (R := wants (fun r s' => wpAny (model prog w) A (truthy r) (fun a s' => wpAny (model prog w) A (pure (Value.bool a)) Q E s') E s') E) hl
    (wpAny_mono h (fun r s' hr => ⟨hr.1, wpAny_truthy_bool (wpAny_pure hr.2)⟩) fun _ _ x => x) 0 rfl
  obtain ⟨hp, g, d, tk, os⟩ := s
  wp_walk using wpAny_loadPart' ho
  exact ⟨plainId_quiet plain_contains_loop _, codeAny_builtin entry_contains_loop (by
    rw [Around.under_plainId plain_contains_loop _]
    exact first)⟩
theorem eqloop_end {R : Result → Shared → Prop} {l b : Addr} {x y : Value} (hl : OneAt l y s) (hb : OneAt b x s) (h : R (.ok (.ret (.bool true))) s) (i : Nat) (h1 : i = 1) :
    wpAny (model prog w) A.in1 (Builtin.«list.__eq__.loop» ⟨[.ref l, .ref b, rawInt i, rawInt 2], []⟩) (GQ.FinOf prog w A R) (fun e s' => R (.error e) s') s := by
  obtain ⟨items, n, hl, hz, _⟩ := hl
  obtain ⟨items2, n2, hb, hz2, _⟩ := hb
  obtain ⟨hp, g, d, tk, os⟩ := s
  wp_walk using wpAny_loadPart' hl, wpAny_loadPart' hb
  have hi1 : items[((i : Nat) : Int).toNat]? = none := by simp; omega
  have hi2 : items2[((i : Nat) : Int).toNat]? = none := by simp; omega
  rw [hi1, hi2]
  wp_walk using wpAny_loadPart' hl, wpAny_loadPart' hb
  show R (.ok (.ret (.bool (items.size == items2.size)))) _
  rw [hz, hz2]
  exact h
theorem eqloop_one {R : Result → Shared → Prop} {l b : Addr} {x y : Value} (hl : OneAt l y s) (hb : OneAt b x s)
    (h : wpAny (model prog w) A.in1 (eqBool y x) (fun r s' => OneAt l y s' ∧ OneAt b x s' ∧ R (.ok (.ret (.bool r))) s') (fun e s' => R (.error e) s') s) (i : Nat) (h0 : i = 0) :
    wpAny (model prog w) A.in1 (Builtin.«list.__eq__.loop» ⟨[.ref l, .ref b, rawInt i, rawInt 2], []⟩) (GQ.FinOf prog w A R) (fun e s' => R (.error e) s') s := by
  obtain ⟨items, n, hl, hz, hy⟩ := hl
  obtain ⟨items2, n2, hb, hz2, hy2⟩ := hb
  obtain ⟨hp, g, d, tk, os⟩ := s
  wp_walk using wpAny_loadPart' hl, wpAny_loadPart' hb
  have hi1 : items[((i : Nat) : Int).toNat]? = some y := by
    rw [h0]
    exact hy
  have hi2 : items2[((i : Nat) : Int).toNat]? = some x := by
    rw [h0]
    exact hy2
  rw [hi1, hi2]
  refine wpAny_bind (wpAny_mono h (fun r s2 hr => ?_) fun _ _ x => x)
  obtain ⟨h1, h2, h3⟩ := hr
  cases r with
  | true =>
    have last := eqloop_end (prog := prog) (w := w) (A := A) h1 h2 h3 (i + 1) (by omega)
    have hc : ((i : Int) + 1) = ((i + 1 : Nat) : Int) := by omega
    obtain ⟨hp2, g2, d2, tk2, os2⟩ := s2
    wp_walk
    rw [hc]
    exact ⟨plainId_quiet plain_eq_loop _, codeAny_builtin entry_eq_loop (by
      rw [Around.under_plainId plain_eq_loop _]
      exact last)⟩
  | false =>
    obtain ⟨items3, n3, hl3, hz3, hy3⟩ := h1
    obtain ⟨items4, n4, hb4, hz4, hy4⟩ := h2
    obtain ⟨hp2, g2, d2, tk2, os2⟩ := s2
    wp_walk using wpAny_loadPart' hl3, wpAny_loadPart' hb4
    have hi3 : items3[((i : Nat) : Int).toNat]? = some y := by
      rw [h0]
      exact hy3
    have hi4 : items4[((i : Nat) : Int).toNat]? = some x := by
      rw [h0]
      exact hy4
    rw [hi3, hi4]
    wp_walk
    exact h3
/-- two lists of one thing each -/
theorem eq_one {Q : Value → Shared → Prop} {l b : Addr} {x y : Value} (hu : A.units < cLine) (hl : OneAt l y s) (hb : OneAt b x s)
    (h : wpAny (model prog w) A.in1 (eqBool y x) (fun r s' => OneAt l y s' ∧ OneAt b x s' ∧ Q (.bool r) s') E s) : wpAny (model prog w) A (richCompare .Eq (.ref l) (.ref b)) Q E s := by
  obtain ⟨items, n, ho, hz, hy⟩ := id hl
  obtain ⟨items2, n2, ho2, hz2, hy2⟩ := id hb
  refine wpAny_richCompare_same_room (op := .Eq) ⟨_, ho, rfl⟩ ⟨_, ho2, rfl⟩ PySem.F.slot_list_eq (GQ.call_here PySem.F.slot_list_eq ⟨_, ho, rfl⟩ PySem.F.entry_list_eq (PySem.F.args_list_eq_2 _ _) ?_) hu
  have first := eqloop_one (prog := prog) (w := w) (A := A) (R := wants (fun v s' => v ≠ .notImplemented ∧ Q v s') E) hl hb
    (wpAny_mono h (fun r s' hr => ⟨hr.1, hr.2.1, (fun z => nomatch z), hr.2.2⟩) fun _ _ x => x) 0 rfl
  have f3 := AutoSeq1.sub_list_list
  have hne : ¬ (items.size != items2.size) = true := by simp [hz, hz2]
  obtain ⟨hp, g, d, tk, os⟩ := s
  wp_walk using wpAny_loadPart' ho, wpAny_loadPart' ho2
  exact ⟨plainId_quiet plain_eq_loop _, codeAny_builtin entry_eq_loop (by
    rw [Around.under_plainId plain_eq_loop _]
    exact first)⟩
end
/-! ### the same over the layer -/
section
variable {X : Cx} {C f : Addr} {fd : FuncData} {ps : List Str} {sp : Sp} {n : Nat}
theorem one_at {pins : List (Addr × Obj)} {σ : L2.St} {H : Hp} {s : Shared} {l a : Addr} (I : Inv X pins σ H s) (h : H l = some (.lst [.ref a])) : OneAt l (.ref a) s := by
  obtain ⟨_, its, k, rv, h1⟩ := (show ObjOk X.prog X.w H s.heap l (.lst [.ref a]) from I.hok l _ h)
  cases rv with
  | cons r1 r2 =>
    cases r2
    cases r1
    exact ⟨_, _, h1, rfl, rfl⟩
/-- x in [y] -/
theorem op_in_one (EC : EqC X.K C f) (F : FnOk X.prog X.w X.K X.mg X.base CX0 n f fd ps sp) (hr : Room (n + 1) X.A) (hb : L2.Binds X.K fd ps []) :
    OpR X (compareOp .In) (fun x y H Q => ∃ (l a b dx dy : Addr) (fs gs : List (Str × V)), x = .ref a ∧ y = .ref l ∧ H l = some (.lst [.ref b]) ∧ H a = some (.ins C dx fs) ∧ H b = some (.ins C dy gs) ∧
      (b = a → Q (.bl true) H) ∧ (b ≠ a → sp [.ref b, .ref a] H (fun z H' => ∃ r, z = .bl r ∧ H' l = some (.lst [.ref b]) ∧ Q z H') E0)) := by
  intro pins s σ H x y v u Q I rx ry h
  obtain ⟨l, a, b, dx, dy, fs, gs, rfl, rfl, hl, ha, hb', h1, h2⟩ := h
  cases rx
  cases ry
  refine in_one (one_at I hl) (wpAny_mono (eqb_own (Q := fun z H' => H' l = some (.lst [.ref b]) ∧ Q z H') EC F ⟨hr.in1, rfl⟩ hb I hb' ha (fun e => ⟨hl, h1 e⟩) h2) (fun r s' hz => ?_) fun _ _ x => x)
  obtain ⟨H', I', q1, q2⟩ := hz
  exact ⟨one_at I' q1, .bl r, H', I', rfl, q2⟩
/-- [x] == [y] -/
theorem op_eq_one (EC : EqC X.K C f) (F : FnOk X.prog X.w X.K X.mg X.base CX0 n f fd ps sp) (hr : Room (n + 1) X.A) (hb : L2.Binds X.K fd ps []) :
    OpR X (compareOp .Eq) (fun x y H Q => ∃ (l k a b dx dy : Addr) (fs gs : List (Str × V)), x = .ref l ∧ y = .ref k ∧ H l = some (.lst [.ref b]) ∧ H k = some (.lst [.ref a]) ∧ H a = some (.ins C dx fs) ∧ H b = some (.ins C dy gs) ∧
      (b = a → Q (.bl true) H) ∧ (b ≠ a → sp [.ref b, .ref a] H (fun z H' => ∃ r, z = .bl r ∧ H' l = some (.lst [.ref b]) ∧ H' k = some (.lst [.ref a]) ∧ Q z H') E0)) := by
  intro pins s σ H x y v u Q I rx ry h
  obtain ⟨l, k, a, b, dx, dy, fs, gs, rfl, rfl, hl, hk, ha, hb', h1, h2⟩ := h
  cases rx
  cases ry
  refine eq_one hr.units0 (one_at I hl) (one_at I hk) (wpAny_mono (eqb_own (Q := fun z H' => H' l = some (.lst [.ref b]) ∧ H' k = some (.lst [.ref a]) ∧ Q z H') EC F ⟨hr.in1, rfl⟩ hb I hb' ha (fun e => ⟨hl, hk, h1 e⟩) h2) (fun r s' hz => ?_) fun _ _ x => x)
  obtain ⟨H', I', q1, q2, q3⟩ := hz
  exact ⟨one_at I' q1, one_at I' q2, .bl r, H', I', rfl, q3⟩
end
/-! ### the same, the answer told ahead, the heap as it was -/
section
variable {X : Cx} {C f : Addr} {fd : FuncData} {ps : List Str} {sp : Sp} {n : Nat}
theorem op_in_r (EC : EqC X.K C f) (F : FnOk X.prog X.w X.K X.mg X.base CX0 n f fd ps sp) (hr : Room (n + 1) X.A) (hb : L2.Binds X.K fd ps []) :
    OpR X (compareOp .In) (fun x y H Q => ∃ (r : Bool) (l a b dx dy : Addr) (fs gs : List (Str × V)), x = .ref a ∧ y = .ref l ∧ H l = some (.lst [.ref b]) ∧ H a = some (.ins C dx fs) ∧ H b = some (.ins C dy gs) ∧
      (b = a → r = true) ∧ sp [.ref b, .ref a] H (fun z H' => ∃ k, z = .bl k ∧ z = .bl r ∧ H' = H) E0 ∧ Q (.bl r) H) := by
  intro pins s σ H x y v u Q I rx ry h
  obtain ⟨r, l, a, b, dx, dy, fs, gs, rfl, rfl, hl, ha, hb', h1, h2, q⟩ := h
  cases rx
  cases ry
  refine in_one (one_at I hl) (wpAny_mono (eqb_own (Q := fun z H' => z = .bl r ∧ H' = H) EC F ⟨hr.in1, rfl⟩ hb I hb' ha (fun e => ⟨by rw [h1 e], rfl⟩) fun _ => h2) (fun k s' hz => ?_) fun _ _ x => x)
  obtain ⟨H', I', e, rfl⟩ := hz
  cases e
  exact ⟨one_at I' hl, .bl _, _, I', rfl, q⟩
theorem op_eq_r (EC : EqC X.K C f) (F : FnOk X.prog X.w X.K X.mg X.base CX0 n f fd ps sp) (hr : Room (n + 1) X.A) (hb : L2.Binds X.K fd ps []) :
    OpR X (compareOp .Eq) (fun x y H Q => ∃ (r : Bool) (l k a b dx dy : Addr) (fs gs : List (Str × V)), x = .ref l ∧ y = .ref k ∧ H l = some (.lst [.ref b]) ∧ H k = some (.lst [.ref a]) ∧ H a = some (.ins C dx fs) ∧ H b = some (.ins C dy gs) ∧
      (b = a → r = true) ∧ sp [.ref b, .ref a] H (fun z H' => ∃ k, z = .bl k ∧ z = .bl r ∧ H' = H) E0 ∧ Q (.bl r) H) := by
  intro pins s σ H x y v u Q I rx ry h
  obtain ⟨r, l, k, a, b, dx, dy, fs, gs, rfl, rfl, hl, hk, ha, hb', h1, h2, q⟩ := h
  cases rx
  cases ry
  refine eq_one hr.units0 (one_at I hl) (one_at I hk) (wpAny_mono (eqb_own (Q := fun z H' => z = .bl r ∧ H' = H) EC F ⟨hr.in1, rfl⟩ hb I hb' ha (fun e => ⟨by rw [h1 e], rfl⟩) fun _ => h2) (fun c s' hz => ?_) fun _ _ x => x)
  obtain ⟨H', I', e, rfl⟩ := hz
  cases e
  exact ⟨one_at I' hl, one_at I' hk, .bl _, _, I', rfl, q⟩
end
/-! ### != by an own __eq__ -/
section
variable {prog : Program} {w : World} {A : Around} {E : Value → Shared → Prop} {s : Shared} {K : PySem.W.Frag} {x C f : Addr} {ox : Obj} {od : Option Obj}
theorem ifBound_B {M : Model} {name : Str} {id : String} {args : List Value} {Q : Option Value → Shared → Prop} (X : K.In s.heap) (I : PySem.W.InstAt s.heap x ox C od)
    (hs : PySem.W.findIn K (.ref C) name = some (some (.builtin id))) (hb : ∀ self, bindSpecial (.builtin id) self = pure (.builtin id, [self]))
    (h : wpAny M A (call (.builtin id) (.ref x :: args)) (fun v => Q (some v)) E s) : wpAny M A (callSpecialIfBound? (.ref x) name args) Q E s := by
  simp only [callSpecialIfBound?, bindSpecialIfBound?]
  refine wpAny_holding (wpAny_bind (wpAny_bind (wpAny_bind (I.type.here ((PySem.W.looks_findIn X hs).here ?_)))))
  refine wpAny_bind (wpAny_askSetting (wpAny_ite ?_))
  have fin : wpAny M A (call (.builtin id) ([.ref x] ++ args) >>= fun v => pure (some v)) Q E s := wpAny_bind (wpAny_mono h (fun v s' h' => wpAny_pure h') fun _ _ h' => h')
  have bd : PySem.W.Looks M s.heap (bindSpecial (.builtin id) (.ref x)) (.builtin id, [.ref x]) := PySem.W.Looks.of_pure (hb _)
  split
  · exact wpAny_bind (bd.here (wpAny_pure (by exact fin)))
  · exact wpAny_tryCatch (wpAny_bind (bd.here (wpAny_pure (by exact fin))))
theorem ne_own {Q : Value → Shared → Prop} {y : Addr} {oy : Obj} {oe : Option Obj} (hu : A.units + 1 < cLine) (EC : EqC K C f) (X : K.In s.heap) (I : PySem.W.InstAt s.heap x ox C od) (J : PySem.W.InstAt s.heap y oy C oe)
    (h : wpAny (model prog w) A.in1 (call (.ref f) [.ref x, .ref y]) (fun v s' => ∃ b, v = .bool b ∧ Q (.bool (!b)) s') E s) : wpAny (model prog w) A (richCompare .NotEq (.ref x) (.ref y)) Q E s := by
  have one : wpAny (model prog w) A (tryCompare (.ref x) "__ne__" (.ref y)) (fun r s' => ∃ v, r = some v ∧ Q v s') E s := by
    unfold tryCompare
    refine wpAny_bind (ifBound_B X I EC.ne PySem.F.slot_object_ne.bind ?_)
    refine wpAny_call (codeAny_call_builtin PySem.F.slot_object_ne.plain PySem.F.cmpEntry_ne (PySem.W.check_slot PySem.F.cmpKind_ne PySem.F.cmpSplit_ne (I.type.andThen (PySem.W.looks_mroIn X EC.ob)) (PySem.F.cmpArgs_ne _ _) ?_))
    unfold Builtin.«object.__ne__»
    refine wpAny_bind (m := slotArgs "__ne__" 1 _) (wpAny_pure ?_)
    refine wpAny_bind (m := cRoomFor _ _) (wpAny_cRoomFor (by show A.units + 1 < cLine; exact hu) ?_)
    refine wpAny_bind (m := callSpecialIfBound? (.ref x) (Str.ofString "__eq__") _) (PySem.W.ifBound_K X I EC.eq EC.fn (wpAny_mono h (fun v s' hv => ?_) fun _ _ e => e))
    obtain ⟨b, rfl, q⟩ := hv
    refine wpAny_bind (m := truthy (.bool b)) (wpAny_truthy_bool ?_)
    exact wpAny_pure (wpAny_pure ⟨_, rfl, q⟩)
  unfold richCompare
  simp only [oneThing_ref, cmpInfo]
  refine wpAny_holding (wpAny_bind (wpAny_cRoomFor (by omega) ?_))
  refine wpAny_bind (I.type.here (wpAny_bind (J.type.here ?_)))
  rw [if_neg (by simp)]
  refine wpAny_bind (wpAny_pure ?_)
  simp only [Bool.false_eq_true, if_false]
  refine wpAny_bind (m := tryCompare (.ref x) _ (.ref y)) (wpAny_mono one (fun r s' z => ?_) fun _ _ e => e)
  obtain ⟨v, rfl, hq⟩ := z
  exact wpAny_pure hq
end
section
variable {X : Cx} {C f : Addr} {fd : FuncData} {ps : List Str} {sp : Sp} {n : Nat}
theorem op_ne_own (EC : EqC X.K C f) (F : FnOk X.prog X.w X.K X.mg X.base CX0 n f fd ps sp) (hr : Room (n + 1) X.A) (hb : L2.Binds X.K fd ps []) :
    OpR X (compareOp .NotEq) (fun x y H Q => ∃ (a b dx dy : Addr) (fs gs : List (Str × V)), x = .ref a ∧ y = .ref b ∧ H a = some (.ins C dx fs) ∧ H b = some (.ins C dy gs) ∧
      sp [.ref a, .ref b] H (fun z H' => ∃ k, z = .bl k ∧ ∃ r, z = .bl r ∧ Q (.bl (!r)) H') E0) := by
  intro pins s σ H x y v u Q I rx ry h
  obtain ⟨a, b, dx, dy, fs, gs, rfl, rfl, ha, hb', h1⟩ := h
  cases rx
  cases ry
  obtain ⟨mA, J, _⟩ := ins_get I.hok ha
  obtain ⟨od, J, _⟩ := J.look
  obtain ⟨mB, J', _⟩ := ins_get I.hok hb'
  obtain ⟨od', J', _⟩ := J'.look
  refine ne_own (by have := hr.units; omega) EC I.kIn J J' (wpAny_mono (run_eq (v := .ref b) (Q := fun z H' => ∃ r, z = .bl r ∧ Q (.bl (!r)) H') F ⟨hr.in1, rfl⟩ hb I rfl h1) (fun z s' hz => ?_) fun _ _ x => x)
  · obtain ⟨r, H', rfl, I', r', e, q⟩ := hz
    cases e
    exact ⟨r, rfl, .bl (!r), H', I', rfl, q⟩
/-! ### repr, str of an instance -/
theorem run_str {A : Around} {pins : List (Addr × Obj)} {σ : L2.St} {H : Hp} {s : Shared} {Q : VK} {a : Addr}
    (F : FnOk X.prog X.w X.K X.mg X.base CX0 n f fd ps sp) (sb : L2.Sub X n A) (hb : L2.Binds X.K fd ps []) (I : Inv X pins σ H s)
    (h : sp [.ref a] H (fun z H' => ∃ t, z = .str t ∧ Q z H') E0) :
    wpAny (model X.prog X.w) A (call (.ref f) [.ref a]) (PySem.W.StrBack (EP X pins σ Q)) X.xe s := by
  have e0 : Env0 X.prog X.w X.K X.mg X.base A X.stack s H := by
    have e := I.env0
    exact ⟨by rw [sb.fr]; exact e.frames, e.mod, e.bs, e.bsz, e.funs, e.frf, e.hok, e.bare⟩
  have r2 : Vals [V.ref a] [Value.ref a] := .cons rfl .nil
  have hl := F.len _ _ _ _ h
  have b := hb s [.ref a] I.kIn (by simpa using hl)
  rw [List.append_nil] at b
  refine wpAny_call (codeAny_mono (F.run A X.stack s H ⟨[.ref a], []⟩ [.ref a] [.ref a] _ E0 sb.room e0 b r2 h) fun r s' hq => ?_)
  match r, hq with
  | .error _, hq => exact hq.elim
  | .ok .next, hq => exact hq.elim
  | .ok .brk, hq => exact hq.elim
  | .ok .cont, hq => exact hq.elim
  | .ok (.ret z), hq =>
    obtain ⟨z', H', I', rz, t, rfl, q⟩ := I.after hq
    obtain ⟨tk, rfl⟩ := rz
    exact ⟨.str t, H', I', ⟨tk, rfl⟩, q⟩
theorem call_repr_own (hs : PySem.W.findIn X.K (.ref C) "__repr__" = some (some (.ref f))) (hf : PySem.W.isFn X.K (.ref f) = true) (F : FnOk X.prog X.w X.K X.mg X.base CX0 n f fd ps sp) (hr : Room (n + 1) X.A) (hb : L2.Binds X.K fd ps []) :
    CallR X (.builtin "repr") (fun xs H Q => ∃ a dx fs, xs = [.ref a] ∧ H a = some (.ins C dx fs) ∧ sp [.ref a] H (fun z H' => ∃ t, z = .str t ∧ Q z H') E0) := by
  intro pins s σ H xs us Q I r h
  obtain ⟨a, dx, fs, rfl, ha, h⟩ := h
  rw [Vals.ref1 r]
  obtain ⟨mA, J, _⟩ := ins_get I.hok ha
  obtain ⟨od, J, _⟩ := J.look
  obtain ⟨m, hF⟩ := I.fr
  exact PySem.W.repr_K hr.in1.units0 hF I.ok.mod.kin J hs hf (run_str F ⟨hr.in1, rfl⟩ hb I h)
theorem call_str_own (hs : PySem.W.findIn X.K (.ref C) "__str__" = some (some (.ref f))) (hf : PySem.W.isFn X.K (.ref f) = true) (F : FnOk X.prog X.w X.K X.mg X.base CX0 n f fd ps sp) (hr : Room (n + 2) X.A) (hb : L2.Binds X.K fd ps []) :
    CallR X (.type "str") (fun xs H Q => ∃ a dx fs, xs = [.ref a] ∧ H a = some (.ins C dx fs) ∧ sp [.ref a] H (fun z H' => ∃ t, z = .str t ∧ Q z H') E0) := by
  intro pins s σ H xs us Q I r h
  obtain ⟨a, dx, fs, rfl, ha, h⟩ := h
  rw [Vals.ref1 r]
  obtain ⟨mA, J, _⟩ := ins_get I.hok ha
  obtain ⟨od, J, _⟩ := J.look
  exact PySem.W.kso_call hr.in1.in1.units0 I.kIn J hs hf (run_str F ⟨hr.in1.in1, rfl⟩ hb I h)
end
/-! ### o.m(k = v): a method by keywords alone, what is raised wished for at the slots -/
section
variable {X : Cx} {CX : CXT} {k : Nat} {f C : Addr} {fd : FuncData} {ps ks : List Str} {sp : Sp} {E : L2.St → XK} {m : Str} {apos pos : Pos} {o : Expr} {kws : List Keyword} {ta : TE} {tk : TA}
  {g : List Value → List Value → List Value} {gV : List V → List V → List V}
def tMethKw (C : Addr) (m : Str) (sp : Sp) (gV : List V → List V → List V) (E : L2.St → XK) (ta : TE) (tk : TA) : TE := fun σ H Q => ta σ H fun x H1 => ∃ a dx fs, x = .ref a ∧ H1 a = some (.ins C dx fs) ∧ fs.lookup m = none ∧
  tk σ H1 fun zs H2 => sp (gV [x] zs) H2 Q (E σ)
theorem pe_methKw {pl : Sem Bool} (he : PE X o ta) (c : Cls X.K C) (hm : Meth X.K C m f) (F : FnOk X.prog X.w X.K X.mg X.base CX k f fd ps sp) (hr : Room k X.A) (hb : KBinds X.K fd ps ks g gV) (hx : ∀ σ, PassesAt CX X σ (E σ)) (hkw : PK X kws tk)
    (hall : (backToKw pos (keywordEach kws X.env)).all (·.1.isSome) = true := by rfl)
    (hks : (backToKw pos (keywordEach kws X.env)).filterMap (·.1) = ks := by rfl)
    (hpl : ((backTo pos (starEach [] X.env)).any (·.1) || (backToKw pos (keywordEach kws X.env)).any (·.1.isNone)) = false := by rfl)
    (ht : eval (.Call (.Attribute o m apos) [] kws pos) X.env = (do
      let ov ← eval o X.env
      standAt apos.atName
      let (f, first) ← holding [ov] (getMethod ov m pl)
      callWith pos f first (backTo pos (starEach [] X.env)) (backToKw pos (keywordEach kws X.env))) := by rfl) :
    PE X (.Call (.Attribute o m apos) [] kws pos) (tMethKw C m sp gV E ta tk) := by
  refine ⟨fun pins s σ H Q I h => ?_⟩
  refine PySem.W.methodCall_KW (pl := pl) (thn (he.run pins s σ H _ I h) fun u s1 ⟨x, H1, I1, rx, a, dx, fs, ex, ea, l, q⟩ => ?_) ht
  subst ex
  obtain rfl : u = Value.ref a := rx
  refine getmeth_ok I1 ea c hm l ?_
  refine PySem.W.callWith_KW0 (first := [.ref a]) (h₀ := X.base) I.ok.mod.kin hm.kp hall ?_ hpl
  refine thn (hkw.run pos pins s1 σ H1 _ I1 q) fun ws s2 ⟨zs, H2, I2, rz, q2⟩ => ⟨I2.kIn, ?_⟩
  rw [hks]
  have r1 : Vals [V.ref a] [Value.ref a] := .cons rfl .nil
  have r2 := hb.rel r1 rz
  have hl : (g [Value.ref a] ws).length = ps.length := r2.length.symm.trans (F.len _ _ _ _ q2)
  refine wpAny_call (codeAny_mono (F.run X.A X.stack s2 H2 ⟨[.ref a], ks.zip ws⟩ (g [.ref a] ws) (gV [.ref a] zs) Q (E σ) hr I2.env0 (hb.to s2 [.ref a] ws I2.kIn hl) r2 q2) fun r s' hq => ?_)
  match r, hq with
  | .error e, hq => exact hx σ pins H2 s2 e s' I2 hq
  | .ok (.ret u), hq => exact I2.after hq
  | .ok .next, hq => exact hq.elim
  | .ok .brk, hq => exact hq.elim
  | .ok .cont, hq => exact hq.elim
end
end LT

set_option Elab.async false
set_option linter.all false
set_option maxRecDepth 100000
set_option maxHeartbeats 1600000
/-! Own layer: enumerate, methods that raise in a try, what is new on the heap, lists of ints. -/
namespace LT
open PySem PySem.Spec PyProof.Rows L2
/-! ### enumerate -/
theorem lc_enum {K : PySem.W.Frag} {a : Addr} {xs : List V} {g : TG} {tt : TT} {te : TE} {vs : List Nat} {σ : L2.St} {H1 : Hp} {D : Addr} {Qd : Hp → Prop} (Pv : Nat → Hp → Prop) (h0 : Pv 0 (L2.upd H1 D (.lst []))) (hl : ∀ i H, i ≤ xs.length → Pv i H → SqL K H a xs)
    (hs : ∀ i x H T, xs[i]? = some x → Pv i H → H T = none → g (.ref T) (wipe σ vs) (L2.upd H T (.tup [.int (i : Nat), x])) fun σ2 H2 => wipe σ2 vs = wipe σ vs ∧ tt σ2 H2 fun b H3 =>
      if b = true then te σ2 H3 fun y H4 => ∃ acc, H4 D = some (.lst acc) ∧ acc.length < sizeLine ∧ Pv (i + 1) (L2.upd H4 D (.lst (acc ++ [y]))) else Pv (i + 1) H3) (hd : ∀ H, Pv xs.length H → Qd H) :
    ∃ W : Nat → Nat → Hp → Prop, (∃ m, W 0 m (L2.upd H1 D (.lst []))) ∧ ∀ i m H, W i m H →
      ((Ite K a).stop i H ∧ Qd H) ∨ ((Ite K a).go i H ∧ ∃ Nx : Hp → Prop, (∀ H', Nx H' → ∃ m', m' < m ∧ W (i + 1) m' H') ∧ ∀ x H', (Ite K a).yld i H x H' → g x (wipe σ vs) H' fun σ2 H2 => wipe σ2 vs = wipe σ vs ∧ tt σ2 H2 fun b H3 =>
        if b = true then te σ2 H3 fun y H4 => ∃ acc, H4 D = some (.lst acc) ∧ acc.length < sizeLine ∧ Nx (L2.upd H4 D (.lst (acc ++ [y]))) else Nx H3) := by
  refine ⟨fun i m H => m = xs.length - i ∧ i ≤ xs.length ∧ Pv i H, ⟨xs.length, by simp, Nat.zero_le _, h0⟩, ?_⟩
  rintro i m H ⟨rfl, hi, p⟩
  have q := hl i H hi p
  by_cases hlt : i < xs.length
  · refine .inr ⟨⟨xs, xs[i], q, by simp [hlt]⟩, Pv (i + 1), fun H' p' => ⟨xs.length - (i + 1), by omega, rfl, hlt, p'⟩, fun x H' y => ?_⟩
    obtain ⟨T, z, e, nT, e2, y⟩ := y
    subst e e2
    exact hs i z _ T (y xs q) p nT
  · have e : i = xs.length := by omega
    subst e
    exact .inl ⟨⟨xs, q, Nat.le_refl _⟩, hd H p⟩
theorem for_enum {K : PySem.W.Frag} {a : Addr} {xs : List V} {g : TG} {tb : TS} {D : Ends} {σ : L2.St} {H : Hp} (Pv : Nat → L2.St → Hp → Prop) (h0 : Pv 0 σ H) (hl : ∀ i σ H, i ≤ xs.length → Pv i σ H → SqL K H a xs)
    (hs : ∀ i x σ H T, xs[i]? = some x → Pv i σ H → H T = none → g (.ref T) σ (L2.upd H T (.tup [.int (i : Nat), x])) fun σ2 H2 => tb { D with nx := Pv (i + 1), ct := Pv (i + 1), bk := D.nx } σ2 H2) (hd : ∀ σ H, Pv xs.length σ H → D.nx σ H) :
    ∃ W : Nat → Nat → L2.St → Hp → Prop, (∃ m, W 0 m σ H) ∧ ∀ i m σ H, W i m σ H →
      ((Ite K a).stop i H ∧ D.nx σ H) ∨ ((Ite K a).go i H ∧ ∃ N : L2.St → Hp → Prop, (∀ σ' H', N σ' H' → ∃ m', m' < m ∧ W (i + 1) m' σ' H') ∧ ∀ x H', (Ite K a).yld i H x H' → g x σ H' fun σ2 H2 => tb { D with nx := N, ct := N, bk := D.nx } σ2 H2) := by
  refine ⟨fun i m σ H => m = xs.length - i ∧ i ≤ xs.length ∧ Pv i σ H, ⟨xs.length, by simp, Nat.zero_le _, h0⟩, ?_⟩
  rintro i m σ H ⟨rfl, hi, p⟩
  have q := hl i σ H hi p
  by_cases hlt : i < xs.length
  · refine .inr ⟨⟨xs, xs[i], q, by simp [hlt]⟩, Pv (i + 1), fun σ' H' p' => ⟨xs.length - (i + 1), by omega, rfl, hlt, p'⟩, fun x H' y => ?_⟩
    obtain ⟨T, z, e, nT, e2, y⟩ := y
    subst e e2
    exact hs i z σ _ T (y xs q) p nT
  · have e : i = xs.length := by omega
    subst e
    exact .inl ⟨⟨xs, q, Nat.le_refl _⟩, hd σ H p⟩
/-! ### o.m(e, ..), where what it raises is caught -/
section
variable {X : Cx} {CX : CXT} {k : Nat} {f C : Addr} {fd : FuncData} {ps : List Str} {sp : Sp} {E : L2.St → XK} {m : Str} {apos pos : Pos} {o e : Expr} {es : List Expr} {ta : TE} {t : TA}
def tMethAt (C : Addr) (m : Str) (sp : Sp) (E : L2.St → XK) (ta : TE) (t : TA) : TE := fun σ H Q => ta σ H fun x H1 => ∃ a dx fs, x = .ref a ∧ H1 a = some (.ins C dx fs) ∧ fs.lookup m = none ∧ t σ H1 fun vs H2 => sp (x :: vs) H2 Q (E σ)
theorem pe_methAt {pl : Sem Bool} (he : PE X o ta) (c : Cls X.K C) (hm : Meth X.K C m f) (F : FnOk X.prog X.w X.K X.mg X.base CX k f fd ps sp) (hr : Room k X.A) (hb : L2.Binds X.K fd ps []) (hx : ∀ σ, PassesAt CX X σ (E σ)) (ha : PA X (e :: es) t)
    (hst : starEach (e :: es) X.env = (false, eval e X.env) :: starEach es X.env := by rfl) (hpl : (backTo pos (starEach es X.env)).any (·.1) = false := by rfl)
    (ht : eval (.Call (.Attribute o m apos) (e :: es) [] pos) X.env = (do
      let ov ← eval o X.env
      standAt apos.atName
      let (f, first) ← holding [ov] (getMethod ov m pl)
      callWith pos f first (backTo pos (starEach (e :: es) X.env)) (backToKw pos (keywordEach [] X.env))) := by rfl) :
    PE X (.Call (.Attribute o m apos) (e :: es) [] pos) (tMethAt C m sp E ta t) := by
  refine ⟨fun pins s σ H Q I h => ?_⟩
  refine PySem.W.methodCall_KW (pl := pl) (thn (he.run pins s σ H _ I h) fun u s1 ⟨x, H1, I1, rx, a, dx, fs, ex, ea, l, q⟩ => ?_) ht
  subst ex
  obtain rfl : u = Value.ref a := rx
  refine getmeth_ok I1 ea c hm l ?_
  refine PySem.W.callWith_K (first := [.ref a]) (h₀ := X.base) I.ok.mod.kin hm.kp (thn (ha.run pos pins s1 σ H1 _ I1 q) fun us s2 ⟨vs, H2, I2, r, q2⟩ => ⟨I2.kIn, ?_⟩) hst hpl
  exact run_fnS (us := .ref a :: us) (vs := .ref a :: vs) F hr hb (hx σ) I2 (.cons rfl r) q2
end
/-! ### what is new -/
def new (H H' : Hp) : Hp := fun c => match H c with | none => H' c | some _ => none
theorem new_iff {H H' : Hp} {c : Addr} {o : HO} : new H H' c = some o ↔ H c = none ∧ H' c = some o := by
  unfold new
  cases h : H c with
  | none => simp
  | some x => simp
theorem new_at {H H' : Hp} {c : Addr} {o : HO} (n : H c = none) (e : H' c = some o) : new H H' c = some o := new_iff.mpr ⟨n, e⟩
theorem new_le {H H' : Hp} : Same (new H H') H' := fun c o e => (new_iff.mp e).2
theorem new_up {H H' H'' : Hp} (s : Same H' H'') : Same (new H H') (new H H'') := fun c o e => new_iff.mpr ⟨(new_iff.mp e).1, s _ _ (new_iff.mp e).2⟩
theorem new_down {H H1 H2 : Hp} (s : Same H H1) : Same (new H1 H2) (new H H2) := fun c o e => new_iff.mpr ⟨s.free (new_iff.mp e).1, (new_iff.mp e).2⟩
theorem new_upB {H H1 H2 : Hp} {p : Addr} {op : HO} (hp : H p = some op) (s : SameB p H1 H2) : Same (new H H1) (new H H2) := fun c o e => by
  obtain ⟨n, e⟩ := new_iff.mp e
  refine new_iff.mpr ⟨n, s c o (fun z => ?_) e⟩
  rw [z, hp] at n
  cases n
/-- the heap without one thing -/
def wo (H : Hp) (r : Addr) : Hp := fun c => if c = r then none else H c
theorem wo_iff {H : Hp} {r c : Addr} {o : HO} : wo H r c = some o ↔ c ≠ r ∧ H c = some o := by
  unfold wo
  by_cases h : c = r <;> simp [h]
theorem wo_le {H : Hp} {r : Addr} : Same (wo H r) H := fun c o e => (wo_iff.mp e).2
theorem wo_up {H H' : Hp} {r : Addr} (s : SameB r H H') : Same (wo H r) (wo H' r) := fun c o e => wo_iff.mpr ⟨(wo_iff.mp e).1, s c o (wo_iff.mp e).1 (wo_iff.mp e).2⟩
theorem wo_upd {H : Hp} {r : Addr} {o : HO} : wo (L2.upd H r o) r = wo H r := by
  funext c
  unfold wo
  by_cases h : c = r
  · simp [h]
  · rw [if_neg h, if_neg h, upd_ne h]
theorem new_wo {H H' : Hp} {r : Addr} {o : HO} (h : H r = some o) : Same (new H H') (wo H' r) := fun c x e => by
  obtain ⟨n, e⟩ := new_iff.mp e
  refine wo_iff.mpr ⟨fun z => ?_, e⟩
  rw [z, h] at n
  cases n
/-! ### one by place, one by its name -/
def gK {α : Type} : List α → List α → List α
  | [a], [b] => [a, b]
  | _, _ => []
theorem gK_vals {vs zs : List V} {us ws : List Value} (r : Vals vs us) (z : Vals zs ws) : Vals (gK vs zs) (gK us ws) := by
  cases r with
  | nil => exact .nil
  | cons h r =>
    cases r with
    | cons h2 r => exact .nil
    | nil =>
      cases z with
      | nil => exact .nil
      | cons k z =>
        cases z with
        | cons k2 z => exact .nil
        | nil => exact .cons h (.cons k .nil)
theorem kb_gK {K : PySem.W.Frag} {y qual : Str} {st : Stmt} {f : Addr} {fd : FuncData} {ps ks : List Str} (F : Fun K y qual st f fd) (hp : ps.length = 2)
    (h : ∀ (kV doc pm : Value) (an : Option Addr) (cdv ct : Value) (u w : Value),
      bindArgs (PySem.W.fnOf y qual (defArgs st) (defBody st) (defScope st) .none kV doc pm an cdv ct) ⟨[u], ks.zip [w]⟩ = pure (ps.zip [u, w])) :
    KBinds K fd ps ks gK gK := by
  obtain ⟨oc, od, kV, doc, pm, an, cdv, ct, osl, rfl, lk, hcd⟩ := F.ex
  refine ⟨fun s us ws _ hl => ?_, gK_vals⟩
  match us, ws, hl with
  | [u], [w], _ => exact .of_eq (h kV doc pm an cdv ct u w)
  | [], _, h => rw [hp] at h; cases h
  | [_], [], h => rw [hp] at h; cases h
  | [_], _ :: _ :: _, h => rw [hp] at h; cases h
  | _ :: _ :: _, _, h => rw [hp] at h; cases h
/-! ### lists of ints -/
def intsD (ns : List Int) : PyData := .list (ns.map PyData.int)
theorem ints_pair {K : PySem.W.Frag} {H : Hp} : ∀ ns : List Int, DpAll K H (ns.map V.int) (ns.map PyData.int)
  | [] => .nil
  | n :: ns => .cons (.int n) (ints_pair ns)
theorem ints_dp {K : PySem.W.Frag} {H : Hp} {D : Addr} {ns : List Int} (e : H D = some (.lst (ns.map V.int))) : Dp K H (.ref D) (intsD ns) := .lst (SqL.of e) (ints_pair ns)
theorem ints_lay : ∀ ns : List Int, PyData.canLayAll0 (ns.map PyData.int) = true
  | [] => rfl
  | n :: ns => by
    rw [List.map_cons, PyData.canLayAll0, ints_lay ns]
    rfl
theorem ints_canL (ns : List Int) : PyData.canLay0 (intsD ns) = true := by
  unfold intsD
  simp only [PyData.canLay0]
  exact ints_lay ns
theorem ints_depth : ∀ ns : List Int, PyData.depthAll (ns.map PyData.int) ≤ 1
  | [] => by simp [PyData.depthAll]
  | n :: ns => by
    have := ints_depth ns
    rw [List.map_cons]
    simp only [PyData.depthAll, PyData.depth]
    omega
theorem ints_shaped (ns : List Int) : SeqAt.shaped (intsD ns) = true := by
  show (PyData.canLay0 (intsD ns) && decide (PyData.depth (intsD ns) ≤ 64)) = true
  rw [Bool.and_eq_true]
  refine ⟨ints_canL ns, decide_eq_true ?_⟩
  have := ints_depth ns
  unfold intsD
  simp only [PyData.depth]
  omega
theorem ints_eqv (ns : List Int) : PyData.eqv (intsD ns) (intsD ns) = true := SeqAt.eqv_refl _ (ints_canL ns)
end LT

set_option Elab.async false
set_option linter.all false
set_option maxRecDepth 100000
set_option maxHeartbeats 1600000
/-! Own layer: repr of an own thing whose __repr__ shows a list; a list of ints in an f-string; min of a list of pairs. -/
namespace LT
open PySem PySem.Spec PyProof.Rows L2
section
variable {X : Cx} {C f : Addr} {fd : FuncData} {ps : List Str} {sp : Sp} {n : Nat}
theorem run_strG {A : Around} {pins : List (Addr × Obj)} {σ : L2.St} {H : Hp} {s : Shared} {Q : VK} {a : Addr}
    (F : FnG X.prog X.w X.K X.mg X.base CX0 n f fd ps sp) (hG : A.guards = some []) (sb : L2.Sub X n A) (hb : L2.Binds X.K fd ps []) (I : Inv X pins σ H s)
    (h : sp [.ref a] H (fun z H' => ∃ t, z = .str t ∧ Q z H') E0) :
    wpAny (model X.prog X.w) A (call (.ref f) [.ref a]) (PySem.W.StrBack (EP X pins σ Q)) X.xe s := by
  have e0 : Env0 X.prog X.w X.K X.mg X.base A X.stack s H := by
    have e := I.env0
    exact ⟨by rw [sb.fr]; exact e.frames, e.mod, e.bs, e.bsz, e.funs, e.frf, e.hok, e.bare⟩
  have r2 : Vals [V.ref a] [Value.ref a] := .cons rfl .nil
  have hl := F.argc h
  have b := hb s [.ref a] I.kIn (by simpa using hl)
  rw [List.append_nil] at b
  refine wpAny_call (codeAny_mono (F.go (args := ⟨[.ref a], []⟩) (us := [.ref a]) hG sb.room e0 b r2 h) fun r s' hq => ?_)
  match r, hq with
  | .error _, hq => exact hq.elim
  | .ok .next, hq => exact hq.elim
  | .ok .brk, hq => exact hq.elim
  | .ok .cont, hq => exact hq.elim
  | .ok (.ret z), hq =>
    obtain ⟨z', H', I', rz, t, rfl, q⟩ := I.after hq
    obtain ⟨tk, rfl⟩ := rz
    exact ⟨.str t, H', I', ⟨tk, rfl⟩, q⟩
def rReprG (C : Addr) (sp : Sp) : List V → Hp → VK → Prop := fun xs H Q => ∃ a dx fs, xs = [.ref a] ∧ H a = some (.ins C dx fs) ∧ sp [.ref a] H (fun z H' => ∃ t, z = .str t ∧ Q z H') E0
theorem call_repr_ownG (hs : PySem.W.findIn X.K (.ref C) "__repr__" = some (some (.ref f))) (hf : PySem.W.isFn X.K (.ref f) = true) (F : FnG X.prog X.w X.K X.mg X.base CX0 n f fd ps sp) (hG : X.A.guards = some []) (hr : Room (n + 1) X.A) (hb : L2.Binds X.K fd ps []) :
    CallR X (.builtin "repr") (rReprG C sp) := by
  intro pins s σ H xs us Q I r h
  obtain ⟨a, dx, fs, rfl, ha, h⟩ := h
  rw [Vals.ref1 r]
  obtain ⟨mA, J, _⟩ := ins_get I.hok ha
  obtain ⟨od, J, _⟩ := J.look
  obtain ⟨m, hF⟩ := I.fr
  exact PySem.W.repr_K hr.in1.units0 hF I.ok.mod.kin J hs hf (run_strG F hG ⟨hr.in1, rfl⟩ hb I h)
/-! ### {l} in an f-string, l a list of ints -/
def tFmtL (K : PySem.W.Frag) (te : TE) : TE := fun σ H Q => te σ H fun x H1 => ∃ (a : Addr) (ns : List Int), x = .ref a ∧ SqL K H1 a (ns.map V.int) ∧ (intsD ns).showable = true ∧ (intsD ns).shown.length ≤ sizeLine ∧ Q (.str (intsD ns).shown) H1
theorem pe_fmtL {e : Expr} {te : TE} {pos : Pos} {k : Nat} (hG : X.A.guards = some []) (hr : Room k X.A) (he : PE X e te) : PE X (.FormattedValue e (-1) none pos) (tFmtL X.K te) := by
  refine ⟨fun pins s σ H Q I h => ?_⟩
  refine wpAny_FormattedValue_plain (thn (he.run pins s σ H _ I h) fun v s1 hv => ?_)
  obtain ⟨x, H1, I1, r1, a, ns, rfl, ht, sh, sz, q⟩ := hv
  cases r1
  have hu := hr.units
  obtain ⟨its, rv, ⟨o, n, ho, hc, _, hd⟩, _⟩ := I1.list ht
  have hz' : (listText (PyData.shownAll (ns.map PyData.int))).length ≤ sizeLine := by
    unfold intsD at sz
    simpa only [PyData.shown] using sz
  have sh' : PyData.showableAll (ns.map PyData.int) = true := by
    unfold intsD at sh
    simpa [PyData.showable] using sh
  have prs : ∀ ms : List Int, Paired (Sd X.K H1) (ms.map V.int) (ms.map PyData.int) := fun ms => by
    induction ms with
    | nil => exact .nil
    | cons m ms ih => exact .cons (.dp (.int m) (by simp [PyData.hasDict])) ih
  obtain ⟨as, bs, rd, hb, hk⟩ := Sd.all I1 (prs ns) rv sh' (fun t ht => Nat.le_trans (listText_mem_le ht) hz')
  have hna : a ∉ bs := not_mem_of_deeper (.list ho hc hd rd) (by simp only [PyData.depth]; omega) hb
  have dp2 := ints_depth ns
  have q2 : Q (.str (listText (PyData.shownAll (ns.map PyData.int)))) H1 := by
    unfold intsD at q
    simpa only [PyData.shown] using q
  refine wpAny_formatField_slot (fun _ _ => nofun) (by omega) (show s1.TypeIs (.ref a) "list" from ⟨o, ho, hc⟩) F.slot_list_format F.slot_list_str F.slot_list_repr.toG ?_
  cases its with
  | nil =>
    have hn : ns.map PyData.int = [] := by
      cases ns with
      | nil => rfl
      | cons m ms =>
        rw [List.map_cons] at rd
        cases rd
    rw [hn] at q2
    simp only [PyData.shownAll, listText_nil] at q2
    exact call_list_repr_empty (s := { s1 with toks := s1.toks + 1 }) ⟨o, ho, hc⟩ ho hd ⟨_, _, rfl, ⟨.str _, H1, I1.kept fun _ _ e => e, ⟨_, rfl⟩, q2⟩⟩
  | cons x l' =>
    exact call_list_reprK (A := X.A.in1.in1) (s := { s1 with toks := s1.toks + 1 }) ho hc hd hna (by simpa using hk.length_eq) (fun i y e => hk.item i y (by simpa using e)) hG (fun b _ => Clear.nil b) (by show X.A.units + 1 + 1 + _ < cLine; omega) (fun _ _ e => e)
      (fun h' u tk hk' => ⟨_, _, rfl, ⟨.str _, H1, I1.kept hk', ⟨_, rfl⟩, q2⟩⟩) hz'
end
/-! ### min of a list of pairs of ints -/
def ltP (p q : Int × Int) : Prop := p.1 < q.1 ∨ (p.1 = q.1 ∧ p.2 < q.2)
def rMinT (K : PySem.W.Frag) : List V → Hp → VK → Prop := fun vs H Q => ∃ (l : Addr) (ts : List Addr) (ps : List (Int × Int)), vs = [.ref l] ∧ SqL K H l (ts.map V.ref) ∧ ts.length = ps.length ∧ 0 < ps.length ∧
  (∀ (i : Nat) (t : Addr) (p : Int × Int), ts[i]? = some t → ps[i]? = some p → H t = some (.tup [.int p.1, .int p.2])) ∧
  ∀ (i : Nat) (t : Addr) (p : Int × Int), ts[i]? = some t → ps[i]? = some p → (∀ q ∈ ps, ¬ ltP q p) → Q (.ref t) H
theorem lt_pair (p q : Int × Int) : PySem.W.DatumOrd.lt p q = true ↔ ltP p q := by
  obtain ⟨a, b⟩ := p
  obtain ⟨c, d⟩ := q
  unfold ltP
  simp [PySem.W.DatumOrd.lt]
  split <;> omega
theorem min_le : ∀ (xs : List (Int × Int)) (x : Int × Int), ∀ q ∈ x :: xs, ¬ ltP q (PySem.W.minOf x xs)
  | [], x, q, h => by
    rw [List.mem_singleton.mp h]
    show ¬ ltP x x
    unfold ltP
    omega
  | y :: ys, x, q, h => by
    have ih := min_le ys (if PySem.W.DatumOrd.lt y x = true then y else x)
    have e : PySem.W.minOf x (y :: ys) = PySem.W.minOf (if PySem.W.DatumOrd.lt y x = true then y else x) ys := rfl
    rw [e]
    generalize PySem.W.minOf (if PySem.W.DatumOrd.lt y x = true then y else x) ys = m at *
    have hz := ih _ List.mem_cons_self
    have hy : ∀ q ∈ ys, ¬ ltP q m := fun q hq => ih q (List.mem_cons_of_mem _ hq)
    have both : ¬ ltP x m ∧ ¬ ltP y m := by
      by_cases c : PySem.W.DatumOrd.lt y x = true
      · rw [if_pos c] at hz
        have c := (lt_pair _ _).mp c
        unfold ltP at *
        omega
      · rw [if_neg c] at hz
        have c : ¬ ltP y x := fun h => c ((lt_pair y x).mpr h)
        unfold ltP at *
        omega
    rcases List.mem_cons.mp h with rfl | h
    · exact both.1
    · rcases List.mem_cons.mp h with rfl | h
      · exact both.2
      · exact hy q h
theorem vals_ix : ∀ {vs : List V} {us : List Value}, Vals vs us → ∀ (i : Nat) {v : V} {u : Value}, vs[i]? = some v → us[i]? = some u → RelV v u
  | _, _, .cons r _, 0, _, _, hv, hu => by
    cases hv
    cases hu
    exact r
  | _, _, .cons _ t, i + 1, _, _, hv, hu => vals_ix t i hv hu
theorem cr_minT {X : Cx} {k : Nat} (hc : X.calm = true) (hr : Room k X.A) : CallR X (.builtin "min") (rMinT X.K) := by
  intro pins s σ H vs us Q I r h
  obtain ⟨l, ts, ps, rfl, hl, hlen, hpos, hat, q⟩ := h
  rw [Vals.ref1 r]
  obtain ⟨its, rv, pl, _⟩ := I.list hl
  have hu := hr.units
  have one : ∀ (t : Addr) (p : Int × Int), H t = some (.tup [.int p.1, .int p.2]) → Dp X.K H (.ref t) (PySem.W.Datum.toD p) := fun t p e => .tup (SqT.of e) (.cons (.int _) (.cons (.int _) .nil))
  have dp : ∀ (ts : List Addr) (ps : List (Int × Int)), ts.length = ps.length → (∀ (i : Nat) (t : Addr) (p : Int × Int), ts[i]? = some t → ps[i]? = some p → H t = some (.tup [.int p.1, .int p.2])) → DpAll X.K H (ts.map V.ref) (ps.map PySem.W.Datum.toD) := by
    intro ts
    induction ts with
    | nil =>
      intro ps e _
      cases ps with
      | nil => exact .nil
      | cons p ps => cases e
    | cons t ts ih =>
      intro ps e h
      cases ps with
      | nil => cases e
      | cons p ps => exact .cons (one t p (h 0 t p rfl rfl)) (ih ps (Nat.succ.inj e) fun i t p h1 h2 => h (i + 1) t p h1 h2)
  obtain ⟨as, rs⟩ := Dp.readsAll I _ _ _ (dp ts ps hlen hat) rv
  obtain ⟨p0, ps', rfl⟩ : ∃ p0 ps', ps = p0 :: ps' := by
    cases ps with
    | nil => cases hpos
    | cons p ps => exact ⟨p, ps, rfl⟩
  refine PySem.W.min_list_datum (α := Int × Int) (x := p0) (xs := ps') (I.ok.hd hc) pl.isList ⟨as, rs⟩ (by show X.A.units + 1 + (max 0 0 + 1) < cLine; omega) ?_
  intro i v h' tk hi hv hk
  have hi' : its[i]? = some v := by simpa using hi
  have il := rv.length
  rw [List.length_map] at il
  have hlt : i < ts.length := by
    have := (List.getElem?_eq_some_iff.mp hi').1
    omega
  have et : ts[i]? = some ts[i] := List.getElem?_eq_getElem hlt
  have hlp : i < (p0 :: ps').length := by omega
  have ep : (p0 :: ps')[i]? = some (p0 :: ps')[i] := List.getElem?_eq_getElem hlp
  have rel := vals_ix rv i (show (ts.map V.ref)[i]? = some (.ref ts[i]) by rw [List.getElem?_map, et]; rfl) hi'
  have own := hat i _ _ et ep
  generalize (p0 :: ps')[i] = p at *
  obtain ⟨bs, rd⟩ := Dp.reads I _ _ _ (one _ p own) rel
  have rd' := PySem.W.reads_keeps hk rd
  obtain ⟨cs, rm⟩ := hv
  have eq := SeqAt.Reads.unique _ _ _ _ _ (by rfl) rd' rm
  have e2 : p = PySem.W.minOf p0 ps' := by
    have z := (PySem.W.Datum.eqv p (PySem.W.minOf p0 ps'))
    rw [← eq, SeqAt.eqv_refl _ (by rfl)] at z
    exact of_decide_eq_true z.symm
  refine ⟨.ref ts[i], H, I.kept hk, rel, q i _ p et ep fun q' hq' => ?_⟩
  rw [e2]
  exact min_le ps' p0 q' hq'
end LT

set_option Elab.async false
set_option linter.all false
set_option maxRecDepth 100000
set_option maxHeartbeats 1600000
/-! Own layer, numbers alone: how many are on in a slot; the slots where that may be least; even begins. -/
namespace LT
/-- how many are on in a slot -/
def cnt (a W s : Int) : List Int → Int
  | [] => 0
  | n :: ns => (if (s - n) % W < a then 1 else 0) + cnt a W s ns
theorem cnt_app {a W s : Int} : ∀ xs ys : List Int, cnt a W s (xs ++ ys) = cnt a W s xs + cnt a W s ys
  | [], ys => by
    show cnt a W s ys = 0 + cnt a W s ys
    omega
  | x :: xs, ys => by
    show _ + cnt a W s (xs ++ ys) = (_ + cnt a W s xs) + cnt a W s ys
    rw [cnt_app xs ys]
    omega
theorem cnt_one {a W s n : Int} : cnt a W s [n] = if (s - n) % W < a then 1 else 0 := by
  show _ + (0 : Int) = _
  omega
theorem cnt_nonneg {a W s : Int} : ∀ ns : List Int, 0 ≤ cnt a W s ns
  | [] => Int.le_refl 0
  | n :: ns => by
    have := cnt_nonneg (a := a) (W := W) (s := s) ns
    show 0 ≤ _ + cnt a W s ns
    split <;> omega
theorem cnt_mono {a W s t : Int} : ∀ ns : List Int, (∀ n ∈ ns, (s - n) % W < a → (t - n) % W < a) → cnt a W s ns ≤ cnt a W t ns
  | [], _ => Int.le_refl 0
  | n :: ns, h => by
    have ih := cnt_mono ns fun m hm => h m (List.mem_cons_of_mem _ hm)
    have h1 := h n List.mem_cons_self
    show _ + cnt a W s ns ≤ _ + cnt a W t ns
    split
    · rename_i c
      rw [if_pos (h1 c)]
      omega
    · split <;> omega
/-- the slots in which it may be least -/
def cands (a W : Int) (ns : List Int) : List Int := 0 :: ns.map fun n => (n + a) % W
theorem rest_of {x W : Int} {q r : Int} (h0 : 0 ≤ r) (h1 : r < W) (e : x = r + W * q) : x % W = r := by
  rw [e, Int.add_mul_emod_self_left, Int.emod_eq_of_lt h0 h1]
theorem step_cand {a b s n : Int} (a1 : 1 ≤ a) (b0 : 0 ≤ b) (hs : 0 ≤ s) (hs1 : s + 1 < a + b) (n0 : 0 ≤ n) (n1 : n < a + b) (h : (s - n) % (a + b) < a) (h' : ¬ (s + 1 - n) % (a + b) < a) : s + 1 = (n + a) % (a + b) := by
  by_cases c : n ≤ s
  · rw [Int.emod_eq_of_lt (show 0 ≤ s - n by omega) (by omega)] at h
    rw [Int.emod_eq_of_lt (show 0 ≤ s + 1 - n by omega) (by omega)] at h'
    rw [Int.emod_eq_of_lt (show 0 ≤ n + a by omega) (by omega)]
    omega
  · by_cases c2 : n = s + 1
    · subst c2
      rw [show s + 1 - (s + 1) = (0 : Int) by omega, Int.zero_emod] at h'
      omega
    · rw [rest_of (q := -1) (r := s - n + (a + b)) (by omega) (by omega) (by omega)] at h
      rw [rest_of (q := -1) (r := s + 1 - n + (a + b)) (by omega) (by omega) (by omega)] at h'
      rw [rest_of (q := 1) (r := n + a - (a + b)) (by omega) (by omega) (by omega)]
      omega
theorem cand_least {a b m : Int} {ns : List Int} (a1 : 1 ≤ a) (b0 : 0 ≤ b) (hb : ∀ n ∈ ns, 0 ≤ n ∧ n < a + b) (hm : ∀ c ∈ cands a (a + b) ns, m ≤ cnt a (a + b) c ns) : ∀ t : Nat, (t : Int) < a + b → m ≤ cnt a (a + b) t ns
  | 0, _ => hm 0 List.mem_cons_self
  | t + 1, ht => by
    have ih := cand_least a1 b0 hb hm t (by omega)
    by_cases h : ∃ n, n ∈ ns ∧ ((t : Int) - n) % (a + b) < a ∧ ¬ ((t : Int) + 1 - n) % (a + b) < a
    · obtain ⟨n, hn, h1, h2⟩ := h
      obtain ⟨n0, n1⟩ := hb n hn
      have e := step_cand a1 b0 (by omega) (by omega) n0 n1 h1 h2
      rw [show ((t + 1 : Nat) : Int) = (t : Int) + 1 by omega, e]
      exact hm _ (List.mem_cons_of_mem _ (List.mem_map.mpr ⟨n, hn, rfl⟩))
    · refine Int.le_trans ih ?_
      rw [show ((t + 1 : Nat) : Int) = (t : Int) + 1 by omega]
      refine cnt_mono ns fun n hn h1 => ?_
      by_cases h2 : ((t : Int) + 1 - n) % (a + b) < a
      · exact h2
      · exact absurd ⟨n, hn, h1, h2⟩ h
/-! ### sums -/
def sumT (f : Int → Int) : Nat → Int
  | 0 => 0
  | t + 1 => sumT f t + f t
theorem sumT_add {f g : Int → Int} : ∀ t, sumT (fun s => f s + g s) t = sumT f t + sumT g t
  | 0 => by show (0 : Int) = 0 + 0; omega
  | t + 1 => by
    show sumT (fun s => f s + g s) t + (f t + g t) = (sumT f t + f t) + (sumT g t + g t)
    rw [sumT_add t]
    omega
theorem sumT_zero : ∀ t, sumT (fun _ => 0) t = 0
  | 0 => rfl
  | t + 1 => by
    show sumT (fun _ => 0) t + 0 = 0
    rw [sumT_zero t]
    rfl
theorem sumT_ge {f : Int → Int} {m : Int} : ∀ t : Nat, (∀ s : Nat, s < t → m ≤ f s) → m * t ≤ sumT f t
  | 0, _ => by
    show m * 0 ≤ 0
    omega
  | t + 1, h => by
    have ih := sumT_ge t fun s hs => h s (by omega)
    have h1 := h t (by omega)
    show m * ((t + 1 : Nat) : Int) ≤ sumT f t + f t
    rw [show ((t + 1 : Nat) : Int) = (t : Int) + 1 by omega, Int.mul_add, Int.mul_one]
    omega
theorem sum_ind {a W n : Int} (a0 : 0 ≤ a) (aW : a ≤ W) (n0 : 0 ≤ n) (n1 : n < W) : ∀ t : Nat, (t : Int) ≤ W → sumT (fun s => if (s - n) % W < a then 1 else 0) t = max 0 (min (t : Int) (n + a) - n) + max 0 (min (t : Int) (n + a - W))
  | 0, _ => by
    show (0 : Int) = _
    omega
  | t + 1, h => by
    have ih := sum_ind a0 aW n0 n1 t (by omega)
    show sumT (fun s => if (s - n) % W < a then 1 else 0) t + (if ((t : Int) - n) % W < a then 1 else 0) = _
    rw [ih]
    by_cases c : n ≤ (t : Int)
    · rw [Int.emod_eq_of_lt (show 0 ≤ (t : Int) - n by omega) (by omega)]
      split <;> omega
    · rw [rest_of (q := -1) (r := (t : Int) - n + W) (by omega) (by omega) (by omega)]
      split <;> omega
theorem sum_cnt {a W : Int} (a0 : 0 ≤ a) (aW : a ≤ W) (W0 : 0 ≤ W) : ∀ ns : List Int, (∀ n ∈ ns, 0 ≤ n ∧ n < W) → sumT (fun s => cnt a W s ns) W.toNat = (ns.length : Int) * a
  | [], _ => by
    show sumT (fun _ => 0) _ = _
    rw [sumT_zero]
    show (0 : Int) = ((0 : Nat) : Int) * a
    omega
  | n :: ns, h => by
    obtain ⟨n0, n1⟩ := h n List.mem_cons_self
    show sumT (fun s => (if (s - n) % W < a then 1 else 0) + cnt a W s ns) _ = _
    rw [sumT_add, sum_cnt a0 aW W0 ns fun m hm => h m (List.mem_cons_of_mem _ hm), sum_ind a0 aW n0 n1 _ (by omega), List.length_cons, show ((ns.length + 1 : Nat) : Int) = (ns.length : Int) + 1 by omega, Int.add_mul, Int.one_mul]
    omega
/-- a number that is least over the slots where it may be: no more than the keepers' share -/
theorem share_ge {a b m : Int} {ns : List Int} (a1 : 1 ≤ a) (b0 : 0 ≤ b) (hb : ∀ n ∈ ns, 0 ≤ n ∧ n < a + b) (hm : ∀ c ∈ cands a (a + b) ns, m ≤ cnt a (a + b) c ns) : m ≤ (ns.length : Int) * a / (a + b) := by
  have h1 := sumT_ge (f := fun s => cnt a (a + b) s ns) (m := m) (a + b).toNat fun s hs => cand_least a1 b0 hb hm s (by omega)
  rw [sum_cnt (by omega) (by omega) (by omega) ns hb, Int.toNat_of_nonneg (by omega)] at h1
  exact (Int.le_ediv_iff_mul_le (by omega)).mpr h1
/-! ### even begins -/
def evenB (W : Int) (m : Nat) : List Int := (List.range m).map fun i => ((i : Nat) : Int) * W / (m : Int)
def win (f : Int → Int) (x : Int) : Nat → Int
  | 0 => 0
  | t + 1 => win f x t + f (x + t)
theorem win_first {f : Int → Int} {x : Int} : ∀ t : Nat, win f x (t + 1) = f x + win f (x + 1) t
  | 0 => by
    show (0 : Int) + f (x + (0 : Nat)) = f x + 0
    rw [show x + ((0 : Nat) : Int) = x by omega]
    omega
  | t + 1 => by
    show win f x (t + 1) + f (x + ((t + 1 : Nat) : Int)) = f x + (win f (x + 1) t + f (x + 1 + (t : Int)))
    rw [win_first t, show x + ((t + 1 : Nat) : Int) = x + 1 + (t : Int) by omega]
    omega
theorem win_shift {f : Int → Int} {m : Nat} (h : ∀ k, f (k + m) = f k) (x : Int) : win f (x + 1) m = win f x m := by
  have h1 := win_first (f := f) (x := x) m
  have h2 : win f x (m + 1) = win f x m + f (x + m) := rfl
  rw [h x] at h2
  omega
theorem win_nat {f : Int → Int} {m : Nat} (h : ∀ k, f (k + m) = f k) : ∀ x : Nat, win f x m = win f 0 m
  | 0 => rfl
  | x + 1 => by
    rw [show ((x + 1 : Nat) : Int) = (x : Int) + 1 by omega, win_shift h, win_nat h x]
theorem win_ge {f : Int → Int} {x : Int} {q : Nat} (h0 : ∀ k, 0 ≤ f k) (h1 : ∀ j : Nat, j < q → 1 ≤ f (x + j)) : ∀ t : Nat, (min q t : Nat) ≤ win f x t
  | 0 => by
    show ((min q 0 : Nat) : Int) ≤ 0
    omega
  | t + 1 => by
    have ih := win_ge h0 h1 t
    have z := h0 (x + t)
    show ((min q (t + 1) : Nat) : Int) ≤ win f x t + f (x + t)
    by_cases c : t < q
    · have := h1 t c
      omega
    · omega
theorem cnt_win {a W s : Int} {g : Nat → Int} {f : Int → Int} (hf : ∀ i : Nat, f i = if (s - g i) % W < a then 1 else 0) : ∀ m : Nat, cnt a W s ((List.range m).map g) = win f 0 m
  | 0 => rfl
  | m + 1 => by
    rw [List.range_succ, List.map_append, cnt_app, cnt_win hf m]
    show _ + cnt a W s [g m] = win f 0 m + f (0 + (m : Int))
    rw [cnt_one, show (0 : Int) + (m : Int) = (m : Int) by omega, hf m]
/-- an even round has its share in each slot -/
theorem even_ge {a b s : Int} {m : Nat} (a1 : 1 ≤ a) (b0 : 0 ≤ b) (s0 : 0 ≤ s) (s1 : s < a + b) : (m : Int) * a / (a + b) ≤ cnt a (a + b) s (evenB (a + b) m) := by
  have W0 : 0 < a + b := by omega
  generalize hW : a + b = W at *
  cases m with
  | zero =>
    have := cnt_nonneg (a := a) (W := W) (s := s) (evenB W 0)
    simpa using this
  | succ m' =>
    generalize hm : m' + 1 = m
    have m1 : 1 ≤ m := by omega
    have f0 : ∀ k : Int, (k + (m : Int)) * W / (m : Int) = k * W / (m : Int) + W := fun k => by
      rw [Int.add_mul, Int.mul_comm (m : Int) W, Int.add_mul_ediv_right _ _ (by omega)]
    have key := cnt_win (a := a) (W := W) (s := s) (g := fun i => ((i : Nat) : Int) * W / (m : Int)) (f := fun k => if (s - k * W / (m : Int)) % W < a then 1 else 0) (fun i => rfl) m
    have per : ∀ k : Int, (fun k : Int => if (s - k * W / (m : Int)) % W < a then (1 : Int) else 0) (k + m) = (fun k : Int => if (s - k * W / (m : Int)) % W < a then (1 : Int) else 0) k := fun k => by
      show (if (s - (k + (m : Int)) * W / (m : Int)) % W < a then (1 : Int) else 0) = if (s - k * W / (m : Int)) % W < a then 1 else 0
      rw [f0, show s - (k * W / (m : Int) + W) = s - k * W / (m : Int) + W * (-1) by omega, Int.add_mul_emod_self_left]
    show _ ≤ cnt a W s ((List.range m).map fun i => ((i : Nat) : Int) * W / (m : Int))
    rw [key]
    -- how many, and the last keeper that began by then
    have q0 : 0 ≤ (m : Int) * a / W := Int.ediv_nonneg (Int.mul_nonneg (by omega) (by omega)) (by omega)
    have qW : (m : Int) * a / W * W ≤ (m : Int) * a := Int.ediv_mul_le _ (by omega)
    have qm : (m : Int) * a / W ≤ m := by
      have h1 : (m : Int) * a ≤ (m : Int) * W := Int.mul_le_mul_of_nonneg_left (by omega) (by omega)
      have h2 := Int.ediv_le_ediv W0 h1
      rwa [Int.mul_ediv_cancel _ (by omega)] at h2
    generalize (m : Int) * a / W = q at *
    have ms : 0 ≤ (m : Int) * (s + 1) - 1 := by
      have := Int.mul_le_mul (show (1 : Int) ≤ m by omega) (show 1 ≤ s + 1 by omega) (by omega) (by omega)
      omega
    have K0 : 0 ≤ ((m : Int) * (s + 1) - 1) / W := Int.ediv_nonneg ms (by omega)
    have K1 : ((m : Int) * (s + 1) - 1) / W * W ≤ (m : Int) * (s + 1) - 1 := Int.ediv_mul_le _ (by omega)
    have K2 : (m : Int) * (s + 1) - 1 < (((m : Int) * (s + 1) - 1) / W + 1) * W := Int.lt_ediv_add_one_mul_self _ W0
    generalize ((m : Int) * (s + 1) - 1) / W = L at *
    have x0 : 0 ≤ L - q + 1 + m := by omega
    rw [← win_nat per (L - q + 1 + m).toNat, Int.toNat_of_nonneg x0]
    have g := win_ge (f := fun k => if (s - k * W / (m : Int)) % W < a then (1 : Int) else 0) (x := L - q + 1 + m) (q := q.toNat) (fun k => by split <;> omega) (fun j hj => ?_) m
    · rw [Nat.min_eq_left (by omega), Int.toNat_of_nonneg q0] at g
      exact g
    · have hj : (j : Int) < q := by omega
      rw [if_pos]
      · omega
      have e1 : (L - q + 1 + (m : Int) + (j : Int)) * W / (m : Int) = (L - q + 1 + (j : Int)) * W / (m : Int) + W := by
        rw [show L - q + 1 + (m : Int) + (j : Int) = (L - q + 1 + (j : Int)) + (m : Int) by omega]
        exact f0 _
      have lo : s + 1 - a ≤ (L - q + 1 + (j : Int)) * W / (m : Int) := by
        refine (Int.le_ediv_iff_mul_le (by omega)).mpr ?_
        have h1 : (L - q + 1) * W ≤ (L - q + 1 + (j : Int)) * W := Int.mul_le_mul_of_nonneg_right (by omega) (by omega)
        have h2 : (L - q + 1) * W = (L + 1) * W - q * W := by rw [← Int.sub_mul]; congr 1; omega
        have h3 : (s + 1 - a) * (m : Int) = (m : Int) * (s + 1) - (m : Int) * a := by rw [Int.sub_mul, Int.mul_comm (s + 1), Int.mul_comm a]
        omega
      have hi : (L - q + 1 + (j : Int)) * W / (m : Int) ≤ s := by
        have h1 : (L - q + 1 + (j : Int)) * W ≤ L * W := Int.mul_le_mul_of_nonneg_right (by omega) (by omega)
        have h2 : (L - q + 1 + (j : Int)) * W < (s + 1) * (m : Int) := by
          rw [Int.mul_comm (s + 1)]
          omega
        have := (Int.ediv_lt_iff_lt_mul (show (0 : Int) < m by omega)).mpr h2
        omega
      rw [e1]
      generalize (L - q + 1 + (j : Int)) * W / (m : Int) = e at *
      rw [rest_of (q := -1) (r := s - e) (by omega) (by omega) (by omega)]
      omega
/-- the least over the slots where it may be -/
def IsMin (a W : Int) (ns : List Int) (M : Int) : Prop := (∃ c ∈ cands a W ns, cnt a W c ns = M) ∧ ∀ c ∈ cands a W ns, M ≤ cnt a W c ns
theorem cand_in {a b : Int} {ns : List Int} (a1 : 1 ≤ a) (b0 : 0 ≤ b) {c : Int} (h : c ∈ cands a (a + b) ns) : 0 ≤ c ∧ c < a + b := by
  rcases List.mem_cons.mp h with rfl | h
  · omega
  · obtain ⟨n, _, rfl⟩ := List.mem_map.mp h
    exact ⟨Int.emod_nonneg _ (by omega), Int.emod_lt_of_pos _ (by omega)⟩
theorem any_min {a b M : Int} {ns : List Int} (a1 : 1 ≤ a) (b0 : 0 ≤ b) (hb : ∀ n ∈ ns, 0 ≤ n ∧ n < a + b) (h : IsMin a (a + b) ns M) : M ≤ (ns.length : Int) * a / (a + b) := share_ge a1 b0 hb h.2
theorem even_in' {W : Int} {m : Nat} (hw : 0 < W) : ∀ n ∈ evenB W m, 0 ≤ n ∧ n < W := by
  intro n hn
  unfold evenB at hn
  obtain ⟨i, hi, rfl⟩ := List.mem_map.mp hn
  have hi := List.mem_range.mp hi
  refine ⟨Int.ediv_nonneg (Int.mul_nonneg (by omega) (by omega)) (by omega), ?_⟩
  rw [Int.ediv_lt_iff_lt_mul (by omega), Int.mul_comm W (m : Int)]
  exact Int.mul_lt_mul_of_pos_right (by omega) hw
theorem even_min {a b M : Int} {m : Nat} (a1 : 1 ≤ a) (b0 : 0 ≤ b) (h : IsMin a (a + b) (evenB (a + b) m) M) : M = (m : Int) * a / (a + b) := by
  have h1 := any_min a1 b0 (even_in' (by omega)) h
  rw [show (evenB (a + b) m).length = m by unfold evenB; rw [List.length_map, List.length_range]] at h1
  obtain ⟨⟨c, hc, rfl⟩, _⟩ := h
  obtain ⟨c0, c1⟩ := cand_in a1 b0 hc
  have := even_ge (m := m) a1 b0 c0 c1
  omega
end LT

set_option Elab.async false
set_option linter.all false
set_option maxRecDepth 100000
set_option maxHeartbeats 1600000
namespace LT
open PySem PySem.Spec PyProof.Rows L2
theorem sum_pair {prog : Program} {w : World} {A : Around} {E : Value → Shared → Prop} {s : Shared} {Q : Value → Shared → Prop} {l : Addr} {x y : Int} {t1 t2 : Tok} (hh : A.handled = none) (hl : s.heap.IsTuple l #[.int x t1, .int y t2])
    (h : ∀ h' tk t', (∀ b o, s.heap.get? b = some o → h'.get? b = some o) → Q (.int (x + y) t') { s with heap := h', toks := tk }) : wpAny (model prog w) A (call (.builtin "sum") [.ref l]) Q E s := by
  have hlt : l < s.heap.objs.size := by obtain ⟨_, e, _⟩ := hl; exact Heap.lt_size e
  refine call_sum_walkG (wpAny_pyIter_tuple hl ?_)
  refine ⟨_, _, _, _, _, _, (fun i => if i = 0 then x else y), rfl, Walks.tuple (A := A.in1) hh _ l (Nat.ne_of_lt hlt) _, ⟨⟨_, Heap.get?_push_size _ rfl, rfl, rfl⟩, hl.push _⟩, fun b hb => ?_, fun i v hv => ?_, fun h' tk t' hk => ?_⟩
  · show b < (s.heap.push _).objs.size
    rw [Heap.size_push]
    rcases List.mem_cons.mp hb with rfl | hb
    · exact Nat.lt_succ_self _
    · rcases List.mem_cons.mp hb with rfl | hb
      · exact Nat.lt_succ_of_lt hlt
      · cases hb
  · match i, hv with
    | 0, hv => cases hv; exact ⟨_, rfl⟩
    | 1, hv => cases hv; exact ⟨_, rfl⟩
    | i + 2, hv => simp at hv
  · have e : preSum (fun i : Nat => if i = 0 then x else y) 2 = x + y := by
      simp [preSum]
    have := h h' tk t' fun b o eb => hk b o (fun z => by
      have := Heap.lt_size eb
      rw [List.mem_singleton.mp z] at this
      exact Nat.lt_irrefl _ this) (Heap.get?_push_of_some _ eb)
    rw [← e] at this
    exact this
def rSumP (K : PySem.W.Frag) : List V → Hp → VK → Prop := fun vs H Q => ∃ (t : Addr) (x y : Int), vs = [.ref t] ∧ SqT K H t [.int x, .int y] ∧ Q (.int (x + y)) H
theorem cr_sumP {X : Cx} (hc : X.calm = true) : CallR X (.builtin "sum") (rSumP X.K) := by
  intro pins s σ H vs us Q I r h
  obtain ⟨t, x, y, rfl, hs, q⟩ := h
  obtain ⟨its, rv, hl, _⟩ := I.tuple hs
  rw [Vals.ref1 r]
  obtain ⟨u1, u2, rfl, r1, r2⟩ := vals2 rv
  obtain ⟨t1, rfl⟩ := r1
  obtain ⟨t2, rfl⟩ := r2
  obtain ⟨o, ho, hcl, n, hd⟩ := hl
  exact sum_pair (I.ok.hd hc) ⟨o, ho, hcl, n, hd⟩ fun h' tk t' hk => ⟨.int _, H, I.kept hk, ⟨_, rfl⟩, q⟩
/-- how many are on, by the list -/
theorem cnt_len_aux {a W s : Int} {ns : List Int} : ∀ i : Nat, i ≤ ns.length → ((((List.range i).filter fun j => decide ((s - ns.getD j 0) % W < a)).length : Nat) : Int) = cnt a W s (ns.take i)
  | 0, _ => by
    rw [List.take_zero]
    rfl
  | i + 1, h => by
    have ih := cnt_len_aux (a := a) (W := W) (s := s) (ns := ns) i (by omega)
    have e : ns.getD i 0 = ns[i] := by rw [List.getD_eq_getElem?_getD, List.getElem?_eq_getElem (by omega)]; rfl
    rw [List.range_succ, List.filter_append, List.length_append, List.take_succ_eq_append_getElem (by omega), cnt_app, cnt_one, ← ih, ← e]
    by_cases c : (s - ns.getD i 0) % W < a
    · rw [if_pos c, List.filter_cons_of_pos (p := fun j => decide ((s - ns.getD j 0) % W < a)) (decide_eq_true c)]
      rfl
    · rw [if_neg c, List.filter_cons_of_neg (p := fun j => decide ((s - ns.getD j 0) % W < a)) (by rw [decide_eq_false c]; exact Bool.false_ne_true)]
      simp
/-! ### the text of a list of ints -/
theorem ints_show {ns : List Int} (hb : ∀ n ∈ ns, n.natAbs ≤ 10 ^ 61) (hl : ns.length ≤ 100) : (intsD ns).showable = true ∧ (intsD ns).shown.length ≤ 30000 := by
  have all : ∀ ms : List Int, (∀ n ∈ ms, n.natAbs ≤ 10 ^ 61) → PyData.showableAll (ms.map PyData.int) = true ∧ ((PyData.shownAll (ms.map PyData.int)).map (·.length)).sum ≤ 204 * ms.length ∧ (PyData.shownAll (ms.map PyData.int)).length = ms.length := by
    intro ms
    induction ms with
    | nil => exact fun _ => ⟨by simp [PyData.showableAll], by simp [PyData.shownAll], by simp [PyData.shownAll]⟩
    | cons m ms ih =>
      intro h
      obtain ⟨h1, h2, h3⟩ := ih fun n hn => h n (List.mem_cons_of_mem _ hn)
      have hm := h m List.mem_cons_self
      have lg := lg61 hm
      have tl := tlen61 hm
      refine ⟨?_, ?_, ?_⟩
      · rw [List.map_cons]
        simp only [PyData.showableAll, PyData.showable, h1, decide_eq_true lg, Bool.and_self]
      · rw [List.map_cons]
        simp only [PyData.shownAll, List.map_cons, List.sum_cons, PyData.shown, List.length_cons]
        omega
      · rw [List.map_cons]
        simp only [PyData.shownAll, List.length_cons, h3]
  obtain ⟨h1, h2, h3⟩ := all ns hb
  unfold intsD
  refine ⟨by simpa [PyData.showable] using h1, ?_⟩
  simp only [PyData.shown]
  have := listText_len_le (PyData.shownAll (ns.map PyData.int))
  omega
end LT

set_option Elab.async false
set_option linter.all false
set_option maxRecDepth 100000
set_option maxHeartbeats 1600000
set_option pp.maxSteps 700
/-! Own layer: a def that shows a list while something else is being shown; repr of a tuple that holds an own thing. -/
namespace LT
open PySem PySem.Spec PyProof.Rows L2
/-- a def that may ask what is being shown -/
structure FnGc (P : Program) (w : World) (K : PySem.W.Frag) (mg : Str → Option Value) (base : Heap)
    (CX : CXT) (k : Nat) (f : Addr) (fd : FuncData) (ps : List Str) (sp : List Code → Sp) : Prop where
  argc : ∀ {g : List Code} {vs : List V} {H : Hp} {Q : VK} {E : XK}, sp g vs H Q E → vs.length = ps.length
  go : ∀ {g : List Code} {A : Around} {outer : List Env} {s : Shared} {H : Hp} {args : Args} {us : List Value} {vs : List V}
    {Q : VK} {E : XK}, A.guards = some g → Room k A → Env0 P w K mg base A outer s H →
    BindsTo s fd args (ps.zip us) → Vals vs us → sp g vs H Q E →
    codeAny (model P w) A (.call (.ref f) args) (CR CX outer P w H s Q E) s
section
variable {P : Program} {w : World} {K : PySem.W.Frag} {mg : Str → Option Value} {base : Heap}
theorem FnGc.toG {CX : CXT} {k : Nat} {f : Addr} {fd : FuncData} {ps : List Str} {sp : List Code → Sp} (F : FnGc P w K mg base CX k f fd ps sp) : FnG P w K mg base CX k f fd ps (sp []) :=
  ⟨fun h => F.argc h, fun hg hr e b v h => F.go hg hr e b v h⟩
theorem okGc {x qual : Str} {st : Stmt} {f : Addr} {fd : FuncData} {N ps : List Str} {k : Nat} {sp : List Code → Sp}
    (F : Fun K x qual st f fd) (S : FnScope N ps (defScope st))
    (argc : ∀ {g : List Code} {vs : List V} {H : Hp} {Q : VK} {E : XK}, sp g vs H Q E → vs.length = ps.length)
    (body : ∀ (g : List Code) (cdv : Value) (A : Around) (outer : List Env) (s : Shared) (H : Hp) (vs : List V) (Q : VK) (E : XK),
      A.guards = some g → Room k (A.deeper (envOfC qual (defScope st) s.heap.objs.size f cdv)) → sp g vs H Q E →
      ∃ t, PSs (cxOf CX0 P w K mg base N qual (defScope st) f cdv A outer s H E).nox (defBody st) t ∧
        t { nx := fun _ H' => Q .non H', rt := Q } (start N vs) H) :
    FnGc P w K mg base CX0 (k + 1) f fd ps sp := by
  obtain ⟨oc, od, kV, doc, pm, an, cdv, ct, osl, rfl, lk, hcd⟩ := F.ex
  refine ⟨argc, ?_⟩
  intro g A outer s H args us vs Q E hg hr e0 hb r hsp
  have inS : ∀ b o, base.get? b = some o → s.heap.get? b = some o := fun b o e => (e0.bs b o e).1
  have KX : K.In s.heap := e0.mod.kin.keeps inS
  have hkind : ∀ y ∈ ps.zip us, (defScope st).names.lookup y.1 = some .local ∨
      ((defScope st).names.lookup y.1 = some .cell ∧
        ((cellsFrom (s.heap.objs.size + 1) (defScope st).names []).lookup y.1).isSome = true) := by
    rintro ⟨n, v⟩ hy
    rcases S.par n (List.of_mem_zip hy).1 with q | q
    · exact Or.inl q
    · exact Or.inr ⟨q, PySem.W.cellsFrom_some _ _ _ (Or.inl q)⟩
  refine codeAny_call_function hr.depth (KX _ _ lk) rfl S.co S.gen rfl (PySem.W.codeRec_of KX hcd)
    (hb _ _ _ _ (wpAny_newFunctionEnv_cells S.kind hkind fun env he s1 x => ?_))
  subst he
  refine ⟨(e0.mod.nolimit.keeps inS).keeps x.toInCall.keep, codeAny_func ?_⟩
  obtain ⟨t, ht, hq⟩ := body g cdv A outer s H vs Q E hg (hr.deeper _) hsp
  have I := inv_start (CX := CX0) (N := N) (qual := qual) (f := f) (cd := cdv) (E := E) S hr.hd e0 (argc hsp) r x
  refine wpAny_mono (ht.nox.run [] s1 (start N vs) H _ I hq) (fun fl s' hs => ?_) (fun e s' hs => hs)
  cases fl with
  | brk => obtain ⟨_, _, _, q⟩ := hs; exact q.elim
  | cont => obtain ⟨_, _, _, q⟩ := hs; exact q.elim
  | next =>
    obtain ⟨σ', H', J, q⟩ := hs
    exact ⟨V.non, H', J.os, J.bare, J.base, J.hok, rfl, q⟩
  | ret u =>
    obtain ⟨v, σ', H', J, rv, q⟩ := hs
    exact ⟨v, H', J.os, J.bare, J.base, J.hok, rv, q⟩
end
section
variable {X : Cx} {C f : Addr} {fd : FuncData} {ps : List Str} {sp : List Code → Sp} {n : Nat}
theorem run_strGc {g : List Code} {A : Around} {pins : List (Addr × Obj)} {σ : L2.St} {H : Hp} {s : Shared} {Q : VK} {a : Addr}
    (F : FnGc X.prog X.w X.K X.mg X.base CX0 n f fd ps sp) (hG : A.guards = some g) (sb : L2.Sub X n A) (hb : L2.Binds X.K fd ps []) (I : Inv X pins σ H s)
    (h : sp g [.ref a] H (fun z H' => ∃ t, z = .str t ∧ Q z H') E0) :
    wpAny (model X.prog X.w) A (call (.ref f) [.ref a]) (PySem.W.StrBack (EP X pins σ Q)) X.xe s := by
  have e0 : Env0 X.prog X.w X.K X.mg X.base A X.stack s H := by
    have e := I.env0
    exact ⟨by rw [sb.fr]; exact e.frames, e.mod, e.bs, e.bsz, e.funs, e.frf, e.hok, e.bare⟩
  have r2 : Vals [V.ref a] [Value.ref a] := .cons rfl .nil
  have hl := F.argc h
  have b := hb s [.ref a] I.kIn (by simpa using hl)
  rw [List.append_nil] at b
  refine wpAny_call (codeAny_mono (F.go (args := ⟨[.ref a], []⟩) (us := [.ref a]) hG sb.room e0 b r2 h) fun r s' hq => ?_)
  match r, hq with
  | .error _, hq => exact hq.elim
  | .ok .next, hq => exact hq.elim
  | .ok .brk, hq => exact hq.elim
  | .ok .cont, hq => exact hq.elim
  | .ok (.ret z), hq =>
    obtain ⟨z', H', I', rz, t, rfl, q⟩ := I.after hq
    obtain ⟨tk, rfl⟩ := rz
    exact ⟨.str t, H', I', ⟨tk, rfl⟩, q⟩
/-! ### {l} in an f-string, l a list of ints that is not being shown -/
def tFmtLc (K : PySem.W.Frag) (g : List Code) (te : TE) : TE := fun σ H Q => te σ H fun x H1 => ∃ (a : Addr) (ns : List Int), x = .ref a ∧ SqL K H1 a (ns.map V.int) ∧ Clear g a ∧ (intsD ns).showable = true ∧ (intsD ns).shown.length ≤ sizeLine ∧ Q (.str (intsD ns).shown) H1
theorem pe_fmtLc {g : List Code} {e : Expr} {te : TE} {pos : Pos} {k : Nat} (hG : X.A.guards = some g) (hr : Room k X.A) (he : PE X e te) : PE X (.FormattedValue e (-1) none pos) (tFmtLc X.K g te) := by
  refine ⟨fun pins s σ H Q I h => ?_⟩
  refine wpAny_FormattedValue_plain (thn (he.run pins s σ H _ I h) fun v s1 hv => ?_)
  obtain ⟨x, H1, I1, r1, a, ns, rfl, ht, hcl, sh, sz, q⟩ := hv
  cases r1
  have hu := hr.units
  obtain ⟨its, rv, ⟨o, n, ho, hc, _, hd⟩, _⟩ := I1.list ht
  have hz' : (listText (PyData.shownAll (ns.map PyData.int))).length ≤ sizeLine := by
    unfold intsD at sz
    simpa only [PyData.shown] using sz
  have sh' : PyData.showableAll (ns.map PyData.int) = true := by
    unfold intsD at sh
    simpa [PyData.showable] using sh
  have q2 : Q (.str (listText (PyData.shownAll (ns.map PyData.int)))) H1 := by
    unfold intsD at q
    simpa only [PyData.shown] using q
  have each : ∀ (ms : List Int) (us : List Value), Vals (ms.map V.int) us → PyData.showableAll (ms.map PyData.int) = true → ReprAllK X.prog X.w [] s1.heap 0 us (PyData.shownAll (ms.map PyData.int)) := by
    intro ms
    induction ms with
    | nil =>
      intro us r _
      cases r
      simp only [List.map_nil, PyData.shownAll]
      exact .nil
    | cons m ms ih =>
      intro us r hs
      rw [List.map_cons] at r hs
      cases r with
      | cons r1 r2 =>
        obtain ⟨tk, rfl⟩ := r1
        have hs' : (PyData.int m).showable = true ∧ PyData.showableAll (ms.map PyData.int) = true := by simpa [PyData.showableAll] using hs
        rw [List.map_cons]
        simp only [PyData.shownAll, PyData.shown]
        exact .cons (.of_is (ReprIs.int tk (of_decide_eq_true hs'.1)) _ _ _) (ih _ r2 hs'.2)
  have hk := each ns its rv sh'
  refine wpAny_formatField_slot (fun _ _ => nofun) (by omega) (show s1.TypeIs (.ref a) "list" from ⟨o, ho, hc⟩) F.slot_list_format F.slot_list_str F.slot_list_repr.toG ?_
  cases its with
  | nil =>
    have hn : ns.map PyData.int = [] := by
      cases ns with
      | nil => rfl
      | cons m ms =>
        rw [List.map_cons] at rv
        cases rv
    rw [hn] at q2
    simp only [PyData.shownAll, listText_nil] at q2
    exact call_list_repr_empty (s := { s1 with toks := s1.toks + 1 }) ⟨o, ho, hc⟩ ho hd ⟨_, _, rfl, ⟨.str _, H1, I1.kept fun _ _ e => e, ⟨_, rfl⟩, q2⟩⟩
  | cons x l' =>
    exact call_list_reprK (A := X.A.in1.in1) (s := { s1 with toks := s1.toks + 1 }) ho hc hd (by simp) (by simpa using hk.length_eq) (fun i y e => hk.item i y (by simpa using e)) hG (fun b hb => by rw [List.mem_singleton.mp hb]; exact hcl) (by show X.A.units + 1 + 1 + _ < cLine; omega) (fun _ _ e => e)
      (fun h' u tk hk' => ⟨_, _, rfl, ⟨.str _, H1, I1.kept hk', ⟨_, rfl⟩, q2⟩⟩) hz'
end
section
variable {prog : Program} {w : World} {K : PySem.W.Frag} {A : Around} {E : Value → Shared → Prop} {s : Shared} {x C f : Addr} {ox : Obj} {od : Option Obj}
theorem boundBy_ownC {M : Model} {last : Value → List Value → Sem Value} {name : Str} {Q : Option Value → Shared → Prop} (X : K.In s.heap) (I : PySem.W.InstAt s.heap x ox C od)
    (hs : PySem.W.findIn K (.ref C) name = some (some (.ref f))) (hf : PySem.W.isFn K (.ref f) = true)
    (h : wpAny M A (last (.ref f) [.ref x]) (fun v => Q (some v)) E s) : wpAny M A (callSpecialIfBoundBy? last (.ref x) name) Q E s := by
  simp only [callSpecialIfBoundBy?, bindSpecialIfBound?]
  refine wpAny_holding (wpAny_bind (wpAny_bind (wpAny_bind (I.type.here ((PySem.W.looks_findIn X hs).here ?_)))))
  refine wpAny_bind (wpAny_askSetting (wpAny_ite ?_))
  have back : wpAny M A (last (.ref f) [.ref x] >>= fun v => pure (some v)) Q E s := wpAny_bind (wpAny_mono h (fun v s' z => wpAny_pure z) fun _ _ z => z)
  split
  · exact wpAny_bind ((PySem.W.bind_fn X _ (beq_iff_eq.mp hf)).here (wpAny_pure (by exact back)))
  · exact wpAny_tryCatch (wpAny_bind ((PySem.W.bind_fn X _ (beq_iff_eq.mp hf)).here (wpAny_pure (by exact back))))
theorem under_ownC {b : Nat} {Q : Str → Shared → Prop} (hb : b ≤ sizeLine) (hu : A.units < cLine) (X : K.In s.heap) (I : PySem.W.InstAt s.heap x ox C od)
    (hs : PySem.W.findIn K (.ref C) "__repr__" = some (some (.ref f))) (hf : PySem.W.isFn K (.ref f) = true)
    (h : wpAny (model prog w) A (call (.ref f) [.ref x]) (fun v s' => ∃ t u, v = .str t u ∧ Q t s') E s) : wpAny (model prog w) A (pyReprUnder b (.ref x)) Q E s := by
  refine wpAny_pyReprUnder_ref hb ?_
  unfold pyReprObjUnder pyReprObjBy
  refine wpAny_bind (wpAny_cRoomFor hu ?_)
  refine wpAny_bind (wpAny_bind (I.type.here ((PySem.W.looks_findIn X hs).here ?_)))
  show wpAny _ _ (if (some (Value.ref f)).isNone = true then _ else _) _ _ _
  rw [if_neg (by simp)]
  refine wpAny_bind (m := callSpecialIfBoundBy? _ (.ref x) (Str.ofString "__repr__")) (boundBy_ownC X I hs hf (wpAny_mono h (fun r s' hr => ?_) fun _ _ y => y))
  obtain ⟨t, u, rfl, q⟩ := hr
  exact wpAny_bind (wpAny_isInstance (typeIs_str _ _ _) isSubtype_str_str (wpAny_pure ⟨t, u, rfl, q⟩))
end
theorem sub_tup {X : Cx} {n : Nat} {A : Around} (sb : L2.Sub X (n + 1) A) (args : Args) : L2.Sub X n (A.under (.builtin "tuple.__repr__" args)) := by
  have hw : (Code.builtin "tuple.__repr__" args).weight ≤ 1 := by
    show (Code.builtin "tuple.__repr__" ⟨[], []⟩).weight ≤ 1
    decide +kernel
  have hc : (Code.builtin "tuple.__repr__" args).cUnits ≤ 10 := by
    show (Code.builtin "tuple.__repr__" ⟨[], []⟩).cUnits ≤ 10
    decide +kernel
  have he : (Code.builtin "tuple.__repr__" args).envs = [] := rfl
  obtain ⟨⟨h1, h2, h3⟩, h4⟩ := sb
  refine ⟨⟨h1, ?_, ?_⟩, ?_⟩
  · show A.depth + _ + 3 * n + 5 < _
    omega
  · show A.units + _ + 16 * n + 200 < _
    omega
  · unfold Around.under
    simp [he, pushEnvs, h4]
section
variable {X : Cx} {C f : Addr} {fd : FuncData} {ps : List Str} {sp : List Code → Sp} {n : Nat}
/-- repr((k, x)), x an own thing -/
def rReprT (C : Addr) (sp : List Code → Sp) : List V → Hp → VK → Prop := fun xs H Q => ∃ (t : Addr) (k : Int) (a dx : Addr) (fs : List (Str × V)) (z : Str), xs = [.ref t] ∧ H t = some (.tup [.int k, .ref a]) ∧ k.natAbs.log2 < 1920 ∧ H a = some (.ins C dx fs) ∧
  (∀ g, (∀ b, b ≠ t → Clear g b) → sp g [.ref a] H (fun v H' => ∃ u, v = .str u ∧ (v = .str z ∧ H' = H)) E0) ∧ (tupleText [Str.ofString (toString k), z]).length ≤ sizeLine ∧ Q (.str (tupleText [Str.ofString (toString k), z])) H
theorem call_repr_tup (hs : PySem.W.findIn X.K (.ref C) "__repr__" = some (some (.ref f))) (hf : PySem.W.isFn X.K (.ref f) = true) (F : FnGc X.prog X.w X.K X.mg X.base CX0 n f fd ps sp) (hG : X.A.guards = some []) (hr : Room (n + 2) X.A) (hb : L2.Binds X.K fd ps []) :
    CallR X (.builtin "repr") (rReprT C sp) := by
  intro pins s σ H xs us Q I r h
  obtain ⟨t, k, a, dx, fs, z, rfl, ht, hk, ha, hsp, hsz, q⟩ := h
  rw [Vals.ref1 r]
  obtain ⟨its, rv, ⟨o, ho, hcl, m, hd⟩, _⟩ := I.tuple (SqT.of ht)
  obtain ⟨u1, u2, rfl, r1, r2⟩ := vals2 rv
  obtain ⟨tk1, rfl⟩ := r1
  cases r2
  refine call_repr_slot hr.in1.units0 (show s.TypeIs (.ref t) "tuple" from ⟨o, ho, hcl⟩) PySem.F.slot_tuple_repr ?_
  refine wpAny_call (codeAny_call_builtin_own (Code.quiet_builtin _ (by decide +kernel)) PySem.F.entry_tuple_repr (PySem.F.slot_tuple_repr.check _ _ _ _ _ _ _ _ ⟨o, ho, hcl⟩ (PySem.F.args_tuple_repr_1 _) ?_))
  show wpOwn _ _ _ (Builtin.tupleReprAt 0 ⟨[.ref t], []⟩) _ _ s
  rw [tuple_repr_tree, tupleReprUnderWay_eq]
  refine wpOwn_bind (wpOwn_stackTailAny (A := X.A.in1) (g := []) hG (tupGuardF_off _) (tupGuardF_pos _) ?_)
  refine wpOwn_of_wpAny ?_
  show wpAny _ _ (tupleReprRest 0 (.ref t)) _ _ s
  have hp := piled_le_tupleText [Str.ofString (toString k), z]
  have hpp : piled [Str.ofString (toString k), z] = (Str.ofString (toString k)).length + 2 + (z.length + 2) := by
    rw [piled_cons, piled_cons]
    simp [piled]
  unfold tupleReprRest Builtin.Tuple.tupleItemsOf
  refine wpAny_bind (wpAny_bind (wpAny_seqItems ho hd (wpAny_pure ?_)))
  rw [← Array.forIn_toList]
  have sb : L2.Sub X n (X.A.in1.under (.builtin "tuple.__repr__" ⟨[.ref t], []⟩)) := sub_tup ⟨hr.in1, rfl⟩ _
  show wpAny _ _ (forIn [Value.int k tk1, Value.ref a] (⟨#[], 0⟩ : (Array Str × Nat)) tupBody >>= _) _ _ s
  rw [List.forIn_cons]
  refine wpAny_bind (wpAny_bind (wpAny_bind ((ReprIs.int tk1 hk) (0 + 1) (by omega) _ _ _ _ fun tk => wpAny_pure ?_)))
  show wpAny _ _ (forIn [Value.ref a] (⟨#[].push (Str.ofString (toString k)), 0 + ((Str.ofString (toString k)).length + 2)⟩ : (Array Str × Nat)) tupBody) _ _ _
  rw [List.forIn_cons]
  have I2 : Inv X pins σ H { s with toks := tk } := I.tok tk
  obtain ⟨mA, JI, _⟩ := ins_get I2.hok ha
  obtain ⟨od, JI, _⟩ := JI.look
  have hg2 : (X.A.in1.under (.builtin "tuple.__repr__" ⟨[.ref t], []⟩)).guards = some [.builtin "tuple.__repr__" ⟨[.ref t], []⟩] := guards_under_guard (isGuard_tuple_repr _) hG
  refine wpAny_bind (wpAny_bind (under_ownC (by omega) sb.room.units0 I2.kIn JI hs hf (wpAny_mono (run_strGc (Q := fun v H' => v = .str z ∧ H' = H) F hg2 sb hb I2 (hsp _ fun b hb' => (Clear.nil b).cons (Ne.symm hb'))) (fun v s2 hv => ?_) fun e s2 he => he)))
  cases v <;> first | exact hv.elim | skip
  obtain ⟨zv, H', I3, rz, rfl, rfl⟩ := hv
  obtain ⟨tk2, ez⟩ := rz
  cases ez
  refine ⟨z, _, rfl, wpAny_pure ?_⟩
  simp only [List.forIn_nil]
  refine wpAny_pure ?_
  refine wpAny_bind (wpAny_mkStr (wpAny_pure ?_) (by simpa [tupleText] using hsz))
  have q2 := q
  unfold tupleText at q2
  exact ⟨_, _, rfl, ⟨.str _, H', I3.tok _, ⟨_, rfl⟩, by simpa using q2⟩⟩
end
end LT

set_option Elab.async false
set_option linter.all false
set_option maxRecDepth 100000
set_option maxHeartbeats 1600000
set_option pp.maxSteps 700
/-! Own layer: repr of a list that holds own things and lists of ints; min of two pairs. -/
namespace LT
open PySem PySem.Spec PyProof.Rows L2
def Own (C : Addr) (sp : List Code → Sp) (H : Hp) (l a : Addr) (t : Str) : Prop := ∃ (dx : Addr) (fs : List (Str × V)), H a = some (.ins C dx fs) ∧ ∀ g, (∀ b, b ≠ l → Clear g b) → sp g [.ref a] H (fun z H' => ∃ u, z = .str u ∧ (z = .str t ∧ H' = H)) E0
def Dat (H : Hp) (l a : Addr) (t : Str) : Prop := ∃ ns : List Int, a ≠ l ∧ H a = some (.lst (ns.map V.int)) ∧ (intsD ns).showable = true ∧ t = (intsD ns).shown
theorem ints_reprK {X : Cx} {pins : List (Addr × Obj)} {σ : L2.St} {H : Hp} {s : Shared} {a : Addr} {ns : List Int} (I : Inv X pins σ H s) (ha : H a = some (.lst (ns.map V.int))) (sh : (intsD ns).showable = true) (sz : (intsD ns).shown.length ≤ sizeLine) : ReprK X.prog X.w [a] s.heap 1 (.ref a) (intsD ns).shown := by
  obtain ⟨its, rv, ⟨o, n, ho, hc, _, hd⟩, _⟩ := I.list (SqL.of ha)
  have sh' : PyData.showableAll (ns.map PyData.int) = true := by
    unfold intsD at sh
    simpa [PyData.showable] using sh
  have each : ∀ (ms : List Int) (us : List Value), Vals (ms.map V.int) us → PyData.showableAll (ms.map PyData.int) = true → ReprAllK X.prog X.w [] s.heap 0 us (PyData.shownAll (ms.map PyData.int)) := by
    intro ms
    induction ms with
    | nil =>
      intro us r _
      cases r
      simp only [List.map_nil, PyData.shownAll]
      exact .nil
    | cons m ms ih =>
      intro us r hs
      rw [List.map_cons] at r hs
      cases r with
      | cons r1 r2 =>
        obtain ⟨tk, rfl⟩ := r1
        have hs' : (PyData.int m).showable = true ∧ PyData.showableAll (ms.map PyData.int) = true := by simpa [PyData.showableAll] using hs
        rw [List.map_cons]
        simp only [PyData.shownAll, PyData.shown]
        exact .cons (.of_is (ReprIs.int tk (of_decide_eq_true hs'.1)) _ _ _) (ih _ r2 hs'.2)
  have hk := each ns its rv sh'
  unfold intsD
  simp only [PyData.shown]
  cases its with
  | nil =>
    have hn : ns.map PyData.int = [] := by
      cases ns with
      | nil => rfl
      | cons m ms =>
        rw [List.map_cons] at rv
        cases rv
    rw [hn]
    simp only [PyData.shownAll, listText_nil]
    exact .listEmpty ho hc hd
  | cons x l' => exact .list ho hc hd (by simp) (by simpa using hk.length_eq) (fun i y e => hk.item i y (by simpa using e))
theorem sub_guardC {X : Cx} {n : Nat} {A : Around} (sb : L2.Sub X (n + 1) A) (args : Args) : L2.Sub X n (A.under (.builtin "list.__repr__.loop" args)) := by
  have hw : (Code.builtin "list.__repr__.loop" args).weight ≤ 1 := by
    show (Code.builtin "list.__repr__.loop" ⟨[], []⟩).weight ≤ 1
    decide +kernel
  have hc : (Code.builtin "list.__repr__.loop" args).cUnits ≤ 10 := by
    show (Code.builtin "list.__repr__.loop" ⟨[], []⟩).cUnits ≤ 10
    decide +kernel
  have he : (Code.builtin "list.__repr__.loop" args).envs = [] := rfl
  obtain ⟨⟨h1, h2, h3⟩, h4⟩ := sb
  refine ⟨⟨h1, ?_, ?_⟩, ?_⟩
  · show A.depth + _ + 3 * n + 5 < _
    omega
  · show A.units + _ + 16 * n + 200 < _
    omega
  · unfold Around.under
    simp [he, pushEnvs, h4]
section
variable {X : Cx} {C f : Addr} {fd : FuncData} {ps : List Str} {sp : List Code → Sp} {n : Nat} {pins : List (Addr × Obj)} {σ : L2.St} {H : Hp}
theorem show_loopM (hs : PySem.W.findIn X.K (.ref C) "__repr__" = some (some (.ref f))) (hf : PySem.W.isFn X.K (.ref f) = true) (F : FnGc X.prog X.w X.K X.mg X.base CX0 n f fd ps sp) (hb : L2.Binds X.K fd ps []) {A : Around} (hG : A.guards = some []) (sb : L2.Sub X (n + 1) A) {R : Result → Shared → Prop}
    (hE : ∀ e s', X.xe e s' → R (.error e) s') {l P : Addr} {xs : List V} {ts : List Str} {b : Nat} (hl : H l = some (.lst xs)) (hlen : ts.length = xs.length)
    (each : ∀ (i : Nat) (v : V), xs[i]? = some v → ∃ (a : Addr) (t : Str), v = .ref a ∧ ts[i]? = some t ∧ (Own C sp H l a t ∨ Dat H l a t))
    (hsz : b + (listText ts).length ≤ sizeLine) (fp : FpOk X pins H P) (fin : ∀ s' u, Inv X pins σ H s' → R (.ok (.ret (.str (listText ts) u))) s') :
    ∀ (k i : Nat) (s : Shared) (acc : Array Value) (c : Nat) (done : List (Str × Tok)), xs.length - i = k → i ≤ xs.length → Inv X pins σ H s →
      s.heap.get? P = some (seqObj "list" acc c) → acc.toList = strValues done → done.map (·.1) = ts.take i →
      codeAny (model X.prog X.w) A (.builtin "list.__repr__.loop" ⟨[.ref l, rawInt i, .ref P, rawInt ((b + piled (ts.take i) : Nat) : Int)], []⟩) R s := by
  have hX : (listText ts).length = (textFrom 0 "[" ts).length + 1 := by
    show (textFrom 0 "[" ts ++ "]").length = _
    rw [strLen_append]
    rfl
  have hL := textFrom_len ts 0 "["
  have hp3 := piled_le_listText ts
  intro k
  induction k with
  | zero =>
    intro i s acc c done hk hi I hP hacc hdone
    obtain ⟨its, rv, pl, hz⟩ := I.list (SqL.of hl)
    obtain ⟨o, m, e1, e2, _, e4⟩ := pl
    have il := rv.length
    refine codeAny_builtin PySem.F.entry_list_repr_loop ?_
    show wpAny _ _ (Builtin.«list.__repr__.loop» ⟨[.ref l, .int i 0, .ref P, .int ((b + piled (ts.take i) : Nat) : Int) 0], []⟩) _ _ s
    rw [repr_loop_tree]
    refine wpAny_bind (wpAny_listItems e1 e4 ?_)
    have hnone : its.toArray[(i : Int).toNat]? = none := by
      simp
      omega
    simp only [hnone]
    unfold reprEnd
    refine wpAny_bind (wpAny_listItems hP rfl ?_)
    rw [hacc, repr_fold]
    refine wpAny_bind (wpAny_pure ?_)
    have hall : done.map (·.1) = ts := by rw [hdone, List.take_of_length_le (by omega)]
    rw [hall]
    refine wpAny_bind (wpAny_mkStr (wpAny_pure ?_) (by show (listText ts).length ≤ _; omega))
    exact fin _ _ (I.tok _)
  | succ k ih =>
    intro i s acc c done hk hi I hP hacc hdone
    obtain ⟨its, rv, pl, hz⟩ := I.list (SqL.of hl)
    obtain ⟨o, m, e1, e2, _, e4⟩ := pl
    have il := rv.length
    have hlt : i < xs.length := by omega
    obtain ⟨v, ev⟩ : ∃ v, xs[i]? = some v := ⟨_, List.getElem?_eq_getElem hlt⟩
    obtain ⟨u, eu⟩ : ∃ u, its[i]? = some u := ⟨_, List.getElem?_eq_getElem (by omega)⟩
    obtain ⟨a, t, rfl, ht, hit⟩ := each i v ev
    have ru := vals_ix rv i ev eu
    cases ru
    have hp1 := piled_take_succ ht
    have hp2 := piled_take_le ts (i + 1)
    have htl := hL.2.1 t (List.mem_of_getElem? ht)
    refine codeAny_builtin PySem.F.entry_list_repr_loop ?_
    show wpAny _ _ (Builtin.«list.__repr__.loop» ⟨[.ref l, .int i 0, .ref P, .int ((b + piled (ts.take i) : Nat) : Int) 0], []⟩) _ _ s
    rw [repr_loop_tree]
    refine wpAny_bind (wpAny_listItems e1 e4 ?_)
    have hsome : its.toArray[(i : Int).toNat]? = some (.ref a) := by simpa using eu
    simp only [hsome]
    rw [Int.toNat_natCast]
    have J : Inv X ((P, seqObj "list" acc c) :: pins) σ H s := I.pins_of fun p hp => by
      rcases List.mem_cons.mp hp with rfl | hp
      · exact ⟨hP, fp.1, fp.2.1, fp.2.2.1, fun v z => nomatch z⟩
      · exact I.pin p (List.mem_append_right _ hp)
    have sb2 := sub_guardC sb ⟨[.ref l, .int i 0, .ref P, .int ((b + piled (ts.take i) : Nat) : Int) 0], []⟩
    have hg2 : (A.under (.builtin "list.__repr__.loop" ⟨[.ref l, .int i 0, .ref P, .int ((b + piled (ts.take i) : Nat) : Int) 0], []⟩)).guards = some [.builtin "list.__repr__.loop" ⟨[.ref l, .int i 0, .ref P, .int ((b + piled (ts.take i) : Nat) : Int) 0], []⟩] := guards_under_guard (isGuard_list_loop _) hG
    have clr : ∀ b', b' ≠ l → Clear [.builtin "list.__repr__.loop" ⟨[.ref l, .int i 0, .ref P, .int ((b + piled (ts.take i) : Nat) : Int) 0], []⟩] b' := fun b' hb' => (Clear.nil b').cons (Ne.symm hb')
    refine wpAny_bind (wpAny_holding (wpAny_mono (Q := fun t' s2 => t' = t ∧ Inv X ((P, seqObj "list" acc c) :: pins) σ H s2) (E := X.xe) ?_ (fun t' s2 hz => ?_) fun e s2 he => hE e s2 he))
    · rcases hit with ⟨dx, fs, ha, hsp⟩ | ⟨ns, hne, ha, hsh, rfl⟩
      · obtain ⟨mA, JI, _⟩ := ins_get I.hok ha
        obtain ⟨od, JI, _⟩ := JI.look
        refine under_ownC (by omega) sb2.room.units0 I.kIn JI hs hf (wpAny_mono (run_strGc (Q := fun z H' => z = .str t ∧ H' = H) F hg2 sb2 hb J (hsp _ clr)) (fun z s2 hz => ?_) fun e s2 he => he)
        cases z <;> first | exact hz.elim | skip
        obtain ⟨zv, H', I2, rz, rfl, rfl⟩ := hz
        obtain ⟨tk2, ez⟩ := rz
        cases ez
        exact ⟨t, _, rfl, rfl, I2⟩
      · exact ints_reprK J ha hsh (by omega) (b + piled (ts.take i) + 1) (by omega) _ _ _ _ _ hg2 (fun b' hb' => by rw [List.mem_singleton.mp hb']; exact clr _ hne) (Nat.lt_of_le_of_lt (Nat.add_le_add_left (by decide) _) sb2.room.units) (fun _ _ e => e) (fun h' tk hk' => ⟨rfl, J.kept hk'⟩)
    have et := hz.1.symm
    have I2 := hz.2
    subst et
    have hP2 := (I2.pin (P, seqObj "list" acc c) (List.mem_append_right _ (.head _))).1
    have I3 : Inv X pins σ H s2 := I2.pins_of fun p hp => I2.pin p (List.mem_append_right _ (.tail _ hp))
    refine wpAny_bind (wpAny_mkStr ?_ (by omega))
    refine wpAny_bind ?_
    show wpAny _ _ (updateSeq P _) _ _ _
    have hasz : acc.size ≤ sizeLine := by
      have z1 : acc.toList.length = acc.size := by simp
      have z2 : (strValues done).length = done.length := by simp [strValues]
      have z3 : done.length = (ts.take i).length := by rw [← hdone, List.length_map]
      have z4 : (ts.take i).length ≤ i := by rw [List.length_take]; omega
      rw [hacc] at z1
      omega
    refine wpAny_updateSeq hP2 rfl (wpAny_pure ⟨PySem.F.quiet_list_repr_loop _, ?_⟩) hasz
    have e5 : ((i : Int) + 1) = ((i + 1 : Nat) : Int) := by omega
    have e6 : b + piled (ts.take i) + (t.length + 2) = b + piled (ts.take (i + 1)) := by omega
    rw [e5, e6]
    have sbt := Heap.SameBut.update s2.heap P (Obj.mapSeq (·.push (.str t s2.toks)))
    have I4 : Inv X pins σ H { s2 with heap := s2.heap.update P (Obj.mapSeq (·.push (.str t s2.toks))), toks := s2.toks + 1 } :=
      I3.turnedL (ch := [P]) (fun b o hb q => (sbt.2 b fun z => hb (by rw [z]; exact List.mem_singleton.mpr rfl)).trans q) (fun b hb => by rw [List.mem_singleton.mp hb]; exact fp)
    obtain ⟨c2, hc2⟩ : ∃ c2, (s2.heap.update P (Obj.mapSeq (·.push (.str t s2.toks)))).get? P = some (seqObj "list" (acc.push (.str t s2.toks)) c2) := ⟨_, get?_update_seq hP2 (·.push (.str t s2.toks))⟩
    exact ih (i + 1) _ (acc.push (.str t s2.toks)) c2 (done ++ [(t, s2.toks)]) (by omega) hlt I4 hc2 (by simp [hacc, strValues]) (by simp [List.take_add_one, ht, hdone])
/-- repr(xs), xs a list of own things and lists of ints -/
def rReprM (C : Addr) (sp : List Code → Sp) : List V → Hp → VK → Prop := fun ys H Q => ∃ (l : Addr) (xs : List V) (ts : List Str), ys = [.ref l] ∧ H l = some (.lst xs) ∧ ts.length = xs.length ∧
      (∀ (i : Nat) (v : V), xs[i]? = some v → ∃ (a : Addr) (t : Str), v = .ref a ∧ ts[i]? = some t ∧ (Own C sp H l a t ∨ Dat H l a t)) ∧ (listText ts).length ≤ sizeLine ∧ Q (.str (listText ts)) H
theorem call_reprM (hs : PySem.W.findIn X.K (.ref C) "__repr__" = some (some (.ref f))) (hf : PySem.W.isFn X.K (.ref f) = true) (F : FnGc X.prog X.w X.K X.mg X.base CX0 n f fd ps sp) (hG : X.A.guards = some []) (hr : Room (n + 3) X.A) (hb : L2.Binds X.K fd ps []) :
    CallR X (.builtin "repr") (rReprM C sp) := by
  intro pins s σ H ys us Q I r h
  obtain ⟨l, xs, ts, rfl, hl, hlen, each, hsz, q⟩ := h
  rw [Vals.ref1 r]
  obtain ⟨its, rv, pl, hz⟩ := I.list (SqL.of hl)
  obtain ⟨o, m, e1, e2, _, e4⟩ := pl
  have il := rv.length
  have hr2 : Room (n + 2) X.A.in1 := hr.in1
  refine call_repr_slot hr.in1.units0 ⟨o, e1, e2⟩ PySem.F.slot_list_repr.toG ?_
  cases its with
  | nil =>
    have hx : xs = [] := List.eq_nil_of_length_eq_zero (by rw [il]; rfl)
    subst hx
    have ht : ts = [] := List.eq_nil_of_length_eq_zero hlen
    subst ht
    exact call_list_repr_empty ⟨o, e1, e2⟩ e1 e4 ⟨_, _, rfl, .str _, H, I.tok _, ⟨_, rfl⟩, q⟩
  | cons y its =>
    refine wpAny_call (codeAny_call_builtin PySem.F.slot_list_repr.plain PySem.F.entry_list_repr (PySem.F.slot_list_repr.check _ _ _ _ _ _ _ _ ⟨o, e1, e2⟩ (PySem.F.args_list_repr_1 _) ?_))
    refine wpAny_list_repr_head (A := X.A.in1.in1) (g := []) hG (fun _ _ _ z => nomatch z) e1 e4 ?_
    refine wpAny_bind (m := newList []) (wpAny_newObj_type ?_)
    refine wpAny_pure ⟨PySem.F.quiet_list_repr_loop _, ?_⟩
    have I2 : Inv X pins σ H { s with heap := s.heap.push { cls := .type "list", data := .seq #[] } } := by
      have := I.kept (h' := s.heap.push { cls := .type "list", data := .seq #[] }) (t' := s.toks) fun b o e => Heap.get?_push_of_some _ e
      exact this
    have fp : FpOk X pins H s.heap.objs.size := I.fpOk (Nat.le_refl _) (I.hok.fresh (Nat.le_refl _))
    exact show_loopM hs hf F hb (A := X.A.in1) hG ⟨hr2.mono (by omega), rfl⟩ (fun e s' he => he) (b := 0) hl hlen each (by omega) fp (fun s' u J => ⟨_, _, rfl, .str _, H, J, ⟨u, rfl⟩, q⟩) _ 0 _ #[] 0 [] rfl (Nat.zero_le _) I2 (Heap.get?_push_size _ rfl) rfl rfl
end
/-! ### min of two pairs -/
theorem call_min2_walkH {prog : Program} {w : World} {A : Around} {E : Value → Shared → Prop} {s : Shared} {a b : Value} {Q : Value → Shared → Prop}
    (h : wpAny (model prog w) A.in1 (pyIter (.ref s.heap.objs.size)) (fun it s₂ => ∃ I fp wr G n P St H bt, it = .ref I ∧ WalksS prog w A.in1 I fp wr G n P St ∧ St 0 s₂ ∧ (∀ b ∈ fp, b < s₂.heap.objs.size) ∧ 0 < n ∧
      (∀ b o, H.get? b = some o → b ∉ wr) ∧ (∀ b o, H.get? b = some o → s₂.heap.get? b = some o) ∧ PySem.CmpIn prog w A.in1 .Lt H P bt ∧ ∀ v s', P (argBest bt (n - 1)) v → PySem.Moved wr G s₂ s' → Q v s') E
      { s with heap := s.heap.push { cls := .type "tuple", data := .seq #[a, b] } }) :
    wpAny (model prog w) A (call (.builtin "min") [a, b]) Q E s := by
  have hname : (toString "min" ++ toString ".loop" : String) = "min.loop" := by decide
  refine call_function_tree F.kind_min F.plain_min F.entry_min (F.args_min2 _ _) ?_
  show wpAny _ A.in1 (Builtin.Builtins.bindParams "min" ["key", "default"] 0 ⟨[], []⟩ >>= _) _ _ s
  refine wpAny_bind (wpAny_of_eq (show Builtin.Builtins.bindParams "min" ["key", "default"] 0 ⟨[], []⟩ = pure [none, none] from rfl) ?_)
  show wpAny _ A.in1 (newTuple [a, b] >>= _) _ _ s
  refine wpAny_bind (wpAny_newObj_type ?_)
  refine wpAny_bind (wpAny_mono h (fun it s₂ h₂ => ?_) fun _ _ e => e)
  obtain ⟨I, fp, wr, G, n, P, St, H, bt, rfl, W, hst, hfp, hn, hw, hkeep, hcmp, hQ⟩ := h₂
  refine wpAny_bind (wpAny_newObj_type ?_)
  have hSf : s₂.heap.objs.size ∉ fp := fun hm => Nat.lt_irrefl _ (hfp _ hm)
  rw [hname]
  refine wpAny_pure ⟨plainId_quiet F.plain_min_loop _, PySem.codeAny_min_loop_firstH W H hw bt hcmp s₂.heap.objs.size hSf (PySem.fresh_in hkeep) _ hn (fun b o e => Heap.get?_push_of_some _ (hkeep b o e)) (W.frame 0 s₂ _ s₂.toks hst (Nat.le_refl _) fun b _ o e => Heap.get?_push_of_some _ e) (Heap.get?_push_size _ rfl) fun v s' hP hm => ?_⟩
  exact hQ v s' hP (PySem.Moved.drop_new (tk := s₂.toks) hm (Nat.le_refl _))
def rMin2T : List V → Hp → VK → Prop := fun vs H Q => ∃ (t u : Addr) (p q : Int × Int), vs = [.ref t, .ref u] ∧ H t = some (.tup [.int p.1, .int p.2]) ∧ H u = some (.tup [.int q.1, .int q.2]) ∧ (ltP q p → Q (.ref u) H) ∧ (¬ ltP q p → Q (.ref t) H)
theorem cr_min2T {X : Cx} {k : Nat} (hc : X.calm = true) (hr : Room k X.A) : CallR X (.builtin "min") rMin2T := by
  intro pins s σ H vs us Q I r h
  obtain ⟨t, u, p, q, rfl, ht, hu', q1, q2⟩ := h
  obtain ⟨u1, u2, rfl, r1, r2⟩ := vals2 r
  cases r1
  cases r2
  have hu := hr.units
  have one : ∀ (t : Addr) (p : Int × Int), H t = some (.tup [.int p.1, .int p.2]) → Dp X.K H (.ref t) (PySem.W.Datum.toD p) := fun t p e => .tup (SqT.of e) (.cons (.int _) (.cons (.int _) .nil))
  obtain ⟨as, rs⟩ := Dp.readsAll I [PySem.W.Datum.toD p, PySem.W.Datum.toD q] [.ref t, .ref u] [.ref t, .ref u] (.cons (one t p ht) (.cons (one u q hu') .nil)) (.cons rfl (.cons rfl .nil))
  have hT : (s.heap.push { cls := .type "tuple", data := .seq #[.ref t, .ref u] }).IsTuple s.heap.objs.size #[.ref t, .ref u] := ⟨_, Heap.get?_push_size _ rfl, rfl, 0, rfl⟩
  have rs2 : ReadsAll (s.heap.push { cls := .type "tuple", data := .seq #[.ref t, .ref u] }) (#[Value.ref t, .ref u] : Array Value).toList [PySem.W.Datum.toD p, PySem.W.Datum.toD q] as := ReadsAll.keeps (fun b o e => Heap.get?_push_of_some _ e) rs
  have al : PySem.W.AlikeAll [PySem.W.Datum.toD p, PySem.W.Datum.toD q] := PySem.W.alikeAll_datum [p, q]
  have dl : PyData.depthAll [PySem.W.Datum.toD p, PySem.W.Datum.toD q] ≤ 1 := PySem.W.depthAll_map [p, q]
  refine call_min2_walkH (PySem.W.iter_tupleW (A := X.A.in1) (s := { s with heap := s.heap.push { cls := .type "tuple", data := .seq #[.ref t, .ref u] } }) (I.ok.hd hc) hT fun s₂ e W st hfp hw hk => ?_)
  refine ⟨_, _, _, _, _, _, _, (s.heap.push { cls := .type "tuple", data := .seq #[.ref t, .ref u] }), _, rfl, W, st, hfp, Nat.succ_pos _, hw, hk, PySem.W.cmpIn_lt (A := X.A.in1) (s := { s with heap := s.heap.push { cls := .type "tuple", data := .seq #[.ref t, .ref u] } }) rs2 al (by show X.A.units + 1 + _ < _; omega), fun v s' hP m => ?_⟩
  obtain ⟨h', tk, rfl, hk'⟩ := PySem.W.moved_old e rfl m
  have kept : ∀ b o, s.heap.get? b = some o → h'.get? b = some o := fun b o e => hk' b o (Heap.get?_push_of_some _ e)
  have eb : PySem.W.dataLt (PySem.W.Datum.toD q) (PySem.W.Datum.toD p) = PySem.W.DatumOrd.lt q p := PySem.W.DatumOrd.lt_eq q p
  by_cases c : PySem.W.DatumOrd.lt q p = true
  · have e1 : argBest (fun i j => PySem.W.dataLt ([PySem.W.Datum.toD p, PySem.W.Datum.toD q].getD i .none) ([PySem.W.Datum.toD p, PySem.W.Datum.toD q].getD j .none)) 1 = 1 := by
      simp [argBest, eb, c]
    have hP' : (#[Value.ref t, .ref u] : Array Value)[1]? = some v := by rw [← e1]; exact hP
    cases hP'
    exact ⟨.ref u, H, I.kept kept, rfl, q1 ((lt_pair q p).mp c)⟩
  · have e1 : argBest (fun i j => PySem.W.dataLt ([PySem.W.Datum.toD p, PySem.W.Datum.toD q].getD i .none) ([PySem.W.Datum.toD p, PySem.W.Datum.toD q].getD j .none)) 1 = 0 := by
      simp [argBest, eb, c]
    have hP' : (#[Value.ref t, .ref u] : Array Value)[0]? = some v := by rw [← e1]; exact hP
    cases hP'
    exact ⟨.ref t, H, I.kept kept, rfl, q2 fun h => c ((lt_pair q p).mpr h)⟩
end LT

set_option Elab.async false
set_option linter.all false
set_option maxRecDepth 100000
set_option maxHeartbeats 1600000
namespace LT
open PySem PySem.Spec PyProof.Rows L2 NdefX
/-! ### one of two readings -/
def tEi (t1 t2 : TE) : TE := fun σ H Q => t1 σ H Q ∨ t2 σ H Q
theorem pe_ei {X : Cx} {e : Expr} {t1 t2 : TE} (h1 : PE X e t1) (h2 : PE X e t2) : PE X e (tEi t1 t2) := ⟨fun pins s σ H Q I h => h.elim (fun h => h1.run pins s σ H Q I h) (fun h => h2.run pins s σ H Q I h)⟩
/-! ### len of an own thing -/
section
variable {X : Cx} {n : Nat} {f C : Addr} {fd : FuncData} {ps : List Str} {sp : Sp}
theorem run_len {A : Around} {pins : List (Addr × Obj)} {σ : L2.St} {H : Hp} {s : Shared} {Q : VK} {a : Addr}
    (F : FnOk X.prog X.w X.K X.mg X.base CX0 n f fd ps sp) (sb : L2.Sub X n A) (hb : L2.Binds X.K fd ps []) (I : Inv X pins σ H s)
    (h : sp [.ref a] H (fun z H' => ∃ t : Int, z = .int t ∧ 0 ≤ t ∧ t < 2 ^ 63 ∧ Q z H') E0) :
    wpAny (model X.prog X.w) A (call (.ref f) [.ref a]) (PySem.W.LenBack (EP X pins σ Q)) X.xe s := by
  have e0 : Env0 X.prog X.w X.K X.mg X.base A X.stack s H := by
    have e := I.env0
    exact ⟨by rw [sb.fr]; exact e.frames, e.mod, e.bs, e.bsz, e.funs, e.frf, e.hok, e.bare⟩
  have r2 : Vals [V.ref a] [Value.ref a] := .cons rfl .nil
  have hl := F.len _ _ _ _ h
  have b := hb s [.ref a] I.kIn (by simpa using hl)
  rw [List.append_nil] at b
  refine wpAny_call (codeAny_mono (F.run A X.stack s H ⟨[.ref a], []⟩ [.ref a] [.ref a] _ E0 sb.room e0 b r2 h) fun r s' hq => ?_)
  match r, hq with
  | .error _, hq => exact hq.elim
  | .ok .next, hq => exact hq.elim
  | .ok .brk, hq => exact hq.elim
  | .ok .cont, hq => exact hq.elim
  | .ok (.ret u), hq =>
    obtain ⟨z', H', I', rz, t, rfl, h0, h1, q⟩ := I.after hq
    obtain ⟨tk, rfl⟩ := rz
    exact ⟨⟨h0, h1⟩, .int t, H', I'.tok _, ⟨_, rfl⟩, q⟩
theorem call_len_own (hs : PySem.W.findIn X.K (.ref C) "__len__" = some (some (.ref f))) (hf : PySem.W.isFn X.K (.ref f) = true) (F : FnOk X.prog X.w X.K X.mg X.base CX0 n f fd ps sp) (hr : Room (n + 1) X.A) (hb : L2.Binds X.K fd ps []) :
    CallR X (.builtin "len") (fun xs H Q => ∃ a dx fs, xs = [.ref a] ∧ H a = some (.ins C dx fs) ∧ sp [.ref a] H (fun z H' => ∃ t : Int, z = .int t ∧ 0 ≤ t ∧ t < 2 ^ 63 ∧ Q z H') E0) := by
  intro pins s σ H xs us Q I r h
  obtain ⟨a, dx, fs, rfl, ha, h⟩ := h
  rw [Vals.ref1 r]
  obtain ⟨mA, J, _⟩ := ins_get I.hok ha
  obtain ⟨od, J, _⟩ := J.look
  obtain ⟨m, hF⟩ := I.fr
  exact PySem.W.len_K hF I.ok.mod.kin J hs hf (run_len F ⟨hr.in1, rfl⟩ hb I h)
end
/-! ### an own thing made within a try -/
section
variable {X : Cx} {CX : CXT} {k : Nat} {f C : Addr} {fd : FuncData} {ps : List Str} {sp : Sp} {E : L2.St → XK} {x : Str} {p pos : Pos} {e : Expr} {es : List Expr} {t : TA}
theorem run_makeAt {pins : List (Addr × Obj)} {σ : L2.St} {H : Hp} {s : Shared} {Q : VK} {us : List Value} {vs : List V} (M : Mk X.K C f) (F : FnOk X.prog X.w X.K X.mg X.base CX k f fd ps sp) (hr : Room (k + 1) X.A) (hb : L2.Binds X.K fd ps [])
    (hx : PassesAt CX X σ (E σ)) (I : Inv X pins σ H s) (r : Vals vs us)
    (h : ∀ x dx, H x = none → H dx = none → dx ≠ x → sp (.ref x :: vs) (upd (upd H dx (.own x)) x (.ins C dx [])) (fun v H2 => v = .non ∧ Q (.ref x) H2) (E σ)) :
    wpAny (model X.prog X.w) X.A (call (.ref C) us) (EP X pins σ Q) X.xe s := by
  have hq := h (s.heap.objs.size + 1) s.heap.objs.size (I.hok.fresh (Nat.le_succ _)) (I.hok.fresh (Nat.le_refl _)) (Nat.ne_of_lt (Nat.lt_succ_self _))
  have I2 := Inv.made (C := C) I
  have r2 : Vals (V.ref (s.heap.objs.size + 1) :: vs) (Value.ref (s.heap.objs.size + 1) :: us) := .cons rfl r
  have hl : (Value.ref (s.heap.objs.size + 1) :: us ++ []).length = ps.length := by
    have e := r2.length
    rw [F.len _ _ _ _ hq] at e
    rw [List.append_nil]
    exact e.symm
  have b := hb _ (Value.ref (s.heap.objs.size + 1) :: us) I2.kIn hl
  rw [List.append_nil] at b
  refine wpAny_call (make_map (f := f) I.kIn M.makes M.init (beq_iff_eq.mp M.fn) (codeAny_mono (F.run _ X.stack _ _ ⟨Value.ref (s.heap.objs.size + 1) :: us, []⟩ (Value.ref (s.heap.objs.size + 1) :: us) _ _ (E σ) (hr.make C us [])
    (I2.env0.make C us []) b r2 hq) fun r s' hq' => ?_))
  cases r with
  | error e => exact hx pins _ _ e s' I2 hq'
  | ok fl =>
    cases fl with
    | ret u =>
      obtain ⟨v, H', I3, rv, ev, q3⟩ := I2.after hq'
      subst ev
      exact ⟨rv, ⟨V.ref (s.heap.objs.size + 1), H', I3, rfl, q3⟩⟩
    | next => exact False.elim hq'
    | brk => exact False.elim hq'
    | cont => exact False.elim hq'
def tMakeAt (C : Addr) (sp : Sp) (E : L2.St → XK) (t : TA) : TE := fun σ H Q => t σ H fun vs H1 => ∀ x dx, H1 x = none → H1 dx = none → dx ≠ x → sp (.ref x :: vs) (upd (upd H1 dx (.own x)) x (.ins C dx [])) (fun v H2 => v = .non ∧ Q (.ref x) H2) (E σ)
theorem pe_makeAt (M : Mk X.K C f) (F : FnOk X.prog X.w X.K X.mg X.base CX k f fd ps sp) (hr : Room (k + 1) X.A) (hg : Gl X x) (hm : X.mg x = some (.ref C)) (hb : L2.Binds X.K fd ps []) (hx : ∀ σ, PassesAt CX X σ (E σ))
    (ha : PA X (e :: es) t) (hdb : (x == ("__debug__" : Str)) = false := by decide) (he : starEach (e :: es) X.env = (false, eval e X.env) :: starEach es X.env := by rfl) (hpl : (backTo pos (starEach es X.env)).any (·.1) = false := by rfl) :
    PE X (.Call (.Name x p) (e :: es) [] pos) (tMakeAt C sp E t) := by
  refine ⟨fun pins s σ H Q I h => ?_⟩
  refine wpAny_Call_Name_kw (ld_glob I hg hm ?_ hdb)
  refine PySem.W.callWith_K (h₀ := X.base) I.ok.mod.kin M.kp (thn (ha.run pos pins s σ H _ I h) fun us s1 ⟨vs, H1, I1, r, q⟩ => ⟨I1.kIn, ?_⟩) he hpl
  exact run_makeAt M F hr hb (hx σ) I1 r q
end
end LT

set_option Elab.async false
set_option linter.all false
set_option maxRecDepth 100000
set_option maxHeartbeats 1600000
set_option pp.maxSteps 700
/-! Own layer: repr of a tuple of three things, among them lists and tuples of things, and dicts. -/
namespace LT
open PySem PySem.Spec PyProof.Rows L2 NdefX
/-- a thing within a list -/
def Tn (H : Hp) (v : V) (d : PyData) : Prop := Th H v d ∧ d.hasDict = false
theorem Tn.mono {H H' : Hp} {v : V} {d : PyData} (h : Tn H v d) (s : Same H H') : Tn H' v d := ⟨h.1.mono s, h.2⟩
theorem Tn.dp {K : PySem.W.Frag} {H : Hp} {v : V} {d : PyData} (h : Tn H v d) : Dp K H v d := by
  cases h.1.sd (K := K) with
  | dp q _ => exact q
  | ed e => exact absurd h.2 (by simp [PyData.hasDict])
theorem Paired.map {α β : Type} {R S : α → β → Prop} (f : ∀ a b, R a b → S a b) : ∀ {xs : List α} {ys : List β}, Paired R xs ys → Paired S xs ys
  | _, _, .nil => .nil
  | _, _, .cons h r => .cons (f _ _ h) (Paired.map f r)
theorem tn_all {K : PySem.W.Frag} {H : Hp} : ∀ {vs : List V} {ds : List PyData}, Paired (Tn H) vs ds → DpAll K H vs ds
  | _, _, .nil => .nil
  | _, _, .cons h r => .cons h.dp (tn_all r)
theorem tn_no {H : Hp} : ∀ {vs : List V} {ds : List PyData}, Paired (Tn H) vs ds → PyData.hasDictAll ds = false
  | _, _, .nil => by simp [PyData.hasDictAll]
  | _, _, .cons h r => by simp [PyData.hasDictAll, h.2, tn_no r]
theorem tn_fit {H : Hp} : ∀ {vs : List V} {ds : List PyData}, Paired (Tn H) vs ds → PyData.showableAll ds = true ∧ PyData.depthAll ds ≤ 1 ∧ ((PyData.shownAll ds).map (·.length)).sum ≤ 1921 * vs.length ∧ (PyData.shownAll ds).length = vs.length
  | _, _, .nil => ⟨by simp [PyData.showableAll], by simp [PyData.depthAll], by simp [PyData.shownAll], by simp [PyData.shownAll]⟩
  | _, _, .cons h r => by
    obtain ⟨a, b, c⟩ := h.1.fit
    obtain ⟨a', b', c', d'⟩ := tn_fit r
    refine ⟨by simp [PyData.showableAll, a, a'], ?_, ?_, ?_⟩
    · simp only [PyData.depthAll]
      omega
    · simp only [PyData.shownAll, List.map_cons, List.sum_cons, List.length_cons]
      omega
    · simp only [PyData.shownAll, List.length_cons, d']
/-- what is handed to a round -/
inductive Sx (H : Hp) : V → PyData → Prop
  | th {v : V} {d : PyData} : Th H v d → Sx H v d
  | lst {a : Addr} {xs : List V} {ds : List PyData} : H a = some (.lst xs) → xs.length ≤ 100 → Paired (Tn H) xs ds → Sx H (.ref a) (.list ds)
  | tup {a : Addr} {xs : List V} {ds : List PyData} : H a = some (.tup xs) → xs.length ≤ 100 → Paired (Tn H) xs ds → Sx H (.ref a) (.tuple ds)
  | zz {a : Addr} : H a = some (.dK [(.inl 0, .int 0)]) → Sx H (.ref a) (.dict [(.int 0, .int 0)])
theorem Sx.mono {H H' : Hp} {v : V} {d : PyData} (h : Sx H v d) (s : Same H H') : Sx H' v d := by
  cases h with
  | th h => exact .th (h.mono s)
  | lst e l p => exact .lst (s _ _ e) l (Paired.map (fun _ _ h => h.mono s) p)
  | tup e l p => exact .tup (s _ _ e) l (Paired.map (fun _ _ h => h.mono s) p)
  | zz e => exact .zz (s _ _ e)
theorem Sx.fit {H : Hp} {v : V} {d : PyData} (h : Sx H v d) : d.showable = true ∧ d.depth ≤ 2 ∧ d.shown.length ≤ 200000 := by
  cases h with
  | th h =>
    obtain ⟨a, b, c⟩ := h.fit
    exact ⟨a, by omega, by omega⟩
  | lst e l p =>
    rename_i xs ds
    obtain ⟨a, b, c, d⟩ := tn_fit p
    refine ⟨by simpa [PyData.showable] using a, by simp only [PyData.depth]; omega, ?_⟩
    have := listText_len_le (PyData.shownAll ds)
    simp only [PyData.shown]
    omega
  | tup e l p =>
    rename_i xs ds
    obtain ⟨a, b, c, d⟩ := tn_fit p
    refine ⟨by simpa [PyData.showable] using a, by simp only [PyData.depth]; omega, ?_⟩
    have := tupleText_len_le (PyData.shownAll ds)
    simp only [PyData.shown]
    omega
  | zz e => exact ⟨by decide +kernel, by decide +kernel, by decide +kernel⟩
section
variable {X : Cx} {pins : List (Addr × Obj)} {σ : L2.St} {H : Hp} {s : Shared}
theorem Sx.reads (I : Inv X pins σ H s) {v : V} {d : PyData} {u : Value} (h : Sx H v d) (r : RelV v u) :
    ∃ as, Reads s.heap u d as ∧ (d.hasDict = true → sysModules ∉ as) := by
  cases h with
  | th h => exact (h.sd (K := X.K)).reads I r
  | lst e l p =>
    have hd : Dp X.K H _ _ := .lst (SqL.of e) (tn_all p)
    obtain ⟨as, q⟩ := Dp.reads I _ _ u hd r
    exact ⟨as, q, PyData.noDict_hsm (by simpa [PyData.hasDict] using tn_no p)⟩
  | tup e l p =>
    have hd : Dp X.K H _ _ := .tup (SqT.of e) (tn_all p)
    obtain ⟨as, q⟩ := Dp.reads I _ _ u hd r
    exact ⟨as, q, PyData.noDict_hsm (by simpa [PyData.hasDict] using tn_no p)⟩
  | zz h =>
    rename_i a
    cases r
    obtain ⟨_, hs, vs, rel, o, es, ep, ho, hx, hd, hko, hp, hn⟩ := I.hok a _ h
    cases rel with
    | cons r1 r2 =>
      cases r2
      rename_i kv
      obtain ⟨kk, uu⟩ := kv
      obtain ⟨e1, t, e2⟩ := r1
      cases e1
      cases e2
      generalize hes : es.toList = l at hp
      cases hp with
      | cons k1 k2 k3 =>
        cases k3
        rename_i e
        have k0 : keyIs (Sum.inl 0) e.key = true := k1
        obtain ⟨y, t', z, e3⟩ | ⟨_, _, z, _⟩ := keyIs_shape k0
        · cases z
          refine ⟨_, Reads.dict (as := []) (bs := []) ho hx.1 hd ?_ ?_, fun _ z => ?_⟩
          · rw [hes, List.map_cons, List.map_nil, e3]
            exact ReadsAll.cons (Reads.int _ _) .nil
          · rw [hes, List.map_cons, List.map_nil, k2]
            exact ReadsAll.cons (Reads.int _ _) .nil
          · have z2 : sysModules = a := by simpa using z
            rw [z2] at hs
            simp at hs
        · cases z
theorem Sx.all (I : Inv X pins σ H s) : ∀ {vs : List V} {ds : List PyData} {us : List Value}, Paired (Sx H) vs ds → Vals vs us →
    ∃ as bs, ReadsAll s.heap us ds as ∧ ReadAtMost s.heap (PyData.depthAll ds) bs ∧ ReprAllK X.prog X.w bs s.heap (PyData.depthAll ds) us (PyData.shownAll ds)
  | _, _, _, .nil, r => by
    cases r
    exact ⟨_, [], .nil, (fun _ h => nomatch h), by simp only [PyData.shownAll]; exact .nil⟩
  | _ :: _, d :: ds, _, .cons h hs, r => by
    cases r with
    | cons r1 r2 =>
      obtain ⟨f1, f2, f3⟩ := h.fit
      obtain ⟨as, q1, n1⟩ := h.reads I r1
      obtain ⟨b1, hb1, k1⟩ := ReprK.of_reads (prog := X.prog) (w := X.w) q1 f1 n1 (by rw [sizeLine_eq]; omega)
      obtain ⟨bs, b2, q2, hb2, k2⟩ := Sx.all I hs r2
      refine ⟨_, b1 ++ b2, .cons q1 q2, ?_, ?_⟩
      · simp only [PyData.depthAll]
        exact (hb1.mono (Nat.le_max_left _ _)).append (hb2.mono (Nat.le_max_right _ _))
      · simp only [PyData.depthAll, PyData.shownAll]
        exact .cons ((k1.more fun b hb => List.mem_append_left _ hb).level_le (Nat.le_max_left _ _)) (k2.more_le (fun b hb => List.mem_append_right _ hb) (Nat.le_max_right _ _))
/-- repr((a, b, c)) -/
def rRepr3 : List V → Hp → VK → Prop := fun xs H Q => ∃ (t : Addr) (a b c : V) (da db dc : PyData), xs = [.ref t] ∧ H t = some (.tup [a, b, c]) ∧ Sx H a da ∧ Sx H b db ∧ Sx H c dc ∧ Q (.str (PyData.tuple [da, db, dc]).shown) H
theorem call_repr3 (hG : X.A.guards = some []) (hu : X.A.units + 64 < cLine) : CallR X (.builtin "repr") rRepr3 := by
  intro pins s σ H xs us Q I r h
  obtain ⟨t, a, b, c, da, db, dc, rfl, ht, ha, hb, hc, q⟩ := h
  obtain ⟨u, rfl, ru⟩ := vals1 r
  cases ru
  obtain ⟨its, rv, ⟨o, ho, hcl, m, hd⟩, _⟩ := I.tuple (SqT.of ht)
  obtain ⟨as, bs, rd, hbs, hk⟩ := Sx.all I (.cons ha (.cons hb (.cons hc .nil))) rv
  obtain ⟨a1, a2, a3⟩ := ha.fit
  obtain ⟨b1, b2, b3⟩ := hb.fit
  obtain ⟨c1, c2, c3⟩ := hc.fit
  have dp2 : PyData.depthAll [da, db, dc] ≤ 2 := by
    simp only [PyData.depthAll]
    omega
  have hna : t ∉ bs := not_mem_of_deeper (.tuple ho hcl hd rd) (by simp only [PyData.depth]; omega) hbs
  have q2 : Q (.str (tupleText (PyData.shownAll [da, db, dc]))) H := by simpa only [PyData.shown] using q
  have hz : (tupleText (PyData.shownAll [da, db, dc])).length ≤ sizeLine := by
    have := tupleText_len_le (PyData.shownAll [da, db, dc])
    simp only [PyData.shownAll, List.map_cons, List.map_nil, List.sum_cons, List.sum_nil, List.length_cons, List.length_nil] at this
    simp only [PyData.shownAll]
    rw [sizeLine_eq]
    omega
  refine call_repr_slot (by omega) (show s.TypeIs (.ref t) "tuple" from ⟨o, ho, hcl⟩) PySem.F.slot_tuple_repr ?_
  exact call_tuple_reprK (A := X.A.in1) ho hcl hd hna (by simpa using hk) hG (fun b _ => Clear.nil b) (by show X.A.units + 1 + _ < cLine; omega) (fun _ _ e => e)
    (fun h' u tk hk' => ⟨_, _, rfl, ⟨.str _, H, I.kept hk', ⟨_, rfl⟩, q2⟩⟩) hz
end
end LT

set_option Elab.async false
set_option linter.all false
set_option maxRecDepth 100000
set_option maxHeartbeats 1600000
/-! Own layer: what the top of a program has left, put by name, for any law (tools/g.py writes the list of it). -/
namespace LT
open PySem PySem.Spec PyProof.Rows L2 NdefX
/-- an own error without a field -/
structure Ev (K : PySem.W.Frag) (mg : Str → Option Value) (x : Str) (D : Addr) : Prop where
  g : mg x = some (.ref D)
  x : PySem.W.excIn K D [.type "ValueError", .type "Exception", .type "BaseException", .type "object"] "ValueError.__new__" = true
  k : PySem.W.keepIn K (.ref D) = true
  b : PySem.W.subIn K (.ref D) (.type "BaseException") = some true
  t : PySem.W.typeIn K (.ref D) = some (.type "type")
/-- an own class -/
structure ClF (K : PySem.W.Frag) (mg : Str → Option Value) (x : Str) (C : Addr) : Prop where
  cl : Cls K C
  gl : mg x = some (.ref C)
  kp : PySem.W.keepIn K (.ref C) = true
/-- isinstance of an own thing -/
structure IsC (K : PySem.W.Frag) (C : Addr) : Prop where
  ha : PySem.W.findIn K (.ref C) "__class__" = some (some (.builtin "object.__class__"))
  hn : PySem.W.specialIn K (.builtin "object.__class__") "__get__" = some (some (.builtin "getset_descriptor.__get__"))
  ht : PySem.W.takesIn K (.builtin "object.__class__") = some true
  hm : PySem.W.mroIn K C (.type "object") = some true
  own : PySem.W.kitOne K (.ref C) (.ref C) = some true
  bt : ∀ T ∈ ["NoneType", "bool", "int", "str", "list", "tuple", "dict"], PySem.W.kitOne K (.type T) (.ref C) = some false
theorem Odd.kit {K : PySem.W.Frag} {C : Addr} {H : Hp} {v : V} (h : Odd H v) (Q : IsC K C) : ∃ t, TyX K H v t ∧ PySem.W.kitOne K t (.ref C) = some false := by
  cases h with
  | non => exact ⟨_, .base .non, Q.bt _ (by decide)⟩
  | bl b => exact ⟨_, .base (.bl b), Q.bt _ (by decide)⟩
  | int i => exact ⟨_, .base (.int i), Q.bt _ (by decide)⟩
  | str z => exact ⟨_, .base (.str z), Q.bt _ (by decide)⟩
  | lst e => exact ⟨_, .base (.lst e), Q.bt _ (by decide)⟩
  | tup e => exact ⟨_, .base (.tup e), Q.bt _ (by decide)⟩
  | dK e => exact ⟨_, .base (.dK e), Q.bt _ (by decide)⟩
theorem kit_self {K : PySem.W.Frag} {a : Addr} : PySem.W.kitOne K (.ref a) (.ref a) = some true := if_pos (c := ((Value.ref a) == (Value.ref a)) = true) (beq_self_eq_true (Value.ref a))
theorem cls_of {K : PySem.W.Frag} {t : Value} {C : Addr} {b : Bool} (i : PySem.W.isClsIn K C = true) (ty : PySem.W.typeIn K (.ref C) = some (.type "type")) (s : PySem.W.subIn K t (.ref C) = some b) : PySem.W.kitCls K t (.ref C) = some b := by
  have i' : (PySem.W.clsIn K C).isSome = true := i
  show (if ((PySem.W.clsIn K C).isSome && PySem.W.typeIn K (.ref C) == some (.type "type")) = true then PySem.W.subIn K t (.ref C) else none) = some b
  rw [i', ty]
  exact s
theorem kit_yes {K : PySem.W.Frag} {t : Value} {C : Addr} (i : PySem.W.isClsIn K C = true) (ty : PySem.W.typeIn K (.ref C) = some (.type "type")) (s : PySem.W.subIn K t (.ref C) = some true) : PySem.W.kitOne K t (.ref C) = some true := by
  unfold PySem.W.kitOne
  split
  · rfl
  · exact cls_of i ty s
theorem kit_no {K : PySem.W.Frag} {t : Value} {C : Addr} (i : PySem.W.isClsIn K C = true) (ty : PySem.W.typeIn K (.ref C) = some (.type "type")) (s : PySem.W.subIn K t (.ref C) = some false) (q : (t == .ref C) = false) : PySem.W.kitOne K t (.ref C) = some false := by
  unfold PySem.W.kitOne
  rw [q]
  exact cls_of i ty s
theorem kit_ve {K : PySem.W.Frag} {D : Addr} (s : PySem.W.subIn K (.ref D) (.type "ValueError") = some true) : PySem.W.kitOne K (.ref D) (.type "ValueError") = some true := by
  unfold PySem.W.kitOne
  split
  · rfl
  · show (if PySem.W.kitMeta "ValueError" = true then PySem.W.subIn K (.ref D) (.type "ValueError") else none) = some true
    rw [show PySem.W.kitMeta "ValueError" = true by decide +kernel]
    exact s
theorem exm_is {K : PySem.W.Frag} {t : Value} {C : Addr} {r : Bool} (b : PySem.W.subIn K (.ref C) (.type "BaseException") = some true) (i : PySem.W.isClsIn K C = true) (ty : PySem.W.typeIn K (.ref C) = some (.type "type")) (s : PySem.W.subIn K t (.ref C) = some r) : PySem.W.exmOne K t (.ref C) = some r := by
  unfold PySem.W.exmOne
  rw [b]
  exact cls_of i ty s
/-- the reading of len, K told (for use within comprehensions) -/
def rLenQ (K : PySem.W.Frag) : List V → Hp → VK → Prop := fun xs H Q => ∃ p ys, xs = [.ref p] ∧ (SqL K H p ys ∨ SqT K H p ys) ∧ Q (.int ys.length) H
/-! ### what the top has left -/
structure Left (K : PySem.W.Frag) (x : Str) (st : Stmt) (f : Addr) (oc : Value) (od an : Option Addr) (kV dc pm cd ct : Value) (sl : Array (Option Value)) : Prop where
  ns : PySem.W.nsIn K mainGlobals x = some (some (.ref f))
  lk : K.lookup f = some ⟨oc, od, .func (PySem.W.fnOf x x (defArgs st) (defBody st) (defScope st) .none kV dc pm an cd ct), sl⟩
  cd : PySem.W.codeIn K cd x = true
  kp : PySem.W.keepIn K (.ref f) = true
theorem Left.fn {K : PySem.W.Frag} {x : Str} {st : Stmt} {f : Addr} {oc : Value} {od an : Option Addr} {kV dc pm cd ct : Value} {sl : Array (Option Value)} (h : Left K x st f oc od an kV dc pm cd ct sl) :
    Fun K x x st f (PySem.W.fnOf x x (defArgs st) (defBody st) (defScope st) .none kV dc pm an cd ct) := fun_mk h.lk h.cd h.kp
structure LeftM (K : PySem.W.Frag) (C : Addr) (x q : Str) (st : Stmt) (f : Addr) (oc : Value) (od an : Option Addr) (kV dc pm cd ct : Value) (sl : Array (Option Value)) : Prop where
  at_ : PySem.W.findIn K (.ref C) x = some (some (.ref f))
  lk : K.lookup f = some ⟨oc, od, .func (PySem.W.fnOf x q (defArgs st) (defBody st) (defScope st) .none kV dc pm an cd ct), sl⟩
  cd : PySem.W.codeIn K cd q = true
  kp : PySem.W.keepIn K (.ref f) = true
  isf : PySem.W.isFn K (.ref f) = true
theorem LeftM.fn {K : PySem.W.Frag} {C : Addr} {x q : Str} {st : Stmt} {f : Addr} {oc : Value} {od an : Option Addr} {kV dc pm cd ct : Value} {sl : Array (Option Value)} (h : LeftM K C x q st f oc od an kV dc pm cd ct sl) :
    Fun K x q st f (PySem.W.fnOf x q (defArgs st) (defBody st) (defScope st) .none kV dc pm an cd ct) := fun_mk h.lk h.cd h.kp
theorem LeftM.me {K : PySem.W.Frag} {C : Addr} {x q : Str} {st : Stmt} {f : Addr} {oc : Value} {od an : Option Addr} {kV dc pm cd ct : Value} {sl : Array (Option Value)} (h : LeftM K C x q st f oc od an kV dc pm cd ct sl) :
    Meth K C x f := ⟨h.at_, h.isf, h.kp⟩
/-- a def with defaults -/
structure LeftD (K : PySem.W.Frag) (x : Str) (st : Stmt) (va : Array Value) (f T : Addr) (oc : Value) (od an : Option Addr) (kV dc pm cd ct : Value) (sl : Array (Option Value)) (oT : Value) (dT : Option Addr) (nT : Nat) (sT : Array (Option Value)) : Prop where
  ns : PySem.W.nsIn K mainGlobals x = some (some (.ref f))
  lk : K.lookup f = some ⟨oc, od, .func (PySem.W.fnOf x x (defArgs st) (defBody st) (defScope st) (.ref T) kV dc pm an cd ct), sl⟩
  cd : PySem.W.codeIn K cd x = true
  kp : PySem.W.keepIn K (.ref f) = true
  lT : K.lookup T = some ⟨oT, dT, .seq va nT, sT⟩
/-- a method with defaults -/
structure LeftMD (K : PySem.W.Frag) (C : Addr) (x q : Str) (st : Stmt) (va : Array Value) (f T : Addr) (oc : Value) (od an : Option Addr) (kV dc pm cd ct : Value) (sl : Array (Option Value)) (oT : Value) (dT : Option Addr) (nT : Nat) (sT : Array (Option Value)) : Prop where
  at_ : PySem.W.findIn K (.ref C) x = some (some (.ref f))
  lk : K.lookup f = some ⟨oc, od, .func (PySem.W.fnOf x q (defArgs st) (defBody st) (defScope st) (.ref T) kV dc pm an cd ct), sl⟩
  cd : PySem.W.codeIn K cd q = true
  kp : PySem.W.keepIn K (.ref f) = true
  isf : PySem.W.isFn K (.ref f) = true
  lT : K.lookup T = some ⟨oT, dT, .seq va nT, sT⟩
/-- an own error with super().__init__ -/
structure LeftE (K : PySem.W.Frag) (pr : Program) (fld q : Str) (st : Stmt) (C f cc c : Addr) (nm qn : Str) (N : Addr) (bs bm : List Value) (sn : List Str) (sub : List Value) (ab : Bool) (col : Option Bool) (dd : Option Addr) (k0 k1 k2 k3 k5 : Option Value) (oc : Value) (od : Option Addr)
    (kV doc pm : Value) (an : Option Addr) (ct : Value) (osl : Array (Option Value)) (ca : Value) (cb : Option Addr) (c3 : Array (Option Value)) (ka : Value) (kb : Option Addr) (kc : Array (Option Value)) (vs : Array Value) (fl : Str) (tf : Tok) : Prop where
  lk : K.lookup C = some (excClassObj nm qn C N bs bm true sn sub ab col dd k0 k1 k2 k3 k5 "ValueError.__new__")
  rv : PySem.HandSPX.refsVE bm = true
  sa : PySem.W.findIn K (.ref C) "__setattr__" = some (some (.builtin "object.__setattr__"))
  exC : PySem.W.subIn K (.ref C) (.type "BaseException") = some true
  tyC : PySem.W.typeIn K (.ref C) = some (.type "type")
  kC : PySem.W.keepIn K (.ref C) = true
  cell : K.lookup cc = some ⟨ca, cb, .cell (some (.ref C)), c3⟩
  code : K.lookup c = some ⟨ka, kb, .fields vs, kc⟩
  v2 : vs[2]? = some (.str fl tf)
  file : ((pr.main.file : Str) == fl) = true
  hsub : PySem.W.mroIn K C (.ref C) = some true
  sup : PySem.W.ks_superIn K C C "__init__" = some (some (.builtin "ValueError.__init__"))
  sB : PySem.W.subIn K (.ref C) (.type "ValueError") = some true
  op : PySem.W.nsIn K cStatics "thirdparty.any" = some none
  cd : PySem.W.codeIn K (.ref c) q = true
  fn : K.lookup f = some ⟨oc, od, .func (PySem.W.fnX "__init__" q (defArgs st) (defBody st) (defScope st) [(("__class__" : Str), cc)] .none kV doc pm an (.ref c) ct), osl⟩
  hno : PySem.W.findIn K (.ref C) fld = some none
  ini : PySem.W.findIn K (.ref C) "__init__" = some (some (.ref f))
  tI : PySem.W.typeIn K (.ref f) = some (.type "function")
end LT

set_option Elab.async false
set_option linter.all false
set_option maxRecDepth 100000
set_option maxHeartbeats 1600000
/-! Own layer: x != y, x an own thing with __eq__, y any thing. -/
namespace LT
open PySem PySem.Spec PyProof.Rows L2 NdefX
section
variable {prog : Program} {w : World} {A : Around} {E : Value → Shared → Prop} {s : Shared} {K : PySem.W.Frag} {x C f : Addr} {ox : Obj} {od : Option Obj}
theorem ne_ownA {Q : Value → Shared → Prop} {u tb : Value} (hu : A.units + 1 < cLine) (EC : EqC K C f) (X : K.In s.heap) (I : PySem.W.InstAt s.heap x ox C od) (hb : PySem.W.Looks (model prog w) s.heap (typeOf u) tb) (hn : PySem.W.notFirst K C tb = true)
    (h : wpAny (model prog w) A.in1 (call (.ref f) [.ref x, u]) (fun v s' => ∃ b, v = .bool b ∧ Q (.bool (!b)) s') E s) : wpAny (model prog w) A (richCompare .NotEq (.ref x) u) Q E s := by
  have one : wpAny (model prog w) A (tryCompare (.ref x) "__ne__" u) (fun r s' => ∃ v, r = some v ∧ Q v s') E s := by
    unfold tryCompare
    refine wpAny_bind (ifBound_B X I EC.ne PySem.F.slot_object_ne.bind ?_)
    refine wpAny_call (codeAny_call_builtin PySem.F.slot_object_ne.plain PySem.F.cmpEntry_ne (PySem.W.check_slot PySem.F.cmpKind_ne PySem.F.cmpSplit_ne (I.type.andThen (PySem.W.looks_mroIn X EC.ob)) (PySem.F.cmpArgs_ne _ _) ?_))
    unfold Builtin.«object.__ne__»
    refine wpAny_bind (m := slotArgs "__ne__" 1 _) (wpAny_pure ?_)
    refine wpAny_bind (m := cRoomFor _ _) (wpAny_cRoomFor (by show A.units + 1 < cLine; exact hu) ?_)
    refine wpAny_bind (m := callSpecialIfBound? (.ref x) (Str.ofString "__eq__") _) (PySem.W.ifBound_K X I EC.eq EC.fn (wpAny_mono h (fun v s' hv => ?_) fun _ _ e => e))
    obtain ⟨b, rfl, q⟩ := hv
    refine wpAny_bind (m := truthy (.bool b)) (wpAny_truthy_bool ?_)
    exact wpAny_pure (wpAny_pure ⟨_, rfl, q⟩)
  unfold richCompare
  simp only [oneThing_ref, cmpInfo]
  refine wpAny_holding (wpAny_bind (wpAny_cRoomFor (by omega) ?_))
  refine wpAny_bind (I.type.here (wpAny_bind (hb.here ?_)))
  split
  · rename_i q
    have e : PySem.W.subIn K tb (.ref C) = some false := by
      rcases Bool.or_eq_true_iff.mp hn with e | e
      · rw [beq_iff_eq.mp e] at q; simp at q
      · exact beq_iff_eq.mp e
    refine wpAny_bind ((PySem.W.looks_subIn X e).here ?_)
    simp only [Bool.false_eq_true, if_false]
    refine wpAny_bind (m := tryCompare (.ref x) _ u) (wpAny_mono one (fun r s' z => ?_) fun _ _ e => e)
    obtain ⟨v, rfl, hq⟩ := z
    exact wpAny_pure hq
  · refine wpAny_bind (wpAny_pure ?_)
    simp only [Bool.false_eq_true, if_false]
    refine wpAny_bind (m := tryCompare (.ref x) _ u) (wpAny_mono one (fun r s' z => ?_) fun _ _ e => e)
    obtain ⟨v, rfl, hq⟩ := z
    exact wpAny_pure hq
end
section
variable {X : Cx} {C f : Addr} {fd : FuncData} {ps : List Str} {sp : Sp} {n : Nat}
theorem beside_ty {pins : List (Addr × Obj)} {σ : L2.St} {H : Hp} {s : Shared} {v : V} {u : Value} (I : Inv X pins σ H s) (r : RelV v u) (hv : Beside X.K C H v) : ∃ t, PySem.W.Looks (model X.prog X.w) s.heap (typeOf u) t ∧ PySem.W.notFirst X.K C t = true := by
  have nt : ∀ T : String, (PySem.W.subIn X.K (.type T) (.ref C) == some false) = true → PySem.W.notFirst X.K C (.type T) = true := fun T e => by
    unfold PySem.W.notFirst
    rw [e, Bool.or_true]
  cases hv with
  | non => obtain ⟨P, Z, p, _⟩ := kit_of I r (.base .non); exact ⟨_, Z.ty _ _ I.kIn p, nt _ (by rfl)⟩
  | bl b => obtain ⟨P, Z, p, _⟩ := kit_of I r (.base (.bl b)); exact ⟨_, Z.ty _ _ I.kIn p, nt _ (by rfl)⟩
  | int i => obtain ⟨P, Z, p, _⟩ := kit_of I r (.base (.int i)); exact ⟨_, Z.ty _ _ I.kIn p, nt _ (by rfl)⟩
  | str z => obtain ⟨P, Z, p, _⟩ := kit_of I r (.base (.str z)); exact ⟨_, Z.ty _ _ I.kIn p, nt _ (by rfl)⟩
  | lst e => obtain ⟨P, Z, p, _⟩ := kit_of I r (.base (.lst e)); exact ⟨_, Z.ty _ _ I.kIn p, nt _ (by rfl)⟩
  | tup e => obtain ⟨P, Z, p, _⟩ := kit_of I r (.base (.tup e)); exact ⟨_, Z.ty _ _ I.kIn p, nt _ (by rfl)⟩
  | ins e =>
    cases r
    obtain ⟨mB, J', _⟩ := ins_get I.hok e
    obtain ⟨od', J', _⟩ := J'.look
    exact ⟨_, J'.type, by simp [PySem.W.notFirst]⟩
/-- x != y, x an own thing, y any -/
theorem op_ne_ownB (EC : EqC X.K C f) (F : FnOk X.prog X.w X.K X.mg X.base CX0 n f fd ps sp) (hr : Room (n + 1) X.A) (hb : L2.Binds X.K fd ps []) :
    OpR X (compareOp .NotEq) (fun x y H Q => ∃ (a dx : Addr) (fs : List (Str × V)), x = .ref a ∧ H a = some (.ins C dx fs) ∧ Beside X.K C H y ∧
      sp [.ref a, y] H (fun z H' => ∃ k, z = .bl k ∧ ∃ r, z = .bl r ∧ Q (.bl (!r)) H') E0) := by
  intro pins s σ H x y v u Q I rx ry h
  obtain ⟨a, dx, fs, rfl, ha, hy, h1⟩ := h
  cases rx
  obtain ⟨mA, J, _⟩ := ins_get I.hok ha
  obtain ⟨od, J, _⟩ := J.look
  obtain ⟨t, ht, hn⟩ := beside_ty (C := C) I ry hy
  refine ne_ownA (by have := hr.units; omega) EC I.kIn J ht hn (wpAny_mono (run_eq (v := y) (Q := fun z H' => ∃ r, z = .bl r ∧ Q (.bl (!r)) H') F ⟨hr.in1, rfl⟩ hb I ry h1) (fun z s' hz => ?_) fun _ _ x => x)
  obtain ⟨r, H', rfl, I', r', e, q⟩ := hz
  cases e
  exact ⟨r, rfl, .bl (!r), H', I', rfl, q⟩
end
end LT

set_option Elab.async false
set_option linter.all false
set_option maxRecDepth 100000
set_option maxHeartbeats 1600000
/-! Own layer: slices as take and drop. -/
namespace LT
open PySem PySem.Spec PyProof.Rows L2 NdefX
theorem sIx_pos {n d : Nat} {i : Int} (h : 0 ≤ i) : HT.sIx n d (some i) = min i.toNat n := by
  show (if i < 0 then (i + (n : Int)).toNat else min i.toNat n) = min i.toNat n
  rw [if_neg (by omega)]
theorem cut_take {α : Type} (f : α → V) (xs : List α) {i : Int} (h : 0 ≤ i) : cutV (xs.map f) none (some i) = (xs.take i.toNat).map f := by
  unfold cutV
  rw [HT.sIx_none, sIx_pos h, List.drop_zero, Nat.sub_zero, List.length_map, ← List.map_take]
  congr 1
  rw [List.take_eq_take_iff]
  omega
theorem cut_drop {α : Type} (f : α → V) (xs : List α) {i : Int} (h : 0 ≤ i) : cutV (xs.map f) (some i) none = (xs.drop i.toNat).map f := by
  unfold cutV
  rw [HT.sIx_none, sIx_pos h, List.length_map, ← List.map_drop, ← List.map_take]
  congr 1
  by_cases hi : i.toNat ≤ xs.length
  · rw [Nat.min_eq_left hi, List.take_of_length_le (by rw [List.length_drop]; exact Nat.le_refl _)]
  · rw [Nat.min_eq_right (by omega), Nat.sub_self, List.take_zero, List.drop_eq_nil_of_le (by omega)]
end LT

set_option Elab.async false
set_option linter.all false
set_option maxRecDepth 100000
namespace K44
open PySem PySem.Spec PyProof.Rows L2 LT NdefX
def topS (i : Nat) : Stmt := PySem.Challenge.pw_lightturns_k44_moved_equal_shown.main.body.getD i (.Pass ⟨0, 0, 0, 0⟩)
abbrev s_NoRound___init__ : Stmt := inClass (topS 5) 0
abbrev s_is_whole : Stmt := topS 8
abbrev s_is_from : Stmt := topS 9
abbrev s_is_within : Stmt := topS 10
abbrev s_Round___init__ : Stmt := inClass (topS 13) 0
abbrev s_Round_on : Stmt := inClass (topS 13) 1
abbrev s_Round_off : Stmt := inClass (topS 13) 2
abbrev s_Round_begins : Stmt := inClass (topS 13) 3
abbrev s_Round_on_in : Stmt := inClass (topS 13) 4
abbrev s_Round_least : Stmt := inClass (topS 13) 5
abbrev s_Round_moved : Stmt := inClass (topS 13) 6
abbrev s_Round___eq__ : Stmt := inClass (topS 13) 7
abbrev s_Round___len__ : Stmt := inClass (topS 13) 8
abbrev s_Round___repr__ : Stmt := inClass (topS 13) 9
abbrev s_check_turns : Stmt := topS 14
abbrev s_are_begins : Stmt := topS 15
abbrev s__law_cell : Stmt := topS 17
abbrev s__law_pot : Stmt := topS 18
abbrev s__law_take : Stmt := topS 19
abbrev s__law_number : Stmt := topS 20
abbrev s__law_begin : Stmt := topS 21
abbrev s__law_turn : Stmt := topS 22
abbrev s__law_begins : Stmt := topS 23
abbrev s__law_by : Stmt := topS 24
abbrev s__law_later : Stmt := topS 25
abbrev s__law_is : Stmt := topS 26
abbrev s__law_same : Stmt := topS 27
abbrev s__law_others : Stmt := topS 28
abbrev s__law_equal_right : Stmt := topS 29
abbrev s__law_refused : Stmt := topS 30
abbrev s_law : Stmt := topS 31
/-- all that the top has left -/
structure All (K : PySem.W.Frag) (P : Program) (mg : Str → Option Value) : Type where
  T : Tx mg
  t_MOST_KEEPERS : Tok
  g_MOST_KEEPERS : mg "MOST_KEEPERS" = some (.int (40) t_MOST_KEEPERS)
  C_LightsError : Addr
  g_LightsError : mg "LightsError" = some (.ref C_LightsError)
  C_Wrong : Addr
  g_Wrong : mg "Wrong" = some (.ref C_Wrong)
  C_Barred : Addr
  g_Barred : mg "Barred" = some (.ref C_Barred)
  C_NoNumber : Addr
  g_NoNumber : mg "NoNumber" = some (.ref C_NoNumber)
  C_NoRound : Addr
  g_NoRound : mg "NoRound" = some (.ref C_NoRound)
  C_NoSlot : Addr
  g_NoSlot : mg "NoSlot" = some (.ref C_NoSlot)
  f_NoRound : Addr
  cc_NoRound : Addr
  cd_NoRound : Addr
  d_NoRound : FuncData
  N_NoRound : Nx K P mg s_NoRound___init__ "NoRound" "NoRound.__init__" "field" C_NoRound f_NoRound cc_NoRound cd_NoRound d_NoRound
  xf_NoRound : XfC K C_NoRound
  x_NoRound : ExcC K C_NoRound
  kv_NoRound : PySem.W.kitOne K (.ref C_NoRound) (.type "ValueError") = some true
  E_NoSlot : Ev K mg "NoSlot" C_NoSlot
  x_NoSlot : ExcC K C_NoSlot
  kv_NoSlot : PySem.W.kitOne K (.ref C_NoSlot) (.type "ValueError") = some true
  E_NoNumber : Ev K mg "NoNumber" C_NoNumber
  x_NoNumber : ExcC K C_NoNumber
  kv_NoNumber : PySem.W.kitOne K (.ref C_NoNumber) (.type "ValueError") = some true
  kit_NoRound_Barred : PySem.W.kitOne K (.ref C_NoRound) (.ref C_Barred) = some false
  kit_NoRound_NoRound : PySem.W.kitOne K (.ref C_NoRound) (.ref C_NoRound) = some true
  kit_NoRound_NoSlot : PySem.W.kitOne K (.ref C_NoRound) (.ref C_NoSlot) = some false
  kit_NoRound_NoNumber : PySem.W.kitOne K (.ref C_NoRound) (.ref C_NoNumber) = some false
  kit_NoRound_Wrong : PySem.W.kitOne K (.ref C_NoRound) (.ref C_Wrong) = some true
  kit_NoSlot_Barred : PySem.W.kitOne K (.ref C_NoSlot) (.ref C_Barred) = some false
  kit_NoSlot_NoRound : PySem.W.kitOne K (.ref C_NoSlot) (.ref C_NoRound) = some false
  kit_NoSlot_NoSlot : PySem.W.kitOne K (.ref C_NoSlot) (.ref C_NoSlot) = some true
  kit_NoSlot_NoNumber : PySem.W.kitOne K (.ref C_NoSlot) (.ref C_NoNumber) = some false
  kit_NoSlot_Wrong : PySem.W.kitOne K (.ref C_NoSlot) (.ref C_Wrong) = some true
  kit_NoNumber_Barred : PySem.W.kitOne K (.ref C_NoNumber) (.ref C_Barred) = some false
  kit_NoNumber_NoRound : PySem.W.kitOne K (.ref C_NoNumber) (.ref C_NoRound) = some false
  kit_NoNumber_NoSlot : PySem.W.kitOne K (.ref C_NoNumber) (.ref C_NoSlot) = some false
  kit_NoNumber_NoNumber : PySem.W.kitOne K (.ref C_NoNumber) (.ref C_NoNumber) = some true
  kit_NoNumber_Wrong : PySem.W.kitOne K (.ref C_NoNumber) (.ref C_Wrong) = some true
  exm_NoRound_LightsError : PySem.W.exmOne K (.ref C_NoRound) (.ref C_LightsError) = some true
  exm_NoSlot_LightsError : PySem.W.exmOne K (.ref C_NoSlot) (.ref C_LightsError) = some true
  exm_NoNumber_LightsError : PySem.W.exmOne K (.ref C_NoNumber) (.ref C_LightsError) = some true
  C_Round : Addr
  Z_Round : ClF K mg "Round" C_Round
  n_Round_slots_on : PySem.W.findIn K (.ref C_Round) "slots_on" = some none
  n_Round_slots_off : PySem.W.findIn K (.ref C_Round) "slots_off" = some none
  n_Round_first_slots : PySem.W.findIn K (.ref C_Round) "first_slots" = some none
  I_Round : IsC K C_Round
  f_Round___init__ : Addr
  d_Round___init__ : FuncData
  h_Round___init__ : Mth K C_Round "__init__" "Round.__init__" ["self", "on", "off", "begins"] s_Round___init__ f_Round___init__ d_Round___init__
  M_Round : Mk K C_Round f_Round___init__
  f_Round_on : Addr
  d_Round_on : FuncData
  h_Round_on : Mth K C_Round "on" "Round.on" ["self"] s_Round_on f_Round_on d_Round_on
  f_Round_off : Addr
  d_Round_off : FuncData
  h_Round_off : Mth K C_Round "off" "Round.off" ["self"] s_Round_off f_Round_off d_Round_off
  f_Round_begins : Addr
  d_Round_begins : FuncData
  h_Round_begins : Mth K C_Round "begins" "Round.begins" ["self"] s_Round_begins f_Round_begins d_Round_begins
  f_Round_on_in : Addr
  d_Round_on_in : FuncData
  h_Round_on_in : Mth K C_Round "on_in" "Round.on_in" ["self", "slot"] s_Round_on_in f_Round_on_in d_Round_on_in
  f_Round_least : Addr
  d_Round_least : FuncData
  h_Round_least : Mth K C_Round "least" "Round.least" ["self"] s_Round_least f_Round_least d_Round_least
  f_Round_moved : Addr
  d_Round_moved : FuncData
  h_Round_moved : Mth K C_Round "moved" "Round.moved" ["self", "by"] s_Round_moved f_Round_moved d_Round_moved
  f_Round___eq__ : Addr
  d_Round___eq__ : FuncData
  h_Round___eq__ : Mth K C_Round "__eq__" "Round.__eq__" ["self", "other"] s_Round___eq__ f_Round___eq__ d_Round___eq__
  Q_Round : EqC K C_Round f_Round___eq__
  f_Round___len__ : Addr
  d_Round___len__ : FuncData
  h_Round___len__ : Mth K C_Round "__len__" "Round.__len__" ["self"] s_Round___len__ f_Round___len__ d_Round___len__
  f_Round___repr__ : Addr
  d_Round___repr__ : FuncData
  h_Round___repr__ : Mth K C_Round "__repr__" "Round.__repr__" ["self"] s_Round___repr__ f_Round___repr__ d_Round___repr__
  f_is_whole : Addr
  d_is_whole : FuncData
  h_is_whole : Has K mg "is_whole" ["thing"] s_is_whole f_is_whole d_is_whole
  f_is_from : Addr
  d_is_from : FuncData
  h_is_from : Has K mg "is_from" ["thing", "least"] s_is_from f_is_from d_is_from
  f_is_within : Addr
  d_is_within : FuncData
  h_is_within : Has K mg "is_within" ["thing", "least", "most"] s_is_within f_is_within d_is_within
  f_check_turns : Addr
  d_check_turns : FuncData
  h_check_turns : Has K mg "check_turns" ["on", "off"] s_check_turns f_check_turns d_check_turns
  f_are_begins : Addr
  d_are_begins : FuncData
  h_are_begins : Has K mg "are_begins" ["thing", "whole"] s_are_begins f_are_begins d_are_begins
  f__law_cell : Addr
  d__law_cell : FuncData
  h__law_cell : Has K mg "_law_cell" ["_law_script", "_law_k"] s__law_cell f__law_cell d__law_cell
  f__law_pot : Addr
  d__law_pot : FuncData
  h__law_pot : Has K mg "_law_pot" ["_law_script", "_law_k"] s__law_pot f__law_pot d__law_pot
  f__law_take : Addr
  d__law_take : FuncData
  h__law_take : Has K mg "_law_take" ["_law_pot_here", "_law_many"] s__law_take f__law_take d__law_take
  f__law_number : Addr
  d__law_number : FuncData
  h__law_number : Has K mg "_law_number" ["_law_pot_here", "_law_most"] s__law_number f__law_number d__law_number
  f__law_begin : Addr
  d__law_begin : FuncData
  h__law_begin : Has K mg "_law_begin" ["_law_pot_here", "_law_turn_here"] s__law_begin f__law_begin d__law_begin
  f__law_turn : Addr
  d__law_turn : FuncData
  h__law_turn : Has K mg "_law_turn" ["_law_pot_here"] s__law_turn f__law_turn d__law_turn
  f__law_begins : Addr
  d__law_begins : FuncData
  h__law_begins : Has K mg "_law_begins" ["_law_pot_here", "_law_turn_here"] s__law_begins f__law_begins d__law_begins
  f__law_by : Addr
  d__law_by : FuncData
  h__law_by : Has K mg "_law_by" ["_law_pot_here", "_law_turn_here"] s__law_by f__law_by d__law_by
  f__law_later : Addr
  d__law_later : FuncData
  h__law_later : Has K mg "_law_later" ["_law_begin_here", "_law_much", "_law_turn_here"] s__law_later f__law_later d__law_later
  f__law_is : Addr
  d__law_is : FuncData
  h__law_is : Has K mg "_law_is" ["_law_made", "_law_on", "_law_off", "_law_begins_here"] s__law_is f__law_is d__law_is
  f__law_same : Addr
  d__law_same : FuncData
  h__law_same : Has K mg "_law_same" ["_law_one", "_law_other", "_law_due"] s__law_same f__law_same d__law_same
  f__law_others : Addr
  d__law_others : FuncData
  h__law_others : Has K mg "_law_others" ["_law_pot_here", "_law_on", "_law_off", "_law_begins_here"] s__law_others f__law_others d__law_others
  f__law_equal_right : Addr
  d__law_equal_right : FuncData
  h__law_equal_right : Has K mg "_law_equal_right" ["_law_pot_here", "_law_made", "_law_on", "_law_off", "_law_begins_here"] s__law_equal_right f__law_equal_right d__law_equal_right
  f__law_refused : Addr
  d__law_refused : FuncData
  h__law_refused : Has K mg "_law_refused" ["_law_made", "_law_thing"] s__law_refused f__law_refused d__law_refused
end K44

set_option Elab.async false
set_option linter.all false
set_option maxRecDepth 100000
set_option maxHeartbeats 1600000
namespace K44
open PySem PySem.Spec PyProof.Rows L2 LT NdefX
theorem scWhole : FnScope ["thing"] ["thing"] (defScope s_is_whole) := ⟨rfl, rfl, rfl, by decide +kernel, rfl, by decide +kernel, by decide +kernel⟩
theorem scFrom : FnScope ["thing", "least"] ["thing", "least"] (defScope s_is_from) := ⟨rfl, rfl, rfl, by decide +kernel, rfl, by decide +kernel, by decide +kernel⟩
theorem scWithin : FnScope ["thing", "least", "most"] ["thing", "least", "most"] (defScope s_is_within) := ⟨rfl, rfl, rfl, by decide +kernel, rfl, by decide +kernel, by decide +kernel⟩
theorem scErr : NScope ["self", "field", "__class__"] ["self", "field"] ["__class__"] (defScope s_NoRound___init__) := nscope_by (by decide +kernel)
theorem scCheck : FnScope ["on", "off"] ["on", "off"] (defScope s_check_turns) := ⟨rfl, rfl, rfl, by decide +kernel, rfl, by decide +kernel, by decide +kernel⟩
theorem scBegins : FnScope ["thing", "whole", "begin"] ["thing", "whole"] (defScope s_are_begins) := ⟨rfl, rfl, rfl, by decide +kernel, rfl, by decide +kernel, by decide +kernel⟩
theorem scInit : FnScope ["self", "on", "off", "begins"] ["self", "on", "off", "begins"] (defScope s_Round___init__) := ⟨rfl, rfl, rfl, by decide +kernel, rfl, by decide +kernel, by decide +kernel⟩
def spWhole : Sp := fun vs H Q _ => ∃ v, vs = [v] ∧ Odd H v ∧ Q (.bl (wholeB v)) H
def spFrom : Sp := fun vs H Q _ => ∃ v l, vs = [v, .int l] ∧ Odd H v ∧ Q (.bl (fromB v l)) H
def spWithin : Sp := fun vs H Q _ => ∃ v l m, vs = [v, .int l, .int m] ∧ Odd H v ∧ Q (.bl (withinB v l m)) H
section
variable {P : Program} {w : World} {K : PySem.W.Frag} {mg : Str → Option Value} {base : Heap}
theorem ok_whole {f : Addr} {fd : FuncData} {k : Nat} (F : Fun K "is_whole" "is_whole" s_is_whole f fd) (T : Tx mg) : FnOk P w K mg base CX0 (k + 1) f fd ["thing"] spWhole := by
  refine F.ok scWhole (fun vs H Q E h => ?_) (fun cdv A outer s H vs Q E hr h => ?_)
  · obtain ⟨v, rfl, _⟩ := h
    rfl
  · obtain ⟨v, rfl, hv, q⟩ := h
    refine ⟨_, pss_one (ps_ret (pe_and (pe_callB call_isi (by rfl) T.isi (by decide +kernel) (pa_cons (pv 0) (pa_cons (pe_bltn (v := .ty "int") (by rfl) T.int (by decide +kernel) rfl) pa_nil)))
      (pe_one (pe_not (pe_callB call_isi (by rfl) T.isi (by decide +kernel) (pa_cons (pv 0) (pa_cons (pe_bltn (v := .ty "bool") (by rfl) T.bool (by decide +kernel) rfl) pa_nil))))))), ?_⟩
    obtain ⟨t, ty, k1, k2⟩ := hv.ty (K := K)
    refine ⟨_, rfl, v, .ty "int", t, _, isInt v, rfl, .ty _, ty, k1, _, rfl, ?_⟩
    rw [← whole_eq v] at q
    cases hb : isInt v with
    | false =>
      rw [hb] at q
      exact q
    | true =>
      rw [hb] at q
      exact ⟨_, rfl, v, .ty "bool", t, _, isBl v, rfl, .ty _, ty, k2, _, rfl, q⟩
theorem ok_from {f fW : Addr} {fd fdW : FuncData} {k : Nat} (F : Fun K "is_from" "is_from" s_is_from f fd) (T : Tx mg) (FW : Has K mg "is_whole" ["thing"] s_is_whole fW fdW) : FnOk P w K mg base CX0 (k + 2) f fd ["thing", "least"] spFrom := by
  have GW : FnOk P w K mg base CX0 (k + 1) fW fdW ["thing"] spWhole := ok_whole FW.fn T
  refine F.ok scFrom (fun vs H Q E h => ?_) (fun cdv A outer s H vs Q E hr h => ?_)
  · obtain ⟨v, l, rfl, _⟩ := h
    rfl
  · obtain ⟨v, l, rfl, hv, q⟩ := h
    refine ⟨_, pss_one (ps_ret (pe_and (pe_call GW hr (by rfl) FW.gl FW.fn.kp FW.bd .nil pass0 (pa_cons (pv 0) pa_nil)) (pe_one (pe_cmpR op_ge (pv 0) (pv 1) (nomark _))))), ?_⟩
    refine ⟨_, rfl, v, rfl, hv, _, rfl, ?_⟩
    cases hv with
    | int i => exact ⟨_, rfl, _, rfl, i, l, rfl, rfl, q⟩
    | _ => exact q
theorem ok_within {f fW : Addr} {fd fdW : FuncData} {k : Nat} (F : Fun K "is_within" "is_within" s_is_within f fd) (T : Tx mg) (FW : Has K mg "is_whole" ["thing"] s_is_whole fW fdW) : FnOk P w K mg base CX0 (k + 2) f fd ["thing", "least", "most"] spWithin := by
  have GW : FnOk P w K mg base CX0 (k + 1) fW fdW ["thing"] spWhole := ok_whole FW.fn T
  refine F.ok scWithin (fun vs H Q E h => ?_) (fun cdv A outer s H vs Q E hr h => ?_)
  · obtain ⟨v, l, m, rfl, _⟩ := h
    rfl
  · obtain ⟨v, l, m, rfl, hv, q⟩ := h
    refine ⟨_, pss_one (ps_ret (pe_and (pe_call GW hr (by rfl) FW.gl FW.fn.kp FW.bd .nil pass0 (pa_cons (pv 0) pa_nil)) (pe_one (pe_chain op_le op_le (pv 1) (pv 0) (pv 2))))), ?_⟩
    refine ⟨_, rfl, v, rfl, hv, _, rfl, ?_⟩
    cases hv with
    | int i =>
      refine ⟨_, rfl, _, rfl, l, i, rfl, rfl, _, rfl, ?_⟩
      have q' : Q (.bl (decide (l ≤ i) && decide (i ≤ m))) H := q
      cases h : decide (l ≤ i) with
      | true =>
        rw [h] at q'
        exact ⟨_, rfl, i, m, rfl, rfl, q'⟩
      | false =>
        rw [h] at q'
        exact q'
    | _ => exact q
/-! ### NoRound -/
abbrev Nr (K : PySem.W.Frag) (P : Program) (mg : Str → Option Value) (CN fN cc c : Addr) (fdN : FuncData) : Prop := Nx K P mg s_NoRound___init__ "NoRound" "NoRound.__init__" "field" CN fN cc c fdN
theorem ok_err {C fN cc c : Addr} {fdN : FuncData} (N : Nr K P mg C fN cc c fdN) : FnOk P w K mg base CX0 1 fN fdN ["self", "field"] (spErr C "field") := by
  refine sup_of (pr := ["field"]) (pl := fun _ => _) N.sup N.lk scErr rfl rfl (fun vs H Q E h => ?_) (fun _ => rfl) (fun _ => rfl) (fun _ => rfl) (fun _ e => ?_) (fun _ => rfl) (fun A outer s H vs Q E hr h => ?_)
  · obtain ⟨a, z, rfl, _⟩ := h
    rfl
  · unfold interactive
    rw [e]
    rfl
  · obtain ⟨a, z, rfl, hz, ha, q⟩ := h
    refine ⟨a, [.str z], _, _, rfl, ha, pa_cons (pe_joined (.cons pe_str (.cons (pe_fmt (pv 1)) .nil))) pa_nil, pss_one (ps_ost (pv 0) (pv 1)), ?_⟩
    refine ⟨_, rfl, ?_, _, rfl, .inl ⟨z, rfl, by rw [sizeLine_eq]; omega, _, rfl, ?_, ?_⟩⟩
    · rw [nil_app]; decide +kernel
    · rw [nil_app, strLen_append, sizeLine_eq, show (Str.ofString "no round by its ").length = 16 by decide +kernel]
      omega
    · exact ⟨by show 1 ≤ 1000; decide, ha, _, rfl, _, rfl, a, C, rfl, N.sup.oex, N.hno, .inl ⟨ha, fun dx n1 n2 => q dx n1 n2⟩⟩
/-! ### on and off -/
def turnF (a b : V) : Option Str := if fromB a 1 = true then (if fromB b 0 = true then none else some "off") else some "on"
def Bad (CN : Addr) (H : Hp) (E : XK) (z : Str) : Prop := ∀ d H', H d = none → Same H H' → H' d = some (.xd [("field", .str z)]) → E (.ref CN) (some d) H'
theorem Bad.mono {CN : Addr} {H H1 : Hp} {E : XK} {z : Str} (h : Bad CN H E z) (s : Same H H1) : Bad CN H1 E z := fun d H' nd sm hd => h d H' (s.free nd) (s.trans sm) hd
def spCheck (CN : Addr) : Sp := fun vs H Q E => ∃ a b, vs = [a, b] ∧ Odd H a ∧ Odd H b ∧ (turnF a b = none → Q .non H) ∧ (∀ z, turnF a b = some z → Bad CN H E z)
theorem ok_check {f fF fW CN fN cc c : Addr} {fd fdF fdW fdN : FuncData} {k : Nat} (F : Fun K "check_turns" "check_turns" s_check_turns f fd) (T : Tx mg) (N : Nr K P mg CN fN cc c fdN)
    (FF : Has K mg "is_from" ["thing", "least"] s_is_from fF fdF) (FW : Has K mg "is_whole" ["thing"] s_is_whole fW fdW) : FnOk P w K mg base (L2.CX P w) (k + 3) f fd ["on", "off"] (spCheck CN) := by
  have GF : FnOk P w K mg base CX0 (k + 2) fF fdF ["thing", "least"] spFrom := ok_from FF.fn T FW
  have GN : FnOk P w K mg base CX0 1 fN fdN ["self", "field"] (spErr CN "field") := ok_err N
  refine F.okX scCheck (fun vs H Q E h => ?_) (fun cdv A outer s H vs Q E hr h => ?_)
  · obtain ⟨a, b, rfl, _⟩ := h
    rfl
  · obtain ⟨a, b, rfl, oa, ob, q1, q2⟩ := h
    have hr2 : Room 2 _ := hr.mono (by omega)
    refine ⟨_, pss_cons (ps_if (pt_not (pt_val (pe_call GF hr (by rfl) FF.gl FF.fn.kp FF.bd .nil pass0 (pa_cons (pv 0) (pa_cons pe_int pa_nil)))))
        (pss_one (ps_raise rfl (takes_of rfl rfl rfl rfl) (pmk_oex N.sup.oex N.ini N.tI GN hr2 N.bd .nil pass0 (by rfl) N.gl (pa_cons pe_str pa_nil)))) pss_nil)
      (pss_one (ps_if (pt_not (pt_val (pe_call GF hr (by rfl) FF.gl FF.fn.kp FF.bd .nil pass0 (pa_cons (pv 1) (pa_cons pe_int pa_nil)))))
        (pss_one (ps_raise rfl (takes_of rfl rfl rfl rfl) (pmk_oex N.sup.oex N.ini N.tI GN hr2 N.bd .nil pass0 (by rfl) N.gl (pa_cons pe_str pa_nil)))) pss_nil)), ?_⟩
    have bad : ∀ z : Str, z.length ≤ 1000 → turnF a b = some z → ∀ x, H x = none → spErr CN "field" (.ref x :: ([.str z] ++ [])) (upd H x (exo x CN none))
        (fun v H2 => v = .non ∧ ∃ (d : Addr) (fs : List (Str × V)), H2 x = some (exo x CN (some d)) ∧ H2 d = some (exd d fs) ∧ H d = none ∧ E (.ref CN) (some d) (upd (del H2 x) d (.xd fs))) (fun _ _ _ => False) :=
      fun z hz hb x nx => err_made nx hz (fun d H' nd sm hd => q2 z hb d H' nd sm hd)
    refine ⟨_, rfl, a, 1, rfl, oa, _, rfl, ?_⟩
    by_cases h1 : fromB a 1 = true
    · rw [h1]
      refine ⟨_, rfl, b, 0, rfl, ob, _, rfl, ?_⟩
      by_cases h2 : fromB b 0 = true
      · rw [h2]
        exact q1 (by unfold turnF; rw [if_pos h1, if_pos h2])
      · rw [bool_false h2]
        exact ⟨by show 1 ≤ 1000; decide, bad "off" (by decide +kernel) (by unfold turnF; rw [if_pos h1, if_neg h2])⟩
    · rw [bool_false h1]
      exact ⟨by show 1 ≤ 1000; decide, bad "on" (by decide +kernel) (by unfold turnF; rw [if_neg h1])⟩
/-! ### begins, where they are -/
theorem ps_no {X : Cx} {st : Stmt} : PS X st (fun _ _ _ => False) := ⟨fun _ _ _ _ _ _ h => h.elim⟩
theorem kit_lt (x : String) (h : x = "list" ∨ x = "tuple") : PySem.W.kitAny K (.type x) [.type "list", .type "tuple"] = some true := by
  rcases h with rfl | rfl
  · exact kitAny_cons (b := true) (kit_ty (show kitB "list" "list" = some true by decide +kernel)) nofun (fun _ => rfl)
  · exact kitAny_cons (b := false) (kit_ty (show kitB "tuple" "list" = some false by decide +kernel)) (fun _ => kitAny_cons (b := true) (kit_ty (show kitB "tuple" "tuple" = some true by decide +kernel)) nofun (fun _ => rfl)) nofun
theorem all_true (bs : List Bool) (h : ∀ b ∈ bs, b = true) : bs.all id = true := by
  rw [List.all_eq_true]
  exact fun b hb => h b hb
theorem small1000 {n : Nat} (h : n ≤ 1000) : n < sizeLine := by rw [sizeLine_eq]; omega
def Most (mg : Str → Option Value) : Prop := ∃ t, mg "MOST_KEEPERS" = some (.int 40 t)
/-- what are_begins makes of a thing: what it holds, where it is a list or a tuple -/
inductive Bg (H : Hp) : V → Option (List V) → Prop
  | non : Bg H .non none
  | bl (b : Bool) : Bg H (.bl b) none
  | int (i : Int) : Bg H (.int i) none
  | str (z : Str) : Bg H (.str z) none
  | dK {a : Addr} {kvs : List (Key × V)} : H a = some (.dK kvs) → Bg H (.ref a) none
  | lst {a : Addr} {xs : List V} : H a = some (.lst xs) → (∀ x ∈ xs, Odd H x) → Bg H (.ref a) (some xs)
  | tup {a : Addr} {xs : List V} : H a = some (.tup xs) → (∀ x ∈ xs, Odd H x) → Bg H (.ref a) (some xs)
theorem Bg.mono {H H' : Hp} {v : V} {o : Option (List V)} (h : Bg H v o) (s : Same H H') : Bg H' v o := by
  cases h with
  | non => exact .non
  | bl b => exact .bl b
  | int i => exact .int i
  | str z => exact .str z
  | dK e => exact .dK (s _ _ e)
  | lst e g => exact .lst (s _ _ e) fun x hx => (g x hx).mono s
  | tup e g => exact .tup (s _ _ e) fun x hx => (g x hx).mono s
def begB (o : Option (List V)) (wh : Int) : Bool := match o with
  | none => false
  | some xs => decide (xs.length ≤ 40) && (xs.map fun x => withinB x 0 (wh - 1)).all id
theorem Bg.ty {H : Hp} {v : V} {o : Option (List V)} (h : Bg H v o) : ∃ t : Value, TyX K H v t ∧ PySem.W.kitAny K t [.type "list", .type "tuple"] = some o.isSome := by
  have no : ∀ x : String, kitB x "list" = some false → kitB x "tuple" = some false → PySem.W.kitAny K (.type x) [.type "list", .type "tuple"] = some false := fun x h1 h2 =>
    kitAny_cons (b := false) (kit_ty h1) (fun _ => kitAny_cons (b := false) (kit_ty h2) (fun _ => rfl) nofun) nofun
  cases h with
  | non => exact ⟨_, .base .non, no "NoneType" (by decide +kernel) (by decide +kernel)⟩
  | bl b => exact ⟨_, .base (.bl b), no "bool" (by decide +kernel) (by decide +kernel)⟩
  | int i => exact ⟨_, .base (.int i), no "int" (by decide +kernel) (by decide +kernel)⟩
  | str z => exact ⟨_, .base (.str z), no "str" (by decide +kernel) (by decide +kernel)⟩
  | dK e => exact ⟨_, .base (.dK e), no "dict" (by decide +kernel) (by decide +kernel)⟩
  | lst e _ => exact ⟨_, .base (.lst e), kit_lt "list" (.inl rfl)⟩
  | tup e _ => exact ⟨_, .base (.tup e), kit_lt "tuple" (.inr rfl)⟩
def spBegins : Sp := fun vs H Q _ => ∃ (v : V) (wh : Int) (o : Option (List V)), vs = [v, .int wh] ∧ Bg H v o ∧ ∀ H', Same H H' → Q (.bl (begB o wh)) H'
theorem ok_begins {f fI fW : Addr} {fd fdI fdW : FuncData} {k : Nat} (F : Fun K "are_begins" "are_begins" s_are_begins f fd) (T : Tx mg) (hM : Most mg)
    (FI : Has K mg "is_within" ["thing", "least", "most"] s_is_within fI fdI) (FW : Has K mg "is_whole" ["thing"] s_is_whole fW fdW) : FnOk P w K mg base CX0 (k + 3) f fd ["thing", "whole"] spBegins := by
  have GI : FnOk P w K mg base CX0 (k + 2) fI fdI ["thing", "least", "most"] spWithin := ok_within FI.fn T FW
  obtain ⟨tM, gM⟩ := hM
  refine F.ok scBegins (fun vs H Q E h => ?_) (fun cdv A outer s H vs Q E hr h => ?_)
  · obtain ⟨v, wh, o, rfl, _⟩ := h
    rfl
  · obtain ⟨v, wh, o, rfl, hB, q⟩ := h
    have nd := scBegins.nd
    refine ⟨_, pss_cons (ps_if (PW.pt (pw_or (pt_not (pt_val (pe_callB call_isiT (by rfl) T.isi (by decide +kernel) (pa_cons (pv 0) (pa_cons (pe_tup (pa_cons (pe_bltn (v := .ty "list") (by rfl) T.list (by decide +kernel) rfl)
          (pa_cons (pe_bltn (v := .ty "tuple") (by rfl) T.tuple (by decide +kernel) rfl) pa_nil))) pa_nil)))))
        (pw_or1 (pt_cmpR op_gt (pe_callB call_len_seq (by rfl) T.len PySem.boot_len (pa_cons (pv 0) pa_nil)) (pe_glob (v := .int 40) (by rfl) gM ⟨_, rfl⟩) (nomark _))))) (pss_one (ps_ret pe_bl)) pss_nil)
      (pss_one (ps_ret (pe_callB (cr_all rfl) (by rfl) T.all (by decide +kernel) (pa_cons (pe_ei
        (pe_lc (own := [("begin", 2)]) (g := gName 2) (tt := tYes) rfl nd (pi_list (pv 0)) (blkOk_by (N := ["thing", "whole", "begin"]) (sc := defScope s_are_begins) (by decide +kernel))
          (fun _ _ _ _ _ => pg_name (i := 2) nd rfl (Or.inl rfl)) (fun _ _ _ _ _ => pts_nil)
          (fun _ _ _ _ _ => pe_call GI hr (by rfl) FI.gl FI.fn.kp FI.bd .nil pass0 (pa_cons (pv 2) (pa_cons pe_int (pa_cons (pe_op op_sub (pv 1) pe_int) pa_nil)))))
        (pe_lc (own := [("begin", 2)]) (g := gName 2) (tt := tYes) rfl nd (pi_tup (pv 0)) (blkOk_by (N := ["thing", "whole", "begin"]) (sc := defScope s_are_begins) (by decide +kernel))
          (fun _ _ _ _ _ => pg_name (i := 2) nd rfl (Or.inl rfl)) (fun _ _ _ _ _ => pts_nil)
          (fun _ _ _ _ _ => pe_call GI hr (by rfl) FI.gl FI.fn.kp FI.bd .nil pass0 (pa_cons (pv 2) (pa_cons pe_int (pa_cons (pe_op op_sub (pv 1) pe_int) pa_nil)))))) pa_nil)))), ?_⟩
    refine ⟨_, rfl, by show 2 ≤ sizeLine; decide, fun tp ntp => ?_⟩
    have s1 := same_upd (o := .tup [V.ty "list", V.ty "tuple"]) ntp
    have e1 := upd_same (H := H) (a := tp) (o := .tup [V.ty "list", V.ty "tuple"])
    generalize upd H tp (.tup [V.ty "list", V.ty "tuple"]) = H1 at *
    have hB1 := hB.mono s1
    obtain ⟨t, ty, kt⟩ := hB1.ty (K := K)
    refine ⟨_, tp, _, _, [.type "list", .type "tuple"], o.isSome, rfl, e1, .cons (.ty _) (.cons (.ty _) .nil), ty, kt, _, rfl, ?_⟩
    cases ho : o with
    | none =>
      subst ho
      exact q H1 s1
    | some xs =>
      subst ho
      have fin : ∀ D H2, xs.length ≤ 40 → Same H1 H2 → H2 D = some (.lst (xs.map fun x => V.bl (withinB x 0 (wh - 1)))) → ∃ (p : Addr) (bs : List Bool), [V.ref D] = [.ref p] ∧ SqL K H2 p (bs.map V.bl) ∧ Q (.bl (bs.all id)) H2 := fun D H2 hl sm eD => by
        refine ⟨D, xs.map fun x => withinB x 0 (wh - 1), rfl, SqL.of (by rw [eD, List.map_map]; rfl), ?_⟩
        have := q H2 (s1.trans sm)
        unfold begB at this
        simp only [decide_eq_true hl, Bool.true_and] at this
        exact this
      have step : ∀ {i : Nat} {y : V}, xs[i]? = some y → (xs.take (i + 1)).map (fun x => V.bl (withinB x 0 (wh - 1))) = (xs.take i).map (fun x => V.bl (withinB x 0 (wh - 1))) ++ [V.bl (withinB y 0 (wh - 1))] := fun {i y} hy => by
        obtain ⟨hi, e⟩ := List.getElem?_eq_some_iff.mp hy
        rw [List.take_succ_eq_append_getElem hi, List.map_append, e]
        rfl
      have big : ¬ xs.length ≤ 40 → begB (some xs) wh = false := fun h => by
        unfold begB
        simp only [decide_eq_false h, Bool.false_and]
      cases hB1 with
      | lst e g =>
        rename_i a
        refine ⟨_, rfl, a, _, rfl, .inl (SqL.of e), _, _, rfl, rfl, _, rfl, ?_⟩
        by_cases hl : xs.length ≤ 40
        · rw [decide_eq_false (show ¬ (xs.length : Int) > 40 by omega)]
          refine Or.inl ⟨_, rfl, a, rfl, ⟨_, SqL.of e⟩, fun D nD => ?_⟩
          refine lc_list (K := K) (a := a) (xs := xs) (fun i H' => Same H1 H' ∧ H' D = some (.lst ((xs.take i).map fun x => V.bl (withinB x 0 (wh - 1))))) ⟨same_upd nD, upd_same⟩ (fun i H' _ h => h.1.seq (SqL.of e)) ?_ ?_
          · rintro i y H2 hy ⟨sm, eD⟩
            refine ⟨rfl, _, rfl, _, rfl, _, _, rfl, rfl, y, 0, wh - 1, rfl, (g y (List.mem_of_getElem? hy)).mono sm, _, eD, ?_, same_app nD sm, ?_⟩
            · rw [List.length_map, List.length_take]
              exact small1000 (by omega)
            · rw [upd_same, step hy]
          · rintro H2 ⟨sm, eD⟩
            rw [List.take_length] at eD
            exact fin D H2 hl sm eD
        · rw [decide_eq_true (show (xs.length : Int) > 40 by omega)]
          rw [big hl] at q
          exact q H1 s1
      | tup e g =>
        rename_i a
        refine ⟨_, rfl, a, _, rfl, .inr (SqT.of e), _, _, rfl, rfl, _, rfl, ?_⟩
        by_cases hl : xs.length ≤ 40
        · rw [decide_eq_false (show ¬ (xs.length : Int) > 40 by omega)]
          refine Or.inr ⟨_, rfl, a, rfl, ⟨_, SqT.of e⟩, fun D nD => ?_⟩
          refine lc_tup (K := K) (a := a) (xs := xs) (fun i H' => Same H1 H' ∧ H' D = some (.lst ((xs.take i).map fun x => V.bl (withinB x 0 (wh - 1))))) ⟨same_upd nD, upd_same⟩ (fun i H' _ h => SqT.of (h.1 _ _ e)) ?_ ?_
          · rintro i y H2 hy ⟨sm, eD⟩
            refine ⟨rfl, _, rfl, _, rfl, _, _, rfl, rfl, y, 0, wh - 1, rfl, (g y (List.mem_of_getElem? hy)).mono sm, _, eD, ?_, same_app nD sm, ?_⟩
            · rw [List.length_map, List.length_take]
              exact small1000 (by omega)
            · rw [upd_same, step hy]
          · rintro H2 ⟨sm, eD⟩
            rw [List.take_length] at eD
            exact fin D H2 hl sm eD
        · rw [decide_eq_true (show (xs.length : Int) > 40 by omega)]
          rw [big hl] at q
          exact q H1 s1
/-! ### Round -/
structure Rc (K : PySem.W.Frag) (mg : Str → Option Value) (C : Addr) : Prop where
  cl : Cls K C
  n1 : PySem.W.findIn K (.ref C) "slots_on" = some none
  n2 : PySem.W.findIn K (.ref C) "slots_off" = some none
  n3 : PySem.W.findIn K (.ref C) "first_slots" = some none
  mgC : mg "Round" = some (.ref C)
  kC : PySem.W.keepIn K (.ref C) = true
def rf (a b l : V) : List (Str × V) := [("slots_on", a), ("slots_off", b), ("first_slots", l)]
/-- a round stands at x -/
def Rd (C : Addr) (H : Hp) (x : Addr) (a b : Int) (ns : List Int) : Prop := ∃ dx l, H x = some (.ins C dx (rf (.int a) (.int b) (.ref l))) ∧ H l = some (.lst (ns.map V.int))
theorem Rd.mono {C : Addr} {H H' : Hp} {x : Addr} {a b : Int} {ns : List Int} (h : Rd C H x a b ns) (s : Same H H') : Rd C H' x a b ns := by
  obtain ⟨dx, l, h1, h2⟩ := h
  exact ⟨dx, l, s _ _ h1, s _ _ h2⟩
theorem turn_good {a b : Int} (h1 : 1 ≤ a) (h2 : 0 ≤ b) : turnF (.int a) (.int b) = none := by
  unfold turnF
  rw [show fromB (.int a) 1 = true from decide_eq_true h1, show fromB (.int b) 0 = true from decide_eq_true h2]
  rfl
theorem turn_none {a b : V} (h : turnF a b = none) : ∃ i j, a = .int i ∧ b = .int j ∧ 1 ≤ i ∧ 0 ≤ j := by
  unfold turnF at h
  by_cases h1 : fromB a 1 = true
  · rw [if_pos h1] at h
    by_cases h2 : fromB b 0 = true
    · cases a <;> try cases h1
      cases b <;> try cases h2
      exact ⟨_, _, rfl, rfl, of_decide_eq_true h1, of_decide_eq_true h2⟩
    · rw [if_neg h2] at h
      cases h
  · rw [if_neg h1] at h
    cases h
theorem within_int {v : V} {l m : Int} (h : withinB v l m = true) : ∃ i, v = .int i ∧ l ≤ i ∧ i ≤ m := by
  cases v <;> try cases h
  rename_i i
  have h' : (decide (l ≤ i) && decide (i ≤ m)) = true := h
  rw [Bool.and_eq_true, decide_eq_true_eq, decide_eq_true_eq] at h'
  exact ⟨i, rfl, h'⟩
theorem beg_ints {o : Option (List V)} {wh : Int} (h : begB o wh = true) : ∃ ns : List Int, o = some (ns.map V.int) ∧ ns.length ≤ 40 ∧ ∀ n ∈ ns, 0 ≤ n ∧ n < wh := by
  cases o with
  | none => cases h
  | some xs =>
    have h' : (decide (xs.length ≤ 40) && (xs.map fun x => withinB x 0 (wh - 1)).all id) = true := h
    rw [Bool.and_eq_true, decide_eq_true_eq, List.all_eq_true] at h'
    obtain ⟨hl, ha⟩ := h'
    have ha' : ∀ x ∈ xs, withinB x 0 (wh - 1) = true := fun x hx => ha _ (List.mem_map.mpr ⟨x, hx, rfl⟩)
    clear h ha
    suffices hs : ∃ ns : List Int, xs = ns.map V.int ∧ ∀ n ∈ ns, 0 ≤ n ∧ n < wh by
      obtain ⟨ns, e, hn⟩ := hs
      exact ⟨ns, by rw [e], by rw [e, List.length_map] at hl; exact hl, hn⟩
    clear hl
    induction xs with
    | nil => exact ⟨[], rfl, nofun⟩
    | cons x xs ih =>
      obtain ⟨ns, e, hn⟩ := ih fun y hy => ha' y (List.mem_cons_of_mem _ hy)
      obtain ⟨i, rfl, i0, i1⟩ := within_int (ha' x List.mem_cons_self)
      refine ⟨i :: ns, by rw [e]; rfl, fun n hn' => ?_⟩
      rcases List.mem_cons.mp hn' with rfl | h
      · exact ⟨i0, by omega⟩
      · exact hn n h
def initF (a b : V) (o : Option (List V)) : Option Str := match turnF a b with
  | some z => some z
  | none => match a, b with
    | .int i, .int j => if begB o (i + j) = true then none else some "begins"
    | _, _ => none
def RdL (C : Addr) (H : Hp) (x l : Addr) (a b : Int) (ns : List Int) : Prop := ∃ dx, H x = some (.ins C dx (rf (.int a) (.int b) (.ref l))) ∧ H l = some (.lst (ns.map V.int))
def spInit (C CN : Addr) : Sp := fun vs H Q E => ∃ (x dx : Addr) (a b v : V) (o : Option (List V)), vs = [.ref x, a, b, v] ∧ H x = some (.ins C dx []) ∧ Odd H a ∧ Odd H b ∧ Bg H v o ∧
  (∀ (i j : Int) (ns : List Int), a = .int i → b = .int j → 1 ≤ i → 0 ≤ j → o = some (ns.map V.int) → ns.length ≤ 40 → (∀ n ∈ ns, 0 ≤ n ∧ n < i + j) → ∀ H' m, SameB x H H' → H m = none → RdL C H' x m i j ns → Q .non H') ∧
  (∀ z, initF a b o = some z → Bad CN H E z)
theorem ok_init {f fC fB fF fI fW C CN fN cc c : Addr} {fd fdC fdB fdF fdI fdW fdN : FuncData} {k : Nat} (F : Fun K "__init__" "Round.__init__" s_Round___init__ f fd) (T : Tx mg) (hM : Most mg) (Z : Rc K mg C) (N : Nr K P mg CN fN cc c fdN)
    (FC : Has K mg "check_turns" ["on", "off"] s_check_turns fC fdC) (FB : Has K mg "are_begins" ["thing", "whole"] s_are_begins fB fdB) (FF : Has K mg "is_from" ["thing", "least"] s_is_from fF fdF)
    (FI : Has K mg "is_within" ["thing", "least", "most"] s_is_within fI fdI) (FW : Has K mg "is_whole" ["thing"] s_is_whole fW fdW) : FnOk P w K mg base (L2.CX P w) (k + 4) f fd ["self", "on", "off", "begins"] (spInit C CN) := by
  have GC : FnOk P w K mg base (L2.CX P w) (k + 3) fC fdC ["on", "off"] (spCheck CN) := ok_check FC.fn T N FF FW
  have GB : FnOk P w K mg base CX0 (k + 3) fB fdB ["thing", "whole"] spBegins := ok_begins FB.fn T hM FI FW
  have GN : FnOk P w K mg base CX0 1 fN fdN ["self", "field"] (spErr CN "field") := ok_err N
  refine F.okX scInit (fun vs H Q E h => ?_) (fun cdv A outer s H vs Q E hr h => ?_)
  · obtain ⟨x, dx, a, b, v, o, rfl, _⟩ := h
    rfl
  · obtain ⟨x, dx, a, b, v, o, rfl, hx, oa, ob, hB, q1, q2⟩ := h
    have hr2 : Room 2 _ := hr.mono (by omega)
    have ps : Passes (L2.CX P w) (cxOf (L2.CX P w) P w K mg base ["self", "on", "off", "begins"] "Round.__init__" (defScope s_Round___init__) f cdv A outer s H E) E := passes_call (takes_of rfl rfl rfl rfl) (fun _ _ _ _ h => h)
    refine ⟨_, pss_cons (ps_expr (pe_call GC hr (by rfl) FC.gl FC.fn.kp FC.bd .nil ps (pa_cons (pv 1) (pa_cons (pv 2) pa_nil))))
      (pss_cons (ps_if (pt_not (pt_val (pe_call GB hr (by rfl) FB.gl FB.fn.kp FB.bd .nil pass0 (pa_cons (pv 3) (pa_cons (pe_op op_add (pv 1) (pv 2)) pa_nil)))))
        (pss_one (ps_raise rfl (takes_of rfl rfl rfl rfl) (pmk_oex N.sup.oex N.ini N.tI GN hr2 N.bd .nil pass0 (by rfl) N.gl (pa_cons pe_str pa_nil)))) pss_nil)
      (pss_cons (ps_fld (pv 0) (pv 1) rfl) (pss_cons (ps_fld (pv 0) (pv 2) rfl) (pss_one (ps_fld (pv 0) (pe_callTy call_list_of (by rfl) T.list (by decide +kernel) (pa_cons (pv 3) pa_nil)) rfl))))), ?_⟩
    refine ⟨_, rfl, _, rfl, a, b, rfl, oa, ob, fun ht => ?_, fun z hz => q2 z (by unfold initF; rw [hz])⟩
    obtain ⟨i, j, rfl, rfl, hi, hj⟩ := turn_none ht
    refine ⟨_, rfl, _, rfl, _, rfl, _, _, rfl, rfl, v, i + j, o, rfl, hB, fun H1 s1 => ⟨_, rfl, ?_⟩⟩
    by_cases hb : begB o (i + j) = true
    · rw [hb]
      obtain ⟨ns, rfl, hl, hn⟩ := beg_ints hb
      refine ⟨_, rfl, _, rfl, x, C, dx, _, rfl, s1 _ _ hx, Z.cl, Z.n1, (by decide), ?_⟩
      refine ⟨_, rfl, _, rfl, x, C, dx, _, rfl, upd_same, Z.cl, Z.n2, (by show 1 < 1000; decide), ?_⟩
      rw [upd_upd]
      have sB : SameB x H (upd H1 x (.ins C dx (putF ("slots_off" : Str) (.int j) (putF ("slots_on" : Str) (.int i) [])))) := fun c o n e => by
        rw [upd_ne n]
        exact s1 _ _ e
      have sq : ∃ l, v = .ref l ∧ (SqL K (upd H1 x (.ins C dx (putF ("slots_off" : Str) (.int j) (putF ("slots_on" : Str) (.int i) [])))) l (ns.map V.int) ∨ SqT K (upd H1 x (.ins C dx (putF ("slots_off" : Str) (.int j) (putF ("slots_on" : Str) (.int i) [])))) l (ns.map V.int)) := by
        cases hB with
        | lst e _ => exact ⟨_, rfl, .inl (SqL.of (sB _ _ (ne_of e hx (by intro z; cases z)) e))⟩
        | tup e _ => exact ⟨_, rfl, .inr (SqT.of (sB _ _ (ne_of e hx (by intro z; cases z)) e))⟩
      obtain ⟨l, rfl, sq⟩ := sq
      refine ⟨_, rfl, l, _, rfl, sq, fun m nm => ?_⟩
      have nmx : m ≠ x := by
        rintro rfl
        rw [upd_same] at nm
        cases nm
      refine ⟨_, rfl, x, C, dx, _, rfl, (by rw [upd_ne (Ne.symm nmx), upd_same]), Z.cl, Z.n3, (by show 2 < 1000; decide), ?_⟩
      refine q1 i j ns rfl rfl hi hj rfl hl hn _ m (fun c o n e => ?_) (s1.free (by rw [upd_ne nmx] at nm; exact nm)) ⟨dx, upd_same, by rw [upd_ne nmx, upd_same]⟩
      rw [upd_ne n]
      have e1 := sB c o n e
      rw [upd_ne (ne_of_none e1 nm)]
      exact e1
    · rw [bool_false hb]
      have hq : Bad CN H1 E "begins" := (q2 "begins" (by unfold initF; rw [ht]; exact if_neg hb)).mono s1
      exact ⟨by show 1 ≤ 1000; decide, fun y ny => err_made ny (by decide +kernel) (fun d H' nd sm hd => hq d H' nd sm hd)⟩
end
end K44

set_option Elab.async false
set_option linter.all false
set_option maxRecDepth 100000
set_option maxHeartbeats 1600000
namespace K44
open PySem PySem.Spec PyProof.Rows L2 LT NdefX
theorem scCell : FnScope ["_law_script", "_law_k"] ["_law_script", "_law_k"] (defScope s__law_cell) := ⟨rfl, rfl, rfl, by decide +kernel, rfl, by decide +kernel, by decide +kernel⟩
theorem scPot : FnScope ["_law_script", "_law_k", "_law_cell_here"] ["_law_script", "_law_k"] (defScope s__law_pot) := ⟨rfl, rfl, rfl, by decide +kernel, rfl, by decide +kernel, by decide +kernel⟩
theorem scTake : FnScope ["_law_pot_here", "_law_many", "_law_digit"] ["_law_pot_here", "_law_many"] (defScope s__law_take) := ⟨rfl, rfl, rfl, by decide +kernel, rfl, by decide +kernel, by decide +kernel⟩
section
variable {P : Program} {w : World} {K : PySem.W.Frag} {mg : Str → Option Value} {base : Heap} {C CN CU CT : Addr}
def spCell (K : PySem.W.Frag) : Sp := fun vs H Q _ => ∃ (a : Addr) (ns : List Int) (k : Nat), vs = [.ref a, .int (k : Nat)] ∧ SqL K H a (ns.map V.int) ∧
  ∀ z : Int, (z = 0 ∨ z ∈ ns) → Q (.int z) H
theorem ok_cell {f : Addr} {fd : FuncData} {k : Nat} (F : Fun K "_law_cell" "_law_cell" s__law_cell f fd) (T : Tx mg) : FnOk P w K mg base CX0 (k + 1) f fd ["_law_script", "_law_k"] (spCell K) := by
  refine F.ok scCell (fun vs H Q E h => ?_) (fun cdv A outer s H vs Q E hr h => ?_)
  · obtain ⟨a, ns, k, rfl, _⟩ := h
    rfl
  · obtain ⟨a, ns, k, rfl, hS, q⟩ := h
    refine ⟨_, pss_cons (ps_if (pt_cmpR op_lt (pv 1) (pe_callB call_len_seq (by rfl) T.len PySem.boot_len (pa_cons (pv 0) pa_nil)) (nomark _))
      (pss_one (ps_ret (pe_ix ix_list (pv 0) (pv 1) (fun _ _ => rfl)))) pss_nil) (pss_one (ps_ret pe_int)), ?_⟩
    refine ⟨_, rfl, _, rfl, a, _, rfl, .inl hS, _, _, rfl, rfl, _, rfl, ?_⟩
    by_cases hk : k < ns.length
    · rw [decide_eq_true (show ((k : Nat) : Int) < ((ns.map V.int).length : Nat) by rw [List.length_map]; omega)]
      refine iteT ?_
      refine ⟨_, rfl, _, rfl, a, _, _, .int ns[k], rfl, rfl, hS, atI_nat (by rw [List.getElem?_map, List.getElem?_eq_getElem hk]; rfl), ?_⟩
      exact q _ (.inr (List.getElem_mem hk))
    · rw [decide_eq_false (show ¬ ((k : Nat) : Int) < ((ns.map V.int).length : Nat) by rw [List.length_map]; omega)]
      exact iteF (q 0 (.inl rfl))
def spPot (K : PySem.W.Frag) : Sp := fun vs H Q _ => ∃ (a : Addr) (ns : List Int) (k : Nat), vs = [.ref a, .int (k : Nat)] ∧ SqL K H a (ns.map V.int) ∧ k ≤ 1000 ∧
  ∀ p H', H p = none → Same H H' → Pot H' p → Q (.ref p) H'
theorem ok_pot {f fC : Addr} {fd fdC : FuncData} {k : Nat} (F : Fun K "_law_pot" "_law_pot" s__law_pot f fd) (T : Tx mg) (FC : Has K mg "_law_cell" ["_law_script", "_law_k"] s__law_cell fC fdC) :
    FnOk P w K mg base CX0 (k + 2) f fd ["_law_script", "_law_k"] (spPot K) := by
  have GC : FnOk P w K mg base CX0 (k + 1) fC fdC ["_law_script", "_law_k"] (spCell K) := ok_cell FC.fn T
  refine F.ok scPot (fun vs H Q E h => ?_) (fun cdv A outer s H vs Q E hr h => ?_)
  · obtain ⟨a, ns, k, rfl, _⟩ := h
    rfl
  · obtain ⟨a, ns, k, rfl, hS, hk, q⟩ := h
    refine ⟨_, pss_cons (ps_set (i := 2) scPot.nd rfl (.inl rfl) (pe_call GC hr (by rfl) FC.gl FC.fn.kp FC.bd .nil pass0 (pa_cons (pv 0) (pa_cons (pv 1) pa_nil))))
      (pss_one (ps_ret (pe_lst (pa_cons (pe_callB (call_max2 rfl) (by rfl) T.max (by decide +kernel) (pa_cons pe_int (pa_cons (pe_op op_sub (pv 2) (pe_op op_pow pe_int pe_int)) pa_nil)))
        (pa_cons (pe_op op_mod (pe_op op_add (pe_op op_mod (pe_callB call_abs (by rfl) T.abs (by decide +kernel) (pa_cons (pv 2) pa_nil)) pe_int) (pe_op op_mul pe_int (pe_op op_add (pv 1) pe_int))) pe_int) pa_nil))))), ?_⟩
    refine ⟨_, rfl, _, rfl, a, ns, k, rfl, hS, fun z hz => ?_⟩
    refine ⟨_, rfl, _, _, rfl, rfl, ⟨by decide, by decide, by decide⟩, _, _, rfl, rfl, 0, _, rfl, ?_⟩
    refine ⟨_, rfl, z, rfl, _, _, rfl, rfl, by show (0 : Int) < 2147483629; decide, ?_⟩
    refine ⟨_, rfl, _, _, rfl, rfl, _, _, rfl, rfl, .inl ⟨by decide, by decide⟩, _, _, rfl, rfl, _, _, rfl, rfl, by show (0 : Int) < 2147483629; decide, ?_⟩
    refine ⟨by show 2 ≤ sizeLine; decide, fun l nl => q l _ nl (same_upd nl) ⟨_, _, upd_same, ?_, Int.emod_nonneg _ (by decide), Int.lt_trans (Int.emod_lt_of_pos _ (by decide)) (by decide)⟩⟩
    split <;> omega
/-- a draw from a pot -/
def spTake : Sp := fun vs H Q _ => ∃ (p : Addr) (r : Int), vs = [.ref p, .int r] ∧ Pot H p ∧ 0 < r ∧ r ≤ 10 ^ 61 ∧
  ∀ (d : Int) (H' : Hp), 0 ≤ d → d < r → Pot H' p → SameB p H H' → Q (.int d) H'
theorem nopy {x r : Int} (h0 : 0 < r) (h : r ≤ 10 ^ 61) : Builtin.divisionGoesByPylong x r = false := by
  refine PyProof.noPylong_of_log2 (Nat.lt_trans ?_ (show 1920 < 9000 by decide))
  exact lg61 (by omega)
theorem ok_take {f : Addr} {fd : FuncData} {k : Nat} (F : Fun K "_law_take" "_law_take" s__law_take f fd) (T : Tx mg) : FnOk P w K mg base CX0 (k + 1) f fd ["_law_pot_here", "_law_many"] spTake := by
  refine F.ok scTake (fun vs H Q E h => ?_) (fun cdv A outer s H vs Q E hr h => ?_)
  · obtain ⟨p, r, rfl, _⟩ := h
    rfl
  · obtain ⟨p, r, rfl, ⟨a, b, hp, a0, b0, bB⟩, r0, r1, q⟩ := h
    refine ⟨_, pss_cons (ps_if (pt_cmpR op_gt (pe_ix ix_list (pv 0) pe_int (fun _ _ => rfl)) pe_int (nomark _))
        (pss_cons (ps_asg (pe_callB call_divmodW (by rfl) T.divmod (by decide +kernel) (pa_cons (pe_ix ix_list (pv 0) pe_int (fun _ _ => rfl)) (pa_cons (pv 1) pa_nil)))
            (pg_tup rfl (pgs_cons (pg_sub (pv 0) pe_int set_list) (pgs_cons (pg_name (i := 2) scTake.nd rfl (.inl rfl)) pgs_nil))))
          (pss_one (ps_ret (pv 2)))) pss_nil)
      (pss_cons (ps_asg (pe_op op_mod (pe_op op_add (pe_op op_mul (pe_ix ix_list (pv 0) pe_int (fun _ _ => rfl)) pe_int) pe_int) pe_int) (pg_sub (pv 0) pe_int set_list))
        (pss_one (ps_ret (pe_op op_mod (pe_op op_fdiv (pe_op op_mod (pe_op op_mul (pe_ix ix_list (pv 0) pe_int (fun _ _ => rfl)) (pe_ix ix_list (pv 0) pe_int (fun _ _ => rfl))) pe_int) pe_int) (pv 1))))), ?_⟩
    refine ⟨_, rfl, p, _, 0, _, rfl, rfl, SqL.of hp, atI_nat (j := 0) rfl, _, _, rfl, rfl, _, rfl, ite2 (fun h => ?_) (fun h => ?_)⟩
    · have ha : 0 < a := of_decide_eq_true h
      refine ⟨_, rfl, p, _, 0, _, rfl, rfl, SqL.of hp, atI_nat (j := 0) rfl, _, rfl, a, r, rfl, ⟨r0, nopy r0 r1⟩, fun t nt => ?_⟩
      have npt : p ≠ t := ne_of_none hp nt
      have hp2 : (upd H t (.tup [.int (a / r), .int (a % r)])) p = some (.lst [.int a, .int b]) := by
        rw [upd_ne npt]
        exact hp
      refine ⟨t, _, rfl, SqT.of upd_same, rfl, _, _, rfl, ?_⟩
      refine ⟨_, rfl, p, _, 0, 0, rfl, rfl, hp2, rfl, _, _, rfl, rfl, ?_⟩
      refine ⟨_, rfl, q _ _ (Int.emod_nonneg _ (by omega)) (Int.emod_lt_of_pos _ r0) ⟨_, _, upd_same, Int.ediv_nonneg a0 (by omega), b0, bB⟩ (SameB.upd (SameB.new nt (SameB.of (Same.refl H))))⟩
    · refine ⟨_, rfl, p, _, 1, _, rfl, rfl, SqL.of hp, atI_nat (j := 1) rfl, _, _, rfl, rfl, .inl ⟨by omega, by omega⟩, _, _, rfl, rfl, _, _, rfl, rfl, by show (0 : Int) < 2147483647; decide, ?_⟩
      refine ⟨_, rfl, p, _, 1, 1, rfl, rfl, hp, rfl, ?_⟩
      have n0 := Int.emod_nonneg (b * 39373 + 10007) (show (2147483647 : Int) ≠ 0 by decide)
      have n1 := Int.emod_lt_of_pos (b * 39373 + 10007) (show (0 : Int) < 2147483647 by decide)
      refine ⟨_, rfl, p, _, 1, _, rfl, rfl, SqL.of upd_same, atI_nat (j := 1) rfl, _, rfl, p, _, 1, _, rfl, rfl, SqL.of upd_same, atI_nat (j := 1) rfl, _, _, rfl, rfl, .inl ⟨by omega, by omega⟩, ?_⟩
      refine ⟨_, _, rfl, rfl, by show (0 : Int) < 2147483587; decide, _, _, rfl, rfl, ⟨by decide, by decide⟩, _, rfl, _, _, rfl, rfl, r0, ?_⟩
      exact q _ _ (Int.emod_nonneg _ (by omega)) (Int.emod_lt_of_pos _ r0) ⟨_, _, upd_same, a0, n0, n1⟩ (SameB.upd (SameB.of (Same.refl H)))
end
end K44

set_option Elab.async false
set_option linter.all false
set_option maxRecDepth 100000
set_option maxHeartbeats 1600000
namespace K44
open PySem PySem.Spec PyProof.Rows L2 LT NdefX
/-- a round stands at x, and is one -/
structure Rg (C : Addr) (H : Hp) (x : Addr) (a b : Int) (ns : List Int) : Prop where
  rd : Rd C H x a b ns
  a1 : 1 ≤ a
  b0 : 0 ≤ b
  ln : ns.length ≤ 40
  bd : ∀ n ∈ ns, 0 ≤ n ∧ n < a + b
theorem Rg.mono {C : Addr} {H H' : Hp} {x : Addr} {a b : Int} {ns : List Int} (h : Rg C H x a b ns) (s : Same H H') : Rg C H' x a b ns := ⟨h.rd.mono s, h.a1, h.b0, h.ln, h.bd⟩
/-- who is on in a slot, of the first i keepers -/
def onP (a wh s : Int) (ns : List Int) (i : Nat) : List Int := ((List.range i).filter fun j => decide ((s - ns.getD j 0) % wh < a)).map fun j => ((j : Nat) : Int)
abbrev onN (a wh s : Int) (ns : List Int) : List Int := onP a wh s ns ns.length
theorem onP_succ {a wh s : Int} {ns : List Int} {i : Nat} : onP a wh s ns (i + 1) = onP a wh s ns i ++ if (s - ns.getD i 0) % wh < a then [((i : Nat) : Int)] else [] := by
  unfold onP
  rw [List.range_succ, List.filter_append, List.map_append]
  congr 1
  by_cases h : (s - ns.getD i 0) % wh < a
  · rw [if_pos h, List.filter_cons_of_pos (p := fun j => decide ((s - ns.getD j 0) % wh < a)) (decide_eq_true h)]
    rfl
  · rw [if_neg h, List.filter_cons_of_neg (p := fun j => decide ((s - ns.getD j 0) % wh < a)) (by rw [decide_eq_false h]; exact Bool.false_ne_true)]
    rfl
theorem onP_len {a wh s : Int} {ns : List Int} (i : Nat) : (onP a wh s ns i).length ≤ i := by
  unfold onP
  rw [List.length_map]
  exact Nat.le_trans (List.length_filter_le _ _) (by rw [List.length_range]; exact Nat.le_refl _)
theorem ints_odd {H : Hp} {ns : List Int} : ∀ x ∈ ns.map V.int, Odd H x := fun x hx => by
  obtain ⟨n, _, rfl⟩ := List.mem_map.mp hx
  exact .int n
theorem init_good {i j : Int} {ns : List Int} (ha : 1 ≤ i) (hb : 0 ≤ j) (hn : ns.length ≤ 40) (hi : ∀ n ∈ ns, 0 ≤ n ∧ n < i + j) : initF (.int i) (.int j) (some (ns.map V.int)) = none := by
  unfold initF
  rw [turn_good ha hb]
  show (if begB (some (ns.map V.int)) (i + j) = true then none else some ("begins" : Str)) = none
  refine if_pos ?_
  unfold begB
  simp only [List.length_map, decide_eq_true hn, Bool.true_and, List.all_eq_true, List.mem_map]
  rintro _ ⟨_, ⟨n, h, rfl⟩, rfl⟩
  obtain ⟨h0, h1⟩ := hi n h
  show (decide (0 ≤ n) && decide (n ≤ i + j - 1)) = true
  rw [decide_eq_true h0, decide_eq_true (show n ≤ i + j - 1 by omega)]
  rfl
theorem map_int_inj {ns ms : List Int} (h : ns.map V.int = ms.map V.int) : ns = ms := List.map_inj_right (fun _ _ e => V.int.inj e) |>.mp h
theorem mk_round {C CN : Addr} {a b : Int} {D : Addr} {ns : List Int} {H1 : Hp} {x dx : Addr} {Q : VK} {E : XK} (nx : H1 x = none) (ndx : H1 dx = none) (ha : 1 ≤ a) (hb : 0 ≤ b) (hD : H1 D = some (.lst (ns.map V.int)) ∨ H1 D = some (.tup (ns.map V.int))) (hn : ns.length ≤ 40) (hi : ∀ n ∈ ns, 0 ≤ n ∧ n < a + b)
    (q : ∀ H2, Same H1 H2 → Rg C (new H1 H2) x a b ns → Q .non H2) : spInit C CN [.ref x, .int a, .int b, .ref D] (upd (upd H1 dx (.own x)) x (.ins C dx [])) Q E := by
  have s1 : Same H1 (upd (upd H1 dx (.own x)) x (.ins C dx [])) := same_made (C := C) nx ndx
  refine ⟨x, dx, .int a, .int b, .ref D, some (ns.map V.int), rfl, upd_same, .int a, .int b, hD.elim (fun h => .lst (s1 _ _ h) ints_odd) (fun h => .tup (s1 _ _ h) ints_odd), fun i j ms ei ej _ _ em _ _ H2 m s2 nm hR => ?_, fun z hz => ?_⟩
  · cases ei
    cases ej
    obtain rfl := map_int_inj (Option.some.inj em)
    obtain ⟨dx', h1, h2⟩ := hR
    exact q H2 (fun c o e => s2 c o (ne_of_none e nx) (s1 _ _ e)) ⟨⟨dx', m, new_at nx h1, new_at (s1.free nm) h2⟩, ha, hb, hn, hi⟩
  · rw [init_good ha hb hn hi] at hz
    cases hz
abbrev nOnIn : List Str := ["self", "slot", "whole", "keeper", "begin"]
theorem scOnIn : FnScope nOnIn ["self", "slot"] (defScope s_Round_on_in) := ⟨rfl, rfl, rfl, by decide +kernel, rfl, by decide +kernel, by decide +kernel⟩
theorem int_at {ns : List Int} {i : Nat} {y : V} (hy : (ns.map V.int)[i]? = some y) : i < ns.length ∧ y = .int (ns.getD i 0) := by
  obtain ⟨h, e⟩ := List.getElem?_eq_some_iff.mp hy
  rw [List.length_map] at h
  refine ⟨h, ?_⟩
  rw [← e, List.getElem_map, List.getD_eq_getElem?_getD, List.getElem?_eq_getElem h]
  rfl
section
variable {P : Program} {w : World} {K : PySem.W.Frag} {mg : Str → Option Value} {base : Heap} {C CN CS : Addr}
def spOnIn (C : Addr) : Sp := fun vs H Q _ => ∃ (x : Addr) (s a b : Int) (ns : List Int), vs = [.ref x, .int s] ∧ Rg C H x a b ns ∧ 0 ≤ s ∧
  (∀ D H', H D = none → Same H H' → H' D = some (.lst ((onN a (a + b) s ns).map V.int)) → Q (.ref D) H')
theorem ok_onin {f fF fW : Addr} {fd fdF fdW : FuncData} {k : Nat} (F : Fun K "on_in" "Round.on_in" s_Round_on_in f fd) (T : Tx mg) (Z : Rc K mg C)
    (FF : Has K mg "is_from" ["thing", "least"] s_is_from fF fdF) (FW : Has K mg "is_whole" ["thing"] s_is_whole fW fdW) : FnOk P w K mg base CX0 (k + 3) f fd ["self", "slot"] (spOnIn C) := by
  have GF : FnOk P w K mg base CX0 (k + 2) fF fdF ["thing", "least"] spFrom := ok_from FF.fn T FW
  refine F.ok scOnIn (fun vs H Q E h => ?_) (fun cdv A outer s H vs Q E hr h => ?_)
  · obtain ⟨x, t, a, b, ns, rfl, _⟩ := h
    rfl
  · obtain ⟨x, t, a, b, ns, rfl, ⟨⟨dx, l, hx, hl⟩, ha, hb, hn, hi⟩, t0, q1⟩ := h
    have nd := scOnIn.nd
    refine ⟨_, pss_cons (ps_if (pt_not (pt_val (pe_call GF hr (by rfl) FF.gl FF.fn.kp FF.bd .nil pass0 (pa_cons (pv 1) (pa_cons pe_int pa_nil)))))
        (pss_one ps_no) pss_nil)
      (pss_cons (ps_set (i := 2) nd rfl (.inr rfl) (pe_op op_add (pe_fld (pv 0) rfl) (pe_fld (pv 0) rfl)))
      (pss_one (ps_ret (pe_lc (own := [("keeper", 3), ("begin", 4)]) (g := gTup K 2 (gCons (gName 3) (gCons (gName 4) gNil))) rfl nd (pi_enum (by rfl) T.enumerate (pa_cons (pe_fld (pv 0) rfl) pa_nil)) (blkOk_by (N := nOnIn) (sc := defScope s_Round_on_in) (by decide +kernel))
          (fun _ _ _ _ _ => pg_tup rfl (pgs_cons (pg_name (i := 3) nd rfl (Or.inl rfl)) (pgs_cons (pg_name (i := 4) nd rfl (Or.inl rfl)) pgs_nil)))
          (fun _ _ _ _ _ => pts_one (pt_cmpR op_lt (pe_op op_mod (pe_op op_sub (pv 1) (pv 4)) (pv 2)) (show PE _ _ (tFld K (tVar 0) "slots_on") from pe_fld (pv 0) rfl) (nomark _)))
          (fun _ _ _ _ _ => pv 3))))), ?_⟩
    refine ⟨_, rfl, .int t, 0, rfl, .int t, _, rfl, ?_⟩
    rw [show fromB (.int t) 0 = true from decide_eq_true t0]
    refine ⟨_, rfl, x, C, dx, _, _, rfl, hx, Z.cl, Z.n1, (by unfold rf; rfl), _, rfl, x, C, dx, _, _, rfl, hx, Z.cl, Z.n2, (by unfold rf; rfl), _, _, rfl, rfl, ?_⟩
    refine ⟨_, rfl, x, C, dx, _, _, rfl, hx, Z.cl, Z.n3, (by unfold rf; rfl), l, _, rfl, SqL.of hl, fun D nD => ?_⟩
    refine lc_enum (K := K) (a := l) (xs := ns.map V.int) (fun i H' => Same H H' ∧ H' D = some (.lst ((onP a (a + b) t ns i).map V.int))) ⟨same_upd nD, upd_same⟩ (fun i H' _ h => h.1.seq (SqL.of hl)) ?_ ?_
    · rintro i y H1 T hy ⟨sm, eD⟩ nT
      obtain ⟨hi2, rfl⟩ := int_at hy
      have s2 := same_upd (o := .tup [.int (i : Nat), .int (ns.getD i 0)]) nT
      have eT := upd_same (H := H1) (a := T) (o := .tup [.int (i : Nat), .int (ns.getD i 0)])
      have eD2 := s2 _ _ eD
      have sm2 := sm.trans s2
      generalize upd H1 T (.tup [.int (i : Nat), .int (ns.getD i 0)]) = H2 at *
      refine ⟨T, _, rfl, SqT.of eT, rfl, _, _, rfl, _, _, rfl, rfl, rfl, ?_⟩
      refine ⟨_, rfl, _, rfl, _, _, rfl, rfl, _, rfl, _, _, rfl, rfl, by omega, _, rfl, x, C, dx, _, _, rfl, sm2 _ _ hx, Z.cl, Z.n1, (by unfold rf; rfl), _, _, rfl, rfl, _, rfl, ite2 (fun h => ?_) (fun h => ?_)⟩
      · have h := of_decide_eq_true h
        refine ⟨_, rfl, _, eD2, ?_, same_app nD sm2, ?_⟩
        · rw [List.length_map]
          exact small1000 (Nat.le_trans (onP_len i) (by omega))
        · rw [upd_same, onP_succ, if_pos h, List.map_append]
          rfl
      · have h := of_decide_eq_false (bool_false h)
        refine ⟨sm2, ?_⟩
        rw [onP_succ, if_neg h, List.append_nil]
        exact eD2
    · rintro H1 ⟨sm, eD⟩
      rw [List.length_map] at eD
      exact q1 D H1 nD sm eD
theorem on_len {a W s : Int} {ns : List Int} : (((onN a W s ns).length : Nat) : Int) = cnt a W s ns := by
  have := cnt_len_aux (a := a) (W := W) (s := s) (ns := ns) ns.length (Nat.le_refl _)
  rw [List.take_length] at this
  rw [← this]
  unfold onN onP
  rw [List.length_map]
/-! ### on, off, begins -/
theorem scOn : FnScope ["self"] ["self"] (defScope s_Round_on) := ⟨rfl, rfl, rfl, by decide +kernel, rfl, by decide +kernel, by decide +kernel⟩
theorem scOff : FnScope ["self"] ["self"] (defScope s_Round_off) := ⟨rfl, rfl, rfl, by decide +kernel, rfl, by decide +kernel, by decide +kernel⟩
theorem scBegs : FnScope ["self"] ["self"] (defScope s_Round_begins) := ⟨rfl, rfl, rfl, by decide +kernel, rfl, by decide +kernel, by decide +kernel⟩
def spOn (C : Addr) : Sp := fun vs H Q _ => ∃ (x : Addr) (a b : Int) (ns : List Int), vs = [.ref x] ∧ Rg C H x a b ns ∧ Q (.int a) H
def spOff (C : Addr) : Sp := fun vs H Q _ => ∃ (x : Addr) (a b : Int) (ns : List Int), vs = [.ref x] ∧ Rg C H x a b ns ∧ Q (.int b) H
def spBegs (C : Addr) : Sp := fun vs H Q _ => ∃ (x : Addr) (a b : Int) (ns : List Int), vs = [.ref x] ∧ Rg C H x a b ns ∧ ∀ D H', H D = none → Same H H' → H' D = some (.lst (ns.map V.int)) → Q (.ref D) H'
theorem ok_on {f : Addr} {fd : FuncData} {k : Nat} (F : Fun K "on" "Round.on" s_Round_on f fd) (Z : Rc K mg C) : FnOk P w K mg base CX0 (k + 1) f fd ["self"] (spOn C) := by
  refine F.ok scOn (fun vs H Q E h => ?_) (fun cdv A outer s H vs Q E hr h => ?_)
  · obtain ⟨x, a, b, ns, rfl, _⟩ := h
    rfl
  · obtain ⟨x, a, b, ns, rfl, ⟨⟨dx, l, hx, hl⟩, _⟩, q⟩ := h
    exact ⟨_, pss_one (ps_ret (pe_fld (pv 0) rfl)), _, rfl, x, C, dx, _, _, rfl, hx, Z.cl, Z.n1, (by unfold rf; rfl), q⟩
theorem ok_off {f : Addr} {fd : FuncData} {k : Nat} (F : Fun K "off" "Round.off" s_Round_off f fd) (Z : Rc K mg C) : FnOk P w K mg base CX0 (k + 1) f fd ["self"] (spOff C) := by
  refine F.ok scOff (fun vs H Q E h => ?_) (fun cdv A outer s H vs Q E hr h => ?_)
  · obtain ⟨x, a, b, ns, rfl, _⟩ := h
    rfl
  · obtain ⟨x, a, b, ns, rfl, ⟨⟨dx, l, hx, hl⟩, _⟩, q⟩ := h
    exact ⟨_, pss_one (ps_ret (pe_fld (pv 0) rfl)), _, rfl, x, C, dx, _, _, rfl, hx, Z.cl, Z.n2, (by unfold rf; rfl), q⟩
theorem ok_begs {f : Addr} {fd : FuncData} {k : Nat} (F : Fun K "begins" "Round.begins" s_Round_begins f fd) (T : Tx mg) (Z : Rc K mg C) : FnOk P w K mg base CX0 (k + 1) f fd ["self"] (spBegs C) := by
  refine F.ok scBegs (fun vs H Q E h => ?_) (fun cdv A outer s H vs Q E hr h => ?_)
  · obtain ⟨x, a, b, ns, rfl, _⟩ := h
    rfl
  · obtain ⟨x, a, b, ns, rfl, ⟨⟨dx, l, hx, hl⟩, _⟩, q⟩ := h
    refine ⟨_, pss_one (ps_ret (pe_callTy call_list_of (by rfl) T.list (by decide +kernel) (pa_cons (pe_fld (pv 0) rfl) pa_nil))), ?_⟩
    exact ⟨_, rfl, x, C, dx, _, _, rfl, hx, Z.cl, Z.n3, (by unfold rf; rfl), l, _, rfl, .inl (SqL.of hl), fun D nD => q D _ nD (same_upd nD) upd_same⟩
/-! ### least -/
theorem scLen : FnScope ["self"] ["self"] (defScope s_Round___len__) := ⟨rfl, rfl, rfl, by decide +kernel, rfl, by decide +kernel, by decide +kernel⟩
def spLen (C : Addr) : Sp := fun vs H Q _ => ∃ (x : Addr) (a b : Int) (ns : List Int), vs = [.ref x] ∧ Rg C H x a b ns ∧ Q (.int (ns.length : Nat)) H
theorem ok_len {f : Addr} {fd : FuncData} {k : Nat} (F : Fun K "__len__" "Round.__len__" s_Round___len__ f fd) (T : Tx mg) (Z : Rc K mg C) : FnOk P w K mg base CX0 (k + 1) f fd ["self"] (spLen C) := by
  refine F.ok scLen (fun vs H Q E h => ?_) (fun cdv A outer s H vs Q E hr h => ?_)
  · obtain ⟨x, a, b, ns, rfl, _⟩ := h
    rfl
  · obtain ⟨x, a, b, ns, rfl, hR, q⟩ := h
    obtain ⟨dx, l, hx, hl⟩ := hR.rd
    refine ⟨_, pss_one (ps_ret (pe_callB call_len_seq (by rfl) T.len PySem.boot_len (pa_cons (pe_fld (pv 0) rfl) pa_nil))), ?_⟩
    refine ⟨_, rfl, x, C, dx, _, _, rfl, hx, Z.cl, Z.n3, rfl, l, _, rfl, .inl (SqL.of hl), ?_⟩
    rw [List.length_map]
    exact q
end
end K44

set_option Elab.async false
set_option linter.all false
set_option maxRecDepth 100000
set_option maxHeartbeats 1600000
set_option pp.maxSteps 700
namespace K44
open PySem PySem.Spec PyProof.Rows L2 LT NdefX
theorem scNumber : FnScope ["_law_pot_here", "_law_most"] ["_law_pot_here", "_law_most"] (defScope s__law_number) := ⟨rfl, rfl, rfl, by decide +kernel, rfl, by decide +kernel, by decide +kernel⟩
theorem scBegin : FnScope ["_law_pot_here", "_law_turn_here", "_law_way"] ["_law_pot_here", "_law_turn_here"] (defScope s__law_begin) := ⟨rfl, rfl, rfl, by decide +kernel, rfl, by decide +kernel, by decide +kernel⟩
theorem scTurn : FnScope ["_law_pot_here"] ["_law_pot_here"] (defScope s__law_turn) := ⟨rfl, rfl, rfl, by decide +kernel, rfl, by decide +kernel, by decide +kernel⟩
section
variable {P : Program} {w : World} {K : PySem.W.Frag} {mg : Str → Option Value} {base : Heap} {C CN : Addr}
abbrev TakeF (K : PySem.W.Frag) (mg : Str → Option Value) (fT : Addr) (fdT : FuncData) : Prop := Has K mg "_law_take" ["_law_pot_here", "_law_many"] s__law_take fT fdT
def spNumber : Sp := fun vs H Q _ => ∃ (p : Addr) (m : Int), vs = [.ref p, .int m] ∧ Pot H p ∧ 1 ≤ m ∧ m ≤ 100 ∧ ∀ d H', 0 ≤ d → d < 10 ^ 59 → Pot H' p → SameB p H H' → Q (.int d) H'
theorem ok_number {f fT : Addr} {fd fdT : FuncData} {k : Nat} (F : Fun K "_law_number" "_law_number" s__law_number f fd) (T : Tx mg) (FT : TakeF K mg fT fdT) : FnOk P w K mg base CX0 (k + 2) f fd ["_law_pot_here", "_law_most"] spNumber := by
  have GT : FnOk P w K mg base CX0 (k + 1) fT fdT ["_law_pot_here", "_law_many"] spTake := ok_take FT.fn T
  refine F.ok scNumber (fun vs H Q E h => ?_) (fun cdv A outer s H vs Q E hr h => ?_)
  · obtain ⟨p, m, rfl, _⟩ := h
    rfl
  · obtain ⟨p, m, rfl, hp, m1, m2, q⟩ := h
    refine ⟨_, pss_cons (ps_if (pt_cmpR op_eq (pe_call GT hr (by rfl) FT.gl FT.fn.kp FT.bd .nil pass0 (pa_cons (pv 0) (pa_cons pe_int pa_nil))) pe_int (nomark _))
        (pss_one (ps_ret (pe_op op_add (pv 1) (pe_call GT hr (by rfl) FT.gl FT.fn.kp FT.bd .nil pass0 (pa_cons (pv 0) (pa_cons (pe_op op_sub (pe_op op_pow pe_int pe_int) (pv 1)) pa_nil)))))) pss_nil)
      (pss_one (ps_ret (pe_call GT hr (by rfl) FT.gl FT.fn.kp FT.bd .nil pass0 (pa_cons (pv 0) (pa_cons (pv 1) pa_nil))))), ?_⟩
    refine ⟨_, rfl, p, 4, rfl, hp, by decide, by decide, fun d H1 d0 d1 hp1 sb1 => ⟨rfl, _, rfl, ite2 (fun h => ?_) (fun h => ?_)⟩⟩
    · refine ⟨_, rfl, _, rfl, _, _, rfl, rfl, ⟨by decide, by decide, by decide⟩, _, rfl, _, _, rfl, rfl, p, (10 ^ Int.toNat 59 - m : Int), rfl, hp1, (show (0 : Int) < 10 ^ 59 - m by omega), (show (10 ^ 59 - m : Int) ≤ 10 ^ 61 by omega), fun e H2 e0 e1 hp2 sb2 => ⟨_, _, rfl, rfl, ?_⟩⟩
      have e1 : e < 10 ^ 59 - m := e1
      exact q _ H2 (by omega) (by omega) hp2 (sb1.trans sb2)
    · exact ⟨_, rfl, _, rfl, p, m, rfl, hp1, by omega, by omega, fun e H2 e0 e1 hp2 sb2 => q _ H2 e0 (by omega) hp2 (sb1.trans sb2)⟩
def spBegin : Sp := fun vs H Q _ => ∃ (p : Addr) (t : Int), vs = [.ref p, .int t] ∧ Pot H p ∧ 0 < t ∧ t ≤ 10 ^ 61 ∧ ∀ d H', 0 ≤ d → d < t → Pot H' p → SameB p H H' → Q (.int d) H'
theorem ok_begin {f fT : Addr} {fd fdT : FuncData} {k : Nat} (F : Fun K "_law_begin" "_law_begin" s__law_begin f fd) (T : Tx mg) (FT : TakeF K mg fT fdT) : FnOk P w K mg base CX0 (k + 2) f fd ["_law_pot_here", "_law_turn_here"] spBegin := by
  have GT : FnOk P w K mg base CX0 (k + 1) fT fdT ["_law_pot_here", "_law_many"] spTake := ok_take FT.fn T
  refine F.ok scBegin (fun vs H Q E h => ?_) (fun cdv A outer s H vs Q E hr h => ?_)
  · obtain ⟨p, m, rfl, _⟩ := h
    rfl
  · obtain ⟨p, t, rfl, hp, t0, t1, q⟩ := h
    have nd := scBegin.nd
    refine ⟨_, pss_cons (ps_set (i := 2) nd rfl (.inl rfl) (pe_call GT hr (by rfl) FT.gl FT.fn.kp FT.bd .nil pass0 (pa_cons (pv 0) (pa_cons pe_int pa_nil))))
      (pss_cons (ps_if (pt_cmpR op_eq (pv 2) pe_int (nomark _))
        (pss_one (ps_ret (pe_ix ix_list (pe_lst (pa_cons pe_int (pa_cons (pe_op op_sub (pv 1) pe_int) pa_nil))) (pe_call GT hr (by rfl) FT.gl FT.fn.kp FT.bd .nil pass0 (pa_cons (pv 0) (pa_cons pe_int pa_nil))) (fun _ _ => rfl)))) pss_nil)
      (pss_one (ps_ret (pe_call GT hr (by rfl) FT.gl FT.fn.kp FT.bd .nil pass0 (pa_cons (pv 0) (pa_cons (pv 1) pa_nil)))))), ?_⟩
    refine ⟨_, rfl, p, 4, rfl, hp, by decide, by decide, fun d H1 d0 d1 hp1 sb1 => ?_⟩
    refine ⟨_, rfl, rfl, _, rfl, ite2 (fun h => ?_) (fun h => ?_)⟩
    · refine ⟨_, rfl, _, _, rfl, rfl, by show 2 ≤ sizeLine; decide, fun l nl => ?_⟩
      have sl := same_upd (o := .lst [V.int 0, V.int (t - 1)]) nl
      have el := upd_same (H := H1) (a := l) (o := .lst [V.int 0, V.int (t - 1)])
      have nlp : l ≠ p := hp1.ne nl
      generalize upd H1 l (.lst [V.int 0, V.int (t - 1)]) = H2 at *
      refine ⟨_, rfl, p, 2, rfl, hp1.mono sl, by decide, by decide, fun e H3 e0 e1 hp3 sb3 => ?_⟩
      have sb : SameB p H H3 := (sb1.trans (SameB.of sl)).trans sb3
      have pick : ∃ n : Int, 0 ≤ n ∧ n < t ∧ atI [V.int 0, V.int (t - 1)] e = some (.int n) := by
        have he : e = 0 ∨ e = 1 := by omega
        rcases he with rfl | rfl
        · exact ⟨0, by omega, t0, atI_nat (j := 0) rfl⟩
        · exact ⟨t - 1, by omega, by omega, atI_nat (j := 1) rfl⟩
      obtain ⟨n, n0, n1, en⟩ := pick
      exact ⟨l, _, _, _, rfl, rfl, SqL.of (sb3 _ _ nlp el), en, q n H3 n0 n1 hp3 sb⟩
    · exact ⟨_, rfl, _, rfl, p, t, rfl, hp1, t0, t1, fun e H2 e0 e1 hp2 sb2 => q _ H2 e0 e1 hp2 (sb1.trans sb2)⟩
def spSize : Sp := fun vs H Q _ => ∃ (p : Addr), vs = [.ref p] ∧ Pot H p ∧ ∀ t a b H', H t = none → SameB p H H' → Pot H' p → H' t = some (.tup [.int a, .int b]) → 1 ≤ a → a ≤ 10 ^ 60 → 0 ≤ b → b ≤ 10 ^ 60 → Q (.ref t) H'
theorem ok_turn {f fN fT : Addr} {fd fdN fdT : FuncData} {k : Nat} (F : Fun K "_law_turn" "_law_turn" s__law_turn f fd) (T : Tx mg) (FN : Has K mg "_law_number" ["_law_pot_here", "_law_most"] s__law_number fN fdN) (FT : TakeF K mg fT fdT) : FnOk P w K mg base CX0 (k + 3) f fd ["_law_pot_here"] spSize := by
  have GN : FnOk P w K mg base CX0 (k + 2) fN fdN ["_law_pot_here", "_law_most"] spNumber := ok_number FN.fn T FT
  refine F.ok scTurn (fun vs H Q E h => ?_) (fun cdv A outer s H vs Q E hr h => ?_)
  · obtain ⟨p, rfl, _⟩ := h
    rfl
  · obtain ⟨p, rfl, hp, q⟩ := h
    refine ⟨_, pss_one (ps_ret (pe_tup (pa_cons (pe_op op_add pe_int (pe_call GN hr (by rfl) FN.gl FN.fn.kp FN.bd .nil pass0 (pa_cons (pv 0) (pa_cons pe_int pa_nil)))) (pa_cons (pe_call GN hr (by rfl) FN.gl FN.fn.kp FN.bd .nil pass0 (pa_cons (pv 0) (pa_cons pe_int pa_nil))) pa_nil)))), ?_⟩
    refine ⟨_, rfl, p, 9, rfl, hp, by decide, by decide, fun d H1 d0 d1 hp1 sb1 => ⟨_, _, rfl, rfl, _, rfl, p, 10, rfl, hp1, by decide, by decide, fun e H2 e0 e1 hp2 sb2 => ⟨by show 2 ≤ sizeLine; decide, fun t nt => ?_⟩⟩⟩
    have st := same_upd (o := .tup [.int (1 + d), .int e]) nt
    exact q t (1 + d) e _ ((sb1.trans sb2).none hp2 nt) ((sb1.trans sb2).trans (SameB.of st)) (hp2.mono st) upd_same (by omega) (by omega) e0 (by omega)
abbrev nLBegins : List Str := ["_law_pot_here", "_law_turn_here", "_law_many", "_law_k"]
theorem scLBegins : FnScope nLBegins ["_law_pot_here", "_law_turn_here"] (defScope s__law_begins) := ⟨rfl, rfl, rfl, by decide +kernel, rfl, by decide +kernel, by decide +kernel⟩
def spLBegins : Sp := fun vs H Q _ => ∃ (p : Addr) (t : Int), vs = [.ref p, .int t] ∧ Pot H p ∧ 0 < t ∧ t ≤ 10 ^ 61 ∧
  ∀ D (ns : List Int) H', H D = none → SameB p H H' → Pot H' p → H' D = some (.lst (ns.map V.int)) → ns.length ≤ 40 → (∀ n ∈ ns, 0 ≤ n ∧ n < t) → Q (.ref D) H'
theorem ok_lbegins {f fB fT : Addr} {fd fdB fdT : FuncData} {k : Nat} (F : Fun K "_law_begins" "_law_begins" s__law_begins f fd) (T : Tx mg) (FB : Has K mg "_law_begin" ["_law_pot_here", "_law_turn_here"] s__law_begin fB fdB) (FT : TakeF K mg fT fdT) : FnOk P w K mg base CX0 (k + 3) f fd ["_law_pot_here", "_law_turn_here"] spLBegins := by
  have GT : FnOk P w K mg base CX0 (k + 1) fT fdT ["_law_pot_here", "_law_many"] spTake := ok_take FT.fn T
  have GB : FnOk P w K mg base CX0 (k + 2) fB fdB ["_law_pot_here", "_law_turn_here"] spBegin := ok_begin FB.fn T FT
  refine F.ok scLBegins (fun vs H Q E h => ?_) (fun cdv A outer s H vs Q E hr h => ?_)
  · obtain ⟨p, t, rfl, _⟩ := h
    rfl
  · obtain ⟨p, t, rfl, hp, t0, t1, q⟩ := h
    have nd := scLBegins.nd
    have hr1 : Room (k + 1) _ := hr.mono (by omega)
    refine ⟨_, pss_cons (ps_set (i := 2) nd rfl (.inl rfl) (pe_call GT hr1 (by rfl) FT.gl FT.fn.kp FT.bd .nil pass0 (pa_cons (pv 0) (pa_cons (pe_ix ix_list (pe_lst (pa_cons pe_int (pa_cons pe_int pa_nil)))
        (pe_callTy call_int1 (by rfl) T.int (by decide +kernel) (pa_cons (pe_cmpR op_eq (pe_call GT hr1 (by rfl) FT.gl FT.fn.kp FT.bd .nil pass0 (pa_cons (pv 0) (pa_cons pe_int pa_nil))) pe_int (nomark _)) pa_nil)) (fun _ _ => rfl)) pa_nil))))
      (pss_one (ps_ret (pe_lc (own := [("_law_k", 3)]) (g := gName 3) (tt := tYes) rfl nd (pi_range1 (by rfl) T.range (pa_cons (pv 2) pa_nil)) (blkOk_by (N := nLBegins) (sc := defScope s__law_begins) (by decide +kernel))
          (fun _ _ _ _ _ => pg_name (i := 3) nd rfl (Or.inl rfl)) (fun _ _ _ _ _ => pts_nil)
          (fun _ _ _ _ _ => pe_call GB hr (by rfl) FB.gl FB.fn.kp FB.bd .nil pass0 (pa_cons (pv 0) (pa_cons (pv 1) pa_nil)))))), ?_⟩
    refine ⟨_, rfl, by show 2 ≤ sizeLine; decide, fun l nl => ?_⟩
    have sl := same_upd (o := .lst [V.int 6, V.int 41]) nl
    have el := upd_same (H := H) (a := l) (o := .lst [V.int 6, V.int 41])
    have nlp : l ≠ p := hp.ne nl
    generalize upd H l (.lst [V.int 6, V.int 41]) = H1 at *
    refine ⟨_, rfl, p, 4, rfl, hp.mono sl, by decide, by decide, fun d H2 _ _ hp2 sb2 => ?_⟩
    refine ⟨rfl, .inr ⟨_, rfl, ?_⟩⟩
    have pick : ∃ n : Int, (n = 6 ∨ n = 41) ∧ atI [V.int 6, V.int 41] (b2i (decide (V.int d = V.int 0))) = some (.int n) := by
      cases decide (V.int d = V.int 0) with
      | true => exact ⟨41, .inr rfl, rfl⟩
      | false => exact ⟨6, .inl rfl, rfl⟩
    obtain ⟨n, hn, en⟩ := pick
    refine ⟨l, _, _, _, rfl, rfl, SqL.of (sb2 _ _ nlp el), en, ?_⟩
    refine ⟨p, n, rfl, hp2, by omega, by omega, fun m H3 m0 m1 hp3 sb3 => ?_⟩
    have sb : SameB p H H3 := ((SameB.of sl).trans sb2).trans sb3
    refine ⟨_, rfl, m, rfl, by omega, by omega, fun D nD => ?_⟩
    have nDp : D ≠ p := hp3.ne nD
    refine lc_range (lo := 0) (n := m.toNat) (fun i H' => SameB p H H' ∧ Pot H' p ∧ ∃ ns : List Int, H' D = some (.lst (ns.map V.int)) ∧ ns.length = i ∧ ∀ n ∈ ns, 0 ≤ n ∧ n < t) ⟨sb.trans (SameB.of (same_upd nD)), hp3.upd nDp, [], upd_same, rfl, by simp⟩ ?_ ?_
    · rintro i H4 hi ⟨s4, hp4, ns, eD, hl, hb⟩
      refine ⟨rfl, _, rfl, _, rfl, p, t, rfl, hp4, t0, t1, fun y H5 y0 y1 hp5 sb5 => ?_⟩
      have eD5 := sb5 _ _ nDp eD
      refine ⟨_, eD5, ?_, (fun c o n e => ?_), hp5.upd nDp, ns ++ [y], ?_, ?_, fun n hn => ?_⟩
      · rw [List.length_map]
        exact small1000 (by omega)
      · rw [upd_ne (ne_of_none e (sb.none hp3 nD))]
        exact sb5 c o n (s4 c o n e)
      · rw [upd_same, List.map_append]
        rfl
      · rw [List.length_append, hl]
        rfl
      · rcases List.mem_append.mp hn with h | h
        · exact hb n h
        · rw [List.mem_singleton.mp h]
          exact ⟨y0, y1⟩
    · rintro H4 ⟨s4, hp4, ns, eD, hl, hb⟩
      exact q D ns H4 (sb.none hp3 nD) s4 hp4 eD (by omega) hb
end
end K44

set_option Elab.async false
set_option linter.all false
set_option maxRecDepth 100000
set_option maxHeartbeats 1600000
set_option pp.maxSteps 200
namespace K44
open PySem PySem.Spec PyProof.Rows L2 LT NdefX
theorem passLA {X : Cx} : ∀ σ, PassesAt (L2.CX X.prog X.w) X σ E0 := fun σ pins H s e s' I h => passL pins σ H s e s' I h
section
variable {P : Program} {w : World} {K : PySem.W.Frag} {mg : Str → Option Value} {base : Heap}
theorem Zr (D : All K P mg) : Rc K mg D.C_Round := ⟨D.Z_Round.cl, D.n_Round_slots_on, D.n_Round_slots_off, D.n_Round_first_slots, D.Z_Round.gl, D.Z_Round.kp⟩
theorem ok_is_whole (D : All K P mg) : FnOk P w K mg base CX0 1 D.f_is_whole D.d_is_whole ["thing"] spWhole := ok_whole D.h_is_whole.fn D.T
theorem ok_Round___init__ (D : All K P mg) : FnOk P w K mg base (L2.CX P w) 4 D.f_Round___init__ D.d_Round___init__ ["self", "on", "off", "begins"] (spInit D.C_Round D.C_NoRound) :=
  ok_init D.h_Round___init__.fn D.T ⟨_, D.g_MOST_KEEPERS⟩ (Zr D) D.N_NoRound D.h_check_turns D.h_are_begins D.h_is_from D.h_is_within D.h_is_whole
theorem ok_Round_on (D : All K P mg) : FnOk P w K mg base CX0 1 D.f_Round_on D.d_Round_on ["self"] (spOn D.C_Round) := ok_on D.h_Round_on.fn (Zr D)
theorem ok_Round_off (D : All K P mg) : FnOk P w K mg base CX0 1 D.f_Round_off D.d_Round_off ["self"] (spOff D.C_Round) := ok_off D.h_Round_off.fn (Zr D)
theorem ok_Round_begins (D : All K P mg) : FnOk P w K mg base CX0 1 D.f_Round_begins D.d_Round_begins ["self"] (spBegs D.C_Round) := ok_begs D.h_Round_begins.fn D.T (Zr D)
theorem ok_Round___len__ (D : All K P mg) : FnOk P w K mg base CX0 1 D.f_Round___len__ D.d_Round___len__ ["self"] (spLen D.C_Round) := ok_len D.h_Round___len__.fn D.T (Zr D)
theorem ok__law_take (D : All K P mg) : FnOk P w K mg base CX0 1 D.f__law_take D.d__law_take ["_law_pot_here", "_law_many"] spTake := ok_take D.h__law_take.fn D.T
theorem ok__law_pot (D : All K P mg) : FnOk P w K mg base CX0 2 D.f__law_pot D.d__law_pot ["_law_script", "_law_k"] (spPot K) := ok_pot D.h__law_pot.fn D.T D.h__law_cell
theorem ok__law_turn (D : All K P mg) : FnOk P w K mg base CX0 3 D.f__law_turn D.d__law_turn ["_law_pot_here"] spSize := ok_turn D.h__law_turn.fn D.T D.h__law_number D.h__law_take
theorem ok__law_begins (D : All K P mg) : FnOk P w K mg base CX0 3 D.f__law_begins D.d__law_begins ["_law_pot_here", "_law_turn_here"] spLBegins := ok_lbegins D.h__law_begins.fn D.T D.h__law_begin D.h__law_take
/-! ### moved -/
def mvd (a b m : Int) (ns : List Int) : List Int := ns.map fun n => (n + m) % (a + b)
theorem mvd_len (a b m : Int) (ns : List Int) : (mvd a b m ns).length = ns.length := List.length_map ..
def spMoved (C CU : Addr) : Sp := fun vs H Q E => ∃ (x : Addr) (v : V) (a b : Int) (ns : List Int), vs = [.ref x, v] ∧ Rg C H x a b ns ∧ Odd H v ∧
  (∀ m, v = .int m → ∀ y H', Same H H' → Rg C (new H H') y a b (mvd a b m ns) → Q (.ref y) H') ∧ (wholeB v = false → E (.ref CU) none H)
theorem sc_Round_moved : FnScope ["self", "by", "whole", "begin"] ["self", "by"] (defScope s_Round_moved) := ⟨rfl, rfl, rfl, by decide +kernel, rfl, by decide +kernel, by decide +kernel⟩
theorem ok_Round_moved (D : All K P mg) : FnOk P w K mg base (L2.CX P w) 6 D.f_Round_moved D.d_Round_moved ["self", "by"] (spMoved D.C_Round D.C_NoNumber) := by
  refine D.h_Round_moved.fn.okX sc_Round_moved (fun vs H Q E h => ?_) (fun cdv A outer s H vs Q E hr h => ?_)
  · first | (obtain ⟨_, rfl, _⟩ := h; rfl) | (obtain ⟨_, _, rfl, _⟩ := h; rfl) | (obtain ⟨_, _, _, rfl, _⟩ := h; rfl) | (obtain ⟨_, _, _, _, rfl, _⟩ := h; rfl) | (obtain ⟨_, _, _, _, _, rfl, _⟩ := h; rfl) | (obtain ⟨_, _, _, _, _, _, rfl, _⟩ := h; rfl) | (obtain ⟨_, _, _, _, _, _, _, rfl, _⟩ := h; rfl) | (obtain ⟨_, _, _, _, _, _, _, _, rfl, _⟩ := h; rfl) | (obtain ⟨_, _, _, _, _, _, _, _, _, rfl, _⟩ := h; rfl) | (obtain ⟨_, _, _, _, _, _, _, _, _, _, rfl, _⟩ := h; rfl) | (obtain ⟨_, _, _, _, _, _, _, _, _, _, _, rfl, _⟩ := h; rfl) | (obtain ⟨_, _, _, _, _, _, _, _, _, _, _, _, rfl, _⟩ := h; rfl) | (obtain ⟨_, _, _, _, _, _, _, _, _, _, _, _, _, rfl, _⟩ := h; rfl) | (obtain ⟨_, _, _, _, _, _, _, _, _, _, _, _, _, _, rfl, _⟩ := h; rfl) | (obtain ⟨_, _, _, _, _, _, _, _, _, _, _, _, _, _, _, rfl, _⟩ := h; rfl)
  · have T := D.T
    have nd := sc_Round_moved.nd
    have hu := hr.units
    have ps : Passes (L2.CX P w) (cxOf (L2.CX P w) P w K mg base ["self", "by", "whole", "begin"] "Round.moved" (defScope s_Round_moved) D.f_Round_moved cdv A outer s H E) E := passes_call (takes_of rfl rfl rfl rfl) (fun _ _ _ _ h => h)
    obtain ⟨x, v, a, b, ns, rfl, ⟨⟨dx, l, hx, hl⟩, ha, hb, hn, hi⟩, ov, q1, q2⟩ := h
    have Z := Zr D
    refine ⟨_, pss_cons (ps_if (pt_not (pt_val (pe_call (ok_is_whole D) (hr.mono (by decide)) (by rfl) D.h_is_whole.gl D.h_is_whole.fn.kp D.h_is_whole.bd .nil pass0 (pa_cons (pv 1) pa_nil)))) (pss_one (ps_raise rfl (takes_of rfl rfl rfl rfl) (pmk_own PySem.F.excBase_ValueError D.E_NoNumber.x D.E_NoNumber.g D.E_NoNumber.k (raises_own D.E_NoNumber.b D.E_NoNumber.t) (by rfl)))) pss_nil)
      (pss_cons (ps_set (i := 2) nd rfl (.inr rfl) (pe_op op_add (pe_fld (pv 0) rfl) (pe_fld (pv 0) rfl)))
      (pss_one (ps_ret (pe_make D.M_Round (ok_Round___init__ D) (hr.mono (by decide)) (by rfl) D.Z_Round.gl D.h_Round___init__.bd .nil passL (pa_cons (pe_fld (pv 0) rfl) (pa_cons (pe_fld (pv 0) rfl) (pa_cons (pe_lc (own := [("begin", 3)]) (g := gName 3) (tt := tYes) rfl nd (pi_list (pe_fld (pv 0) rfl)) (blkOk_by (N := ["self", "by", "whole", "begin"]) (sc := defScope s_Round_moved) (by decide +kernel)) (fun _ _ _ _ _ => (pg_name (i := 3) nd rfl (Or.inl rfl))) (fun _ _ _ _ _ => pts_nil) (fun _ _ _ _ _ => (pe_op op_mod (pe_op op_add (pv 3) (pv 1)) (pv 2)))) pa_nil))))))), ?_⟩
    refine ⟨_, rfl, v, rfl, ov, _, rfl, ?_⟩
    by_cases hv : wholeB v = true
    · rw [hv]
      obtain ⟨m, rfl⟩ : ∃ m, v = .int m := by cases v <;> first | exact ⟨_, rfl⟩ | cases hv
      have q := q1 m rfl
      refine ⟨_, rfl, x, _, dx, _, _, rfl, hx, Z.cl, Z.n1, (by unfold rf; rfl), _, rfl, x, _, dx, _, _, rfl, hx, Z.cl, Z.n2, (by unfold rf; rfl), _, _, rfl, rfl, ?_⟩
      refine ⟨_, rfl, x, _, dx, _, _, rfl, hx, Z.cl, Z.n1, (by unfold rf; rfl), _, rfl, x, _, dx, _, _, rfl, hx, Z.cl, Z.n2, (by unfold rf; rfl), _, rfl, x, _, dx, _, _, rfl, hx, Z.cl, Z.n3, (by unfold rf; rfl), l, rfl, ⟨_, SqL.of hl⟩, fun D nD => ?_⟩
      refine lc_list (K := K) (a := l) (xs := ns.map V.int) (fun i H' => Same H H' ∧ H' D = some (.lst (((ns.take i).map fun n => (n + m) % (a + b)).map V.int))) ⟨same_upd nD, upd_same⟩ (fun i H' _ h => h.1.seq (SqL.of hl)) ?_ ?_
      · rintro i y H1 hy ⟨sm, eD⟩
        obtain ⟨hi2, rfl⟩ := int_at hy
        refine ⟨rfl, _, rfl, _, rfl, _, _, rfl, rfl, _, rfl, _, _, rfl, rfl, by omega, _, eD, ?_, same_app nD sm, ?_⟩
        · rw [List.length_map, List.length_map, List.length_take]
          exact small1000 (by omega)
        · rw [upd_same, List.take_succ_eq_append_getElem hi2, List.map_append, List.map_append, List.getD_eq_getElem?_getD, List.getElem?_eq_getElem hi2]
          rfl
      · rintro H1 ⟨sm, eD⟩
        rw [List.length_map, List.take_length] at eD
        refine fun y dy ny ndy ney => ?_
        refine mk_round ny ndy ha hb (.inl eD) (by rw [List.length_map]; exact hn) (fun n h => ?_) fun H2 s2 hR => ⟨rfl, ?_⟩
        · obtain ⟨n', _, rfl⟩ := List.mem_map.mp h
          exact ⟨Int.emod_nonneg _ (by omega), Int.emod_lt_of_pos _ (by omega)⟩
        · exact q y H2 (sm.trans s2) (hR.mono (new_down sm))
    · rw [bool_false hv]
      exact q2 (bool_false hv)
/-! ### equal -/
def eqR (a b : Int) (ns : List Int) (a' b' : Int) (ns' : List Int) : Bool := decide (a = a') && (decide (b = b') && ns.isPerm ns')
theorem eqR_comm {a b a' b' : Int} {ns ns' : List Int} : eqR a b ns a' b' ns' = eqR a' b' ns' a b ns := by
  rw [Bool.eq_iff_iff]
  unfold eqR
  simp only [Bool.and_eq_true, decide_eq_true_eq, List.isPerm_iff]
  constructor
  · rintro ⟨rfl, rfl, h⟩
    exact ⟨rfl, rfl, h.symm⟩
  · rintro ⟨rfl, rfl, h⟩
    exact ⟨rfl, rfl, h.symm⟩
theorem eqv_ints : ∀ ns ms : List Int, PyData.eqvAll (ns.map PyData.int) (ms.map PyData.int) = decide (ns = ms)
  | [], [] => by simp [PyData.eqvAll]
  | [], _ :: _ => by simp [PyData.eqvAll]
  | _ :: _, [] => by simp [PyData.eqvAll]
  | n :: ns, m :: ms => by
    simp only [List.map_cons, PyData.eqvAll, PyData.eqv, eqv_ints ns ms]
    rw [Bool.eq_iff_iff]
    simp
theorem eqv_list (ns ms : List Int) : PyData.eqv (intsD ns) (intsD ms) = decide (ns = ms) := by
  unfold intsD
  rw [PyData.eqv, eqv_ints]
theorem sorted_eq {m1 m2 ns ns' : List Int} (p1 : m1.Perm ns) (o1 : m1.Pairwise (· ≤ ·)) (p2 : m2.Perm ns') (o2 : m2.Pairwise (· ≤ ·)) : PyData.eqv (intsD m1) (intsD m2) = ns.isPerm ns' := by
  rw [eqv_list, Bool.eq_iff_iff, decide_eq_true_eq, List.isPerm_iff]
  constructor
  · rintro rfl
    exact p1.symm.trans p2
  · intro p
    exact PySem.W.ksm_same (p1.trans (p.trans p2.symm)) o1 o2
/-- a thing of a plain kind -/
inductive Pl (H : Hp) : V → Prop
  | non : Pl H .non
  | bl (b : Bool) : Pl H (.bl b)
  | int (i : Int) : Pl H (.int i)
  | str (z : Str) : Pl H (.str z)
  | lst {a : Addr} {xs : List V} : H a = some (.lst xs) → Pl H (.ref a)
  | tup {a : Addr} {xs : List V} : H a = some (.tup xs) → Pl H (.ref a)
theorem Pl.odd {H : Hp} {v : V} (h : Pl H v) : Odd H v := by
  cases h with
  | non => exact .non
  | bl b => exact .bl b
  | int i => exact .int i
  | str z => exact .str z
  | lst e => exact .lst e
  | tup e => exact .tup e
theorem Pl.mono {H H' : Hp} {v : V} (h : Pl H v) (s : Same H H') : Pl H' v := by
  cases h with
  | non => exact .non
  | bl b => exact .bl b
  | int i => exact .int i
  | str z => exact .str z
  | lst e => exact .lst (s _ _ e)
  | tup e => exact .tup (s _ _ e)
theorem Pl.beside {C : Addr} {H : Hp} {v : V} (h : Pl H v) : Beside K C H v := by
  cases h with
  | non => exact .non
  | bl b => exact .bl b
  | int i => exact .int i
  | str z => exact .str z
  | lst e => exact .lst e
  | tup e => exact .tup e
theorem Pl.noins {C : Addr} {H : Hp} {v : V} (h : Pl H v) : ∀ b dy gs, v = .ref b → H b ≠ some (.ins C dy gs) := by
  rintro b dy gs rfl e
  cases h with
  | lst e2 => rw [e] at e2; cases e2
  | tup e2 => rw [e] at e2; cases e2
/-- a round beside a thing: are they equal? -/
inductive Cm (C : Addr) (H : Hp) (x : Addr) : V → Bool → Prop
  | no {a b : Int} {ns : List Int} {v : V} : Rg C H x a b ns → Pl H v → Cm C H x v false
  | rg {a b : Int} {ns : List Int} {y : Addr} {a' b' : Int} {ns' : List Int} : Rg C H x a b ns → Rg C H y a' b' ns' → Cm C H x (.ref y) (eqR a b ns a' b' ns')
theorem Cm.mono {C : Addr} {H H' : Hp} {x : Addr} {v : V} {r : Bool} (h : Cm C H x v r) (s : Same H H') : Cm C H' x v r := by
  cases h with
  | no h p => exact .no (h.mono s) (p.mono s)
  | rg h h' => exact .rg (h.mono s) (h'.mono s)
theorem Cm.at_ {C : Addr} {H : Hp} {x : Addr} {v : V} {r : Bool} (h : Cm C H x v r) : ∃ dx fs, H x = some (.ins C dx fs) := by
  cases h with
  | no h p => obtain ⟨dx, l, h, _⟩ := h.rd; exact ⟨_, _, h⟩
  | rg h h' => obtain ⟨dx, l, h, _⟩ := h.rd; exact ⟨_, _, h⟩
def spEq (C : Addr) : Sp := fun vs H Q _ => ∃ (x : Addr) (v : V) (r : Bool), vs = [.ref x, v] ∧ Cm C H x v r ∧ ∀ H', Same H H' → Q (.bl r) H'
theorem sc_Round___eq__ : FnScope ["self", "other"] ["self", "other"] (defScope s_Round___eq__) := ⟨rfl, rfl, rfl, by decide +kernel, rfl, by decide +kernel, by decide +kernel⟩
theorem ok_Round___eq__ (D : All K P mg) : FnOk P w K mg base CX0 1 D.f_Round___eq__ D.d_Round___eq__ ["self", "other"] (spEq D.C_Round) := by
  refine D.h_Round___eq__.fn.ok sc_Round___eq__ (fun vs H Q E h => ?_) (fun cdv A outer s H vs Q E hr h => ?_)
  · first | (obtain ⟨_, rfl, _⟩ := h; rfl) | (obtain ⟨_, _, rfl, _⟩ := h; rfl) | (obtain ⟨_, _, _, rfl, _⟩ := h; rfl) | (obtain ⟨_, _, _, _, rfl, _⟩ := h; rfl) | (obtain ⟨_, _, _, _, _, rfl, _⟩ := h; rfl) | (obtain ⟨_, _, _, _, _, _, rfl, _⟩ := h; rfl) | (obtain ⟨_, _, _, _, _, _, _, rfl, _⟩ := h; rfl) | (obtain ⟨_, _, _, _, _, _, _, _, rfl, _⟩ := h; rfl) | (obtain ⟨_, _, _, _, _, _, _, _, _, rfl, _⟩ := h; rfl) | (obtain ⟨_, _, _, _, _, _, _, _, _, _, rfl, _⟩ := h; rfl) | (obtain ⟨_, _, _, _, _, _, _, _, _, _, _, rfl, _⟩ := h; rfl) | (obtain ⟨_, _, _, _, _, _, _, _, _, _, _, _, rfl, _⟩ := h; rfl) | (obtain ⟨_, _, _, _, _, _, _, _, _, _, _, _, _, rfl, _⟩ := h; rfl) | (obtain ⟨_, _, _, _, _, _, _, _, _, _, _, _, _, _, rfl, _⟩ := h; rfl) | (obtain ⟨_, _, _, _, _, _, _, _, _, _, _, _, _, _, _, rfl, _⟩ := h; rfl)
  · have T := D.T
    have nd := sc_Round___eq__.nd
    have hu := hr.units
    obtain ⟨x, v, r, rfl, hc, q⟩ := h
    have Z := Zr D
    have I := D.I_Round
    refine ⟨_, pss_cons (ps_if (pt_not (pt_val (pe_callB call_isi (by rfl) T.isi (by decide +kernel) (pa_cons (pv 1) (pa_cons (pe_glob (v := .ref D.C_Round) (by rfl) D.Z_Round.gl rfl) pa_nil))))) (pss_one (ps_ret pe_bl)) pss_nil)
      (pss_cons (ps_if (PW.pt (pw_or (pt_cmpR op_ne (pe_fld (pv 0) rfl) (pe_fld (pv 1) rfl) (nomark _)) (pw_or1 (pt_cmpR op_ne (pe_fld (pv 0) rfl) (pe_fld (pv 1) rfl) (nomark _))))) (pss_one (ps_ret pe_bl)) pss_nil)
      (pss_one (ps_ret (pe_cmpR (op_eqD hu) (pe_callB cr_sortedI (by rfl) T.sorted (by decide +kernel) (pa_cons (pe_fld (pv 0) rfl) pa_nil)) (pe_callB cr_sortedI (by rfl) T.sorted (by decide +kernel) (pa_cons (pe_fld (pv 1) rfl) pa_nil)) (nomark _))))), ?_⟩
    cases hc with
    | no hR hp =>
      obtain ⟨t, ty, kt⟩ := hp.odd.kit I
      exact ⟨_, rfl, _, .ref D.C_Round, t, _, false, rfl, .own _, ty, kt, _, rfl, q H (Same.refl _)⟩
    | @rg a b ns y a' b' ns' hR hR' =>
      obtain ⟨⟨dx, l, hx, hl⟩, _, _, _, _⟩ := hR
      obtain ⟨⟨dy, l', hy, hl'⟩, _, _, _, _⟩ := hR'
      refine ⟨_, rfl, _, .ref D.C_Round, _, _, true, rfl, .own _, .base (.ins hy Z.cl I.ha I.hn I.ht I.hm), I.own, _, rfl, ?_⟩

      refine ⟨_, rfl, x, _, dx, _, _, rfl, hx, Z.cl, Z.n1, (by unfold rf; rfl), _, rfl, y, _, dy, _, _, rfl, hy, Z.cl, Z.n1, (by unfold rf; rfl), rfl, _, rfl, ?_⟩
      by_cases ha : a = a'
      · subst ha
        rw [decide_eq_true rfl]
        refine ⟨_, rfl, x, _, dx, _, _, rfl, hx, Z.cl, Z.n2, (by unfold rf; rfl), _, rfl, y, _, dy, _, _, rfl, hy, Z.cl, Z.n2, (by unfold rf; rfl), rfl, _, rfl, ?_⟩
        by_cases hb : b = b'
        · subst hb
          rw [decide_eq_true rfl]
          refine ⟨_, rfl, x, _, dx, _, _, rfl, hx, Z.cl, Z.n3, (by unfold rf; rfl), l, ns, rfl, SqL.of hl, fun m1 p1 e1 o1 n1 => ?_⟩
          have s1 := same_upd (o := .lst (m1.map V.int)) n1
          have f1 := upd_same (H := H) (a := p1) (o := .lst (m1.map V.int))
          generalize upd H p1 (.lst (m1.map V.int)) = H1 at *
          refine ⟨_, rfl, y, _, dy, _, _, rfl, s1 _ _ hy, Z.cl, Z.n3, (by unfold rf; rfl), l', ns', rfl, SqL.of (s1 _ _ hl'), fun m2 p2 e2 o2 n2 => ?_⟩
          have s2 := same_upd (o := .lst (m2.map V.int)) n2
          have f2 := upd_same (H := H1) (a := p2) (o := .lst (m2.map V.int))
          generalize upd H1 p2 (.lst (m2.map V.int)) = H2 at *
          refine ⟨intsD m1, intsD m2, ints_dp (s2 _ _ f1), ints_dp f2, ints_shaped _, ints_shaped _, ?_⟩
          rw [sorted_eq e1 o1 e2 o2]
          have := q H2 (s1.trans s2)
          unfold eqR at this
          rw [decide_eq_true rfl, decide_eq_true rfl] at this
          exact this
        · rw [decide_eq_false (fun e => hb (V.int.inj e))]
          have := q H (Same.refl _)
          unfold eqR at this
          rw [decide_eq_false hb, Bool.false_and, Bool.and_false] at this
          exact this
      · rw [decide_eq_false (fun e => ha (V.int.inj e))]
        have := q H (Same.refl _)
        unfold eqR at this
        rw [decide_eq_false ha] at this
        exact this
end
end K44

set_option Elab.async false
set_option linter.all false
set_option maxRecDepth 100000
set_option maxHeartbeats 1600000
set_option pp.maxSteps 300
namespace K44
open PySem PySem.Spec PyProof.Rows L2 LT NdefX
theorem scRepr : FnScope ["self"] ["self"] (defScope s_Round___repr__) := ⟨rfl, rfl, rfl, by decide +kernel, rfl, by decide +kernel, by decide +kernel⟩
def rtext (a b : Int) (ns : List Int) : Str := ((((((Str.empty ++ Str.ofString "Round(") ++ Str.ofString (toString a)) ++ Str.ofString ", ") ++ Str.ofString (toString b)) ++ Str.ofString ", ") ++ (intsD ns).shown) ++ Str.ofString ")"
theorem pair_shaped (a b : Int) : SeqAt.shaped (.tuple [.int a, .int b]) = true ∧ PyData.eqv (.tuple [.int a, .int b]) (.tuple [.int a, .int b]) = true := by
  have c : PyData.canLay0 (.tuple [.int a, .int b]) = true := by simp [PyData.canLay0, PyData.canLayAll0]
  refine ⟨?_, SeqAt.eqv_refl _ c⟩
  show (PyData.canLay0 (.tuple [.int a, .int b]) && decide (PyData.depth (.tuple [.int a, .int b]) ≤ 64)) = true
  rw [c]
  simp [PyData.depth, PyData.depthAll]
section
variable {P : Program} {w : World} {K : PySem.W.Frag} {mg : Str → Option Value} {base : Heap} {C : Addr}
def spRepr (C : Addr) : Sp := fun vs H Q _ => ∃ (x : Addr) (a b : Int) (ns : List Int), vs = [.ref x] ∧ Rg C H x a b ns ∧ a + b ≤ 10 ^ 61 ∧ Q (.str (rtext a b ns)) H
theorem ok_repr {f : Addr} {fd : FuncData} {k : Nat} (F : Fun K "__repr__" "Round.__repr__" s_Round___repr__ f fd) (Z : Rc K mg C) : FnG P w K mg base CX0 (k + 1) f fd ["self"] (spRepr C) := by
  refine okG F scRepr (fun h => ?_) (fun cdv A outer s H vs Q E hG hr h => ?_)
  · obtain ⟨x, a, b, ns, rfl, _⟩ := h
    rfl
  · obtain ⟨x, a, b, ns, rfl, ⟨⟨dx, l, hx, hl⟩, ha, hb, hn, hi⟩, hW, q⟩ := h
    have hG2 : (cxOf CX0 P w K mg base ["self"] "Round.__repr__" (defScope s_Round___repr__) f cdv A outer s H E).nox.A.guards = some [] := hG
    refine ⟨_, pss_one (ps_ret (pe_joined (.cons pe_str (.cons (pe_fmt (pe_fld (pv 0) rfl)) (.cons pe_str (.cons (pe_fmt (pe_fld (pv 0) rfl)) (.cons pe_str (.cons (pe_fmtL hG2 hr (pe_fld (pv 0) rfl)) (.cons pe_str .nil))))))))), ?_⟩
    have l1 : (Str.ofString "Round(").length = 6 := by decide +kernel
    have l2 : (Str.ofString ", ").length = 2 := by decide +kernel
    have l3 : (Str.ofString ")").length = 1 := by decide +kernel
    have l0 : Str.empty.length = 0 := rfl
    have ba : a.natAbs ≤ 10 ^ 61 := by omega
    have bb : b.natAbs ≤ 10 ^ 61 := by omega
    have ta := tlen61 ba
    have tb := tlen61 bb
    obtain ⟨sh, tl⟩ := ints_show (ns := ns) (fun n h => by have := hi n h; omega) (by omega)
    have sz := sizeLine_eq
    refine ⟨_, rfl, ?_, _, rfl, x, C, dx, _, _, rfl, hx, Z.cl, Z.n1, (by unfold rf; rfl), .inr ⟨a, rfl, lg61 ba, _, rfl, ?_, ?_⟩⟩
    · simp only [strLen_append, l0, l1]; omega
    · simp only [strLen_append, l0, l1]; omega
    refine ⟨_, rfl, ?_, _, rfl, x, C, dx, _, _, rfl, hx, Z.cl, Z.n2, (by unfold rf; rfl), .inr ⟨b, rfl, lg61 bb, _, rfl, ?_, ?_⟩⟩
    · simp only [strLen_append, l0, l1, l2]; omega
    · simp only [strLen_append, l0, l1, l2]; omega
    refine ⟨_, rfl, ?_, _, rfl, x, C, dx, _, _, rfl, hx, Z.cl, Z.n3, (by unfold rf; rfl), l, ns, rfl, SqL.of hl, sh, by omega, _, rfl, ?_, ?_⟩
    · simp only [strLen_append, l0, l1, l2]; omega
    · simp only [strLen_append, l0, l1, l2]; omega
    refine ⟨_, rfl, ?_, ?_⟩
    · simp only [strLen_append, l0, l1, l2, l3]; omega
    · exact q
theorem ok_Round___repr__ (D : All K P mg) : FnG P w K mg base CX0 1 D.f_Round___repr__ D.d_Round___repr__ ["self"] (spRepr D.C_Round) := ok_repr D.h_Round___repr__.fn (Zr D)
/-! ### by -/
def spBy : Sp := fun vs H Q _ => ∃ (p : Addr) (t : Int), vs = [.ref p, .int t] ∧ Pot H p ∧ 0 < t ∧ t ≤ 10 ^ 61 ∧ ∀ d H', d.natAbs ≤ 10 ^ 63 → Pot H' p → SameB p H H' → Q (.int d) H'
theorem sc__law_by : FnScope ["_law_pot_here", "_law_turn_here", "_law_way", "_law_many"] ["_law_pot_here", "_law_turn_here"] (defScope s__law_by) := ⟨rfl, rfl, rfl, by decide +kernel, rfl, by decide +kernel, by decide +kernel⟩
theorem ok__law_by (D : All K P mg) : FnOk P w K mg base CX0 2 D.f__law_by D.d__law_by ["_law_pot_here", "_law_turn_here"] spBy := by
  refine D.h__law_by.fn.ok sc__law_by (fun vs H Q E h => ?_) (fun cdv A outer s H vs Q E hr h => ?_)
  · first | (obtain ⟨_, rfl, _⟩ := h; rfl) | (obtain ⟨_, _, rfl, _⟩ := h; rfl) | (obtain ⟨_, _, _, rfl, _⟩ := h; rfl) | (obtain ⟨_, _, _, _, rfl, _⟩ := h; rfl) | (obtain ⟨_, _, _, _, _, rfl, _⟩ := h; rfl) | (obtain ⟨_, _, _, _, _, _, rfl, _⟩ := h; rfl) | (obtain ⟨_, _, _, _, _, _, _, rfl, _⟩ := h; rfl) | (obtain ⟨_, _, _, _, _, _, _, _, rfl, _⟩ := h; rfl) | (obtain ⟨_, _, _, _, _, _, _, _, _, rfl, _⟩ := h; rfl) | (obtain ⟨_, _, _, _, _, _, _, _, _, _, rfl, _⟩ := h; rfl) | (obtain ⟨_, _, _, _, _, _, _, _, _, _, _, rfl, _⟩ := h; rfl) | (obtain ⟨_, _, _, _, _, _, _, _, _, _, _, _, rfl, _⟩ := h; rfl) | (obtain ⟨_, _, _, _, _, _, _, _, _, _, _, _, _, rfl, _⟩ := h; rfl) | (obtain ⟨_, _, _, _, _, _, _, _, _, _, _, _, _, _, rfl, _⟩ := h; rfl) | (obtain ⟨_, _, _, _, _, _, _, _, _, _, _, _, _, _, _, rfl, _⟩ := h; rfl)
  · have T := D.T
    have nd := sc__law_by.nd
    have hu := hr.units
    obtain ⟨p, t, rfl, hp, t0, t1, q⟩ := h
    refine ⟨_, pss_cons (ps_set (i := 2) nd rfl (.inl rfl) (pe_call (ok__law_take D) (hr.mono (by decide)) (by rfl) D.h__law_take.gl D.h__law_take.fn.kp D.h__law_take.bd .nil pass0 (pa_cons (pv 0) (pa_cons pe_int pa_nil))))
      (pss_cons (ps_if (pt_cmpR op_eq (pv 2) pe_int (nomark _)) (pss_cons (ps_set (i := 3) nd rfl (.inl rfl) (pe_callB (call_min2 rfl) (by rfl) T.min (by decide +kernel) (pa_cons (pe_call (ok__law_take D) (hr.mono (by decide)) (by rfl) D.h__law_take.gl D.h__law_take.fn.kp D.h__law_take.bd .nil pass0 (pa_cons (pv 0) (pa_cons pe_int pa_nil))) (pa_cons (pe_op op_sub (pe_op op_fdivW (pe_op op_pow pe_int pe_int) (pv 1)) pe_int) pa_nil))))
      (pss_one (ps_ret (pe_ix ix_list (pe_lst (pa_cons pe_int (pa_cons (pv 1) (pa_cons (pe_op op_sub pe_int (pv 1)) (pa_cons (pe_op op_mul (pv 1) (pv 3)) pa_nil))))) (pe_call (ok__law_take D) (hr.mono (by decide)) (by rfl) D.h__law_take.gl D.h__law_take.fn.kp D.h__law_take.bd .nil pass0 (pa_cons (pv 0) (pa_cons pe_int pa_nil))) (fun _ _ => rfl))))) pss_nil)
      (pss_cons (ps_if (pt_cmpR op_eq (pv 2) pe_int (nomark _)) (pss_one (ps_ret (pe_op op_sub (pe_call (ok__law_take D) (hr.mono (by decide)) (by rfl) D.h__law_take.gl D.h__law_take.fn.kp D.h__law_take.bd .nil pass0 (pa_cons (pv 0) (pa_cons (pe_op op_pow pe_int pe_int) pa_nil))) (pe_op op_mul pe_int (pe_op op_pow pe_int pe_int))))) pss_nil)
      (pss_one (ps_ret (pe_op op_sub (pe_call (ok__law_take D) (hr.mono (by decide)) (by rfl) D.h__law_take.gl D.h__law_take.fn.kp D.h__law_take.bd .nil pass0 (pa_cons (pv 0) (pa_cons pe_int pa_nil))) pe_int))))), ?_⟩
    refine ⟨_, rfl, p, 4, rfl, hp, by decide, by decide, fun d H1 d0 d1 hp1 sb1 => ?_⟩
    refine ⟨_, rfl, rfl, _, rfl, ite2 (fun h => ?_) (fun h => ?_)⟩
    · refine ⟨_, rfl, p, 40, rfl, hp1, by decide, by decide, fun m H2 m0 m1 hp2 sb2 => ?_⟩
      refine ⟨_, _, rfl, rfl, ⟨by decide, by decide, by decide⟩, _, rfl, _, _, rfl, rfl, wide_div (b := 210) t0 (Nat.lt_of_le_of_lt (show t.natAbs ≤ 10 ^ 61 by omega) (by decide)) (by decide) (by decide), _, _, rfl, rfl, _, _, rfl, ?_⟩
      have hd : 0 ≤ (10 : Int) ^ (60 : Int).toNat / t := Int.ediv_nonneg (by decide) (by omega)
      generalize hM : (if (10 : Int) ^ (60 : Int).toNat / t - 1 < m then (10 : Int) ^ (60 : Int).toNat / t - 1 else m) = M
      have hM1 : -1 ≤ M ∧ M < 40 := by rw [← hM]; split <;> omega
      have hT : (t * M).natAbs ≤ 10 ^ 63 := by
        rw [Int.natAbs_mul]
        have : t.natAbs * M.natAbs ≤ 10 ^ 61 * 40 := Nat.mul_le_mul (by omega) (by omega)
        omega
      refine ⟨_, rfl, _, rfl, _, _, rfl, rfl, _, rfl, _, rfl, _, _, rfl, rfl, .inr ⟨by omega, by omega⟩, by show 4 ≤ sizeLine; decide, fun l nl => ?_⟩
      have sl := same_upd (o := .lst [V.int 0, .int t, .int (0 - t), .int (t * M)]) nl
      have el := upd_same (H := H2) (a := l) (o := .lst [V.int 0, .int t, .int (0 - t), .int (t * M)])
      have nlp : l ≠ p := hp2.ne nl
      generalize upd H2 l (.lst [V.int 0, .int t, .int (0 - t), .int (t * M)]) = H3 at *
      refine ⟨_, rfl, p, 4, rfl, hp2.mono sl, by decide, by decide, fun e H4 e0 e1 hp4 sb4 => ?_⟩
      have sb : SameB p H H4 := ((sb1.trans sb2).trans (SameB.of sl)).trans sb4
      have pick : ∃ n : Int, n.natAbs ≤ 10 ^ 63 ∧ atI [V.int 0, .int t, .int (0 - t), .int (t * M)] e = some (.int n) := by
        have he : e = 0 ∨ e = 1 ∨ e = 2 ∨ e = 3 := by omega
        rcases he with rfl | rfl | rfl | rfl
        · exact ⟨0, by omega, atI_nat (j := 0) rfl⟩
        · exact ⟨t, by omega, atI_nat (j := 1) rfl⟩
        · exact ⟨0 - t, by omega, atI_nat (j := 2) rfl⟩
        · exact ⟨t * M, hT, atI_nat (j := 3) rfl⟩
      obtain ⟨n, n0, en⟩ := pick
      exact ⟨l, _, _, _, rfl, rfl, SqL.of (sb4 _ _ nlp el), en, q n H4 n0 hp4 sb⟩
    refine ⟨_, rfl, rfl, _, rfl, ite2 (fun h => ?_) (fun h => ?_)⟩
    · refine ⟨_, rfl, _, _, rfl, rfl, ⟨by decide, by decide, by decide⟩, p, _, rfl, hp1, by decide, by decide, fun e H2 e0 e1 hp2 sb2 => ?_⟩
      refine ⟨_, _, rfl, rfl, ⟨by decide, by decide, by decide⟩, _, _, rfl, rfl, .inl ⟨by decide, by decide⟩, _, _, rfl, rfl, ?_⟩
      refine q _ H2 ?_ hp2 (sb1.trans sb2)
      have e1' : e < 10 ^ 59 := e1
      show (e - 5 * 10 ^ 58).natAbs ≤ 10 ^ 63
      omega
    · exact ⟨_, rfl, p, 60, rfl, hp1, by decide, by decide, fun e H2 e0 e1 hp2 sb2 => ⟨_, _, rfl, rfl, q _ H2 (by omega) hp2 (sb1.trans sb2)⟩⟩
/-! ### later -/
def spLater : Sp := fun vs H Q _ => ∃ (n m t : Int), vs = [.int n, .int m, .int t] ∧ 0 ≤ n ∧ n < t ∧ t ≤ 10 ^ 61 ∧ m.natAbs ≤ 10 ^ 63 ∧ Q (.int ((n + m) % t)) H
theorem sc__law_later : FnScope ["_law_begin_here", "_law_much", "_law_turn_here", "_law_found"] ["_law_begin_here", "_law_much", "_law_turn_here"] (defScope s__law_later) := ⟨rfl, rfl, rfl, by decide +kernel, rfl, by decide +kernel, by decide +kernel⟩
theorem ok__law_later (D : All K P mg) : FnOk P w K mg base CX0 1 D.f__law_later D.d__law_later ["_law_begin_here", "_law_much", "_law_turn_here"] spLater := by
  refine D.h__law_later.fn.ok sc__law_later (fun vs H Q E h => ?_) (fun cdv A outer s H vs Q E hr h => ?_)
  · first | (obtain ⟨_, rfl, _⟩ := h; rfl) | (obtain ⟨_, _, rfl, _⟩ := h; rfl) | (obtain ⟨_, _, _, rfl, _⟩ := h; rfl) | (obtain ⟨_, _, _, _, rfl, _⟩ := h; rfl) | (obtain ⟨_, _, _, _, _, rfl, _⟩ := h; rfl) | (obtain ⟨_, _, _, _, _, _, rfl, _⟩ := h; rfl) | (obtain ⟨_, _, _, _, _, _, _, rfl, _⟩ := h; rfl) | (obtain ⟨_, _, _, _, _, _, _, _, rfl, _⟩ := h; rfl) | (obtain ⟨_, _, _, _, _, _, _, _, _, rfl, _⟩ := h; rfl) | (obtain ⟨_, _, _, _, _, _, _, _, _, _, rfl, _⟩ := h; rfl) | (obtain ⟨_, _, _, _, _, _, _, _, _, _, _, rfl, _⟩ := h; rfl) | (obtain ⟨_, _, _, _, _, _, _, _, _, _, _, _, rfl, _⟩ := h; rfl) | (obtain ⟨_, _, _, _, _, _, _, _, _, _, _, _, _, rfl, _⟩ := h; rfl) | (obtain ⟨_, _, _, _, _, _, _, _, _, _, _, _, _, _, rfl, _⟩ := h; rfl) | (obtain ⟨_, _, _, _, _, _, _, _, _, _, _, _, _, _, _, rfl, _⟩ := h; rfl)
  · have T := D.T
    have nd := sc__law_later.nd
    have hu := hr.units
    obtain ⟨n, m, t, rfl, n0, n1, t1, hm, q⟩ := h
    refine ⟨_, pss_cons (ps_set (i := 3) nd rfl (.inl rfl) (pe_op op_sub (pe_op op_add (pv 0) (pv 1)) (pe_op op_mulW (pe_op op_fdivW (pv 1) (pv 2)) (pv 2))))
      (pss_one (ps_ret (pe_op op_sub (pv 3) (pe_op op_mul (pv 2) (pe_callTy call_int1 (by rfl) T.int (by decide +kernel) (pa_cons (pe_cmpR op_ge (pv 3) (pv 2) (nomark _)) pa_nil)))))), ?_⟩
    have h0 := Int.emod_nonneg m (show t ≠ 0 by omega)
    have h1 := Int.emod_lt_of_pos m (show 0 < t by omega)
    have h2 := Int.emod_add_mul_ediv m t
    have h3 : m / t * t = t * (m / t) := Int.mul_comm ..
    have hq : (m / t).natAbs ≤ 10 ^ 63 := by
      have := Int.natAbs_ediv_le_natAbs m t
      omega
    refine ⟨_, rfl, _, rfl, _, _, rfl, rfl, _, rfl, _, rfl, _, _, rfl, rfl, wide_div (b := 210) (by omega) (Nat.lt_of_le_of_lt (show t.natAbs ≤ 10 ^ 61 by omega) (by decide)) (by decide) (by decide), _, rfl, _, _, rfl, rfl,
      wide_mul (a := 230) (b := 210) (Nat.lt_of_le_of_lt hq (by decide)) (Nat.lt_of_le_of_lt (show t.natAbs ≤ 10 ^ 61 by omega) (by decide)) (by decide) (by decide) (by decide), _, _, rfl, rfl, ?_⟩
    have e0 : n + m - m / t * t = n + m % t := by rw [h3]; omega
    refine ⟨_, rfl, _, rfl, _, rfl, _, rfl, _, _, rfl, rfl, .inr ⟨_, rfl, ?_⟩⟩
    have e1 : (n + m) % t = (n + m % t) % t := by rw [Int.add_emod_emod]
    by_cases hc : t ≤ n + m - m / t * t
    · rw [decide_eq_true hc]
      refine ⟨_, _, rfl, rfl, .inr ⟨by decide, by decide⟩, _, _, rfl, rfl, ?_⟩
      have : (n + m % t) % t = n + m - m / t * t - t * 1 := by
        rw [e0, show n + m % t = (n + m % t - t) + t by omega, Int.add_emod_right, Int.emod_eq_of_lt (by omega) (by omega)]
        omega
      rw [e1, this] at q
      exact q
    · rw [decide_eq_false hc]
      refine ⟨_, _, rfl, rfl, .inr ⟨by decide, by decide⟩, _, _, rfl, rfl, ?_⟩
      have : (n + m % t) % t = n + m - m / t * t - t * 0 := by rw [e0, Int.emod_eq_of_lt (by omega) (by omega)]; omega
      rw [e1, this] at q
      exact q
end
end K44

set_option Elab.async false
set_option linter.all false
set_option maxRecDepth 100000
set_option maxHeartbeats 1600000
set_option pp.maxSteps 300
namespace K44
open PySem PySem.Spec PyProof.Rows L2 LT NdefX
section
variable {P : Program} {w : World} {K : PySem.W.Frag} {mg : Str → Option Value} {base : Heap} {C : Addr}
/-! ### is -/
def spIs (C : Addr) : Sp := fun vs H Q _ => ∃ (x D : Addr) (a b : Int) (ns : List Int), vs = [.ref x, .int a, .int b, .ref D] ∧ Rg C H x a b ns ∧ H D = some (.lst (ns.map V.int)) ∧ a + b ≤ 10 ^ 61 ∧ ∀ H', Same H H' → Q (.bl true) H'
theorem sc__law_is : FnScope ["_law_made", "_law_on", "_law_off", "_law_begins_here"] ["_law_made", "_law_on", "_law_off", "_law_begins_here"] (defScope s__law_is) := ⟨rfl, rfl, rfl, by decide +kernel, rfl, by decide +kernel, by decide +kernel⟩
theorem ok__law_is (D : All K P mg) : FnG P w K mg base CX0 4 D.f__law_is D.d__law_is ["_law_made", "_law_on", "_law_off", "_law_begins_here"] (spIs D.C_Round) := by
  refine okG D.h__law_is.fn sc__law_is (fun h => ?_) (fun cdv A outer s H vs Q E hG hr h => ?_)
  · first | (obtain ⟨_, rfl, _⟩ := h; rfl) | (obtain ⟨_, _, rfl, _⟩ := h; rfl) | (obtain ⟨_, _, _, rfl, _⟩ := h; rfl) | (obtain ⟨_, _, _, _, rfl, _⟩ := h; rfl) | (obtain ⟨_, _, _, _, _, rfl, _⟩ := h; rfl) | (obtain ⟨_, _, _, _, _, _, rfl, _⟩ := h; rfl) | (obtain ⟨_, _, _, _, _, _, _, rfl, _⟩ := h; rfl) | (obtain ⟨_, _, _, _, _, _, _, _, rfl, _⟩ := h; rfl) | (obtain ⟨_, _, _, _, _, _, _, _, _, rfl, _⟩ := h; rfl) | (obtain ⟨_, _, _, _, _, _, _, _, _, _, rfl, _⟩ := h; rfl) | (obtain ⟨_, _, _, _, _, _, _, _, _, _, _, rfl, _⟩ := h; rfl) | (obtain ⟨_, _, _, _, _, _, _, _, _, _, _, _, rfl, _⟩ := h; rfl) | (obtain ⟨_, _, _, _, _, _, _, _, _, _, _, _, _, rfl, _⟩ := h; rfl) | (obtain ⟨_, _, _, _, _, _, _, _, _, _, _, _, _, _, rfl, _⟩ := h; rfl) | (obtain ⟨_, _, _, _, _, _, _, _, _, _, _, _, _, _, _, rfl, _⟩ := h; rfl)
  · have T := D.T
    have nd := sc__law_is.nd
    have hu := hr.units
    have hG2 : (cxOf CX0 P w K mg base ["_law_made", "_law_on", "_law_off", "_law_begins_here"] "_law_is" (defScope s__law_is) D.f__law_is cdv A outer s H E).nox.A.guards = some [] := hG
    obtain ⟨x, L, a, b, ns, rfl, hR, hL, hW, q⟩ := h
    have Z := Zr D
    have I := D.I_Round
    have a1 := hR.a1
    have b0 := hR.b0
    have ln := hR.ln
    have bd := hR.bd
    refine ⟨_, pss_cons (ps_if (PW.pt (pw_or (pt_not (pt_val (pe_callB call_isi (by rfl) T.isi (by decide +kernel) (pa_cons (pv 0) (pa_cons (pe_glob (v := .ref D.C_Round) (by rfl) D.Z_Round.gl rfl) pa_nil))))) (pw_or (pt_cmpR (op_neD hu) (pe_tup (pa_cons (pe_meth0 (pv 0) D.Z_Round.cl D.h_Round_on.me (ok_Round_on D) (hr.mono (by decide)) D.h_Round_on.bd .nil pass0) (pa_cons (pe_meth0 (pv 0) D.Z_Round.cl D.h_Round_off.me (ok_Round_off D) (hr.mono (by decide)) D.h_Round_off.bd .nil pass0) pa_nil))) (pe_tup (pa_cons (pv 1) (pa_cons (pv 2) pa_nil))) (nomark _)) (pw_or1 (pt_cmpR (op_neD hu) (pe_meth0 (pv 0) D.Z_Round.cl D.h_Round_begins.me (ok_Round_begins D) (hr.mono (by decide)) D.h_Round_begins.bd .nil pass0) (pv 3) (nomark _)))))) (pss_one (ps_ret pe_bl)) pss_nil)
      (pss_one (ps_ret (pe_and (pe_cmpR op_eq (pe_callB (call_repr_ownG D.h_Round___repr__.me.at_ D.h_Round___repr__.me.fn (ok_Round___repr__ D) hG2 (hr.mono (by decide)) D.h_Round___repr__.bd) (by rfl) T.repr (by decide +kernel) (pa_cons (pv 0) pa_nil)) (pe_joined (.cons pe_str (.cons (pe_fmt (pv 1)) (.cons pe_str (.cons (pe_fmt (pv 2)) (.cons pe_str (.cons (pe_fmtL hG2 hr (pv 3)) (.cons pe_str .nil)))))))) (nomark _)) (pe_one (pe_cmpR op_eq (pe_callB (call_len_own D.h_Round___len__.me.at_ D.h_Round___len__.me.fn (ok_Round___len__ D) (hr.mono (by decide)) D.h_Round___len__.bd) (by rfl) T.len PySem.boot_len (pa_cons (pv 0) pa_nil)) (pe_callB call_len_seq (by rfl) T.len PySem.boot_len (pa_cons (pv 3) pa_nil)) (nomark _)))))), ?_⟩
    have at_ : ∀ {Hx : Hp}, Rg D.C_Round Hx x a b ns → ∃ dx l, Hx x = some (.ins D.C_Round dx (rf (.int a) (.int b) (.ref l))) := fun h => by
      obtain ⟨dx, l, h, _⟩ := h.rd
      exact ⟨dx, l, h⟩
    obtain ⟨dx, l, hx⟩ := at_ hR
    refine ⟨_, rfl, .ref x, .ref D.C_Round, _, _, true, rfl, .own _, .base (.ins hx Z.cl I.ha I.hn I.ht I.hm), I.own, _, rfl, ?_⟩
    refine ⟨_, rfl, x, dx, _, rfl, hx, rfl, x, a, b, ns, rfl, hR, _, rfl, x, dx, _, rfl, hx, rfl, x, a, b, ns, rfl, hR, by show 2 ≤ sizeLine; decide, fun t nt => ?_⟩
    have s1 := same_upd (o := .tup [V.int a, .int b]) nt
    have e1 := upd_same (H := H) (a := t) (o := .tup [V.int a, .int b])
    generalize upd H t (.tup [V.int a, .int b]) = H1 at *
    refine ⟨_, rfl, _, rfl, by show 2 ≤ sizeLine; decide, fun t2 nt2 => ?_⟩
    have s2 := same_upd (o := .tup [V.int a, .int b]) nt2
    have e2 := upd_same (H := H1) (a := t2) (o := .tup [V.int a, .int b])
    have e1' := s2 _ _ e1
    generalize upd H1 t2 (.tup [V.int a, .int b]) = H2 at *
    obtain ⟨sh, ev⟩ := pair_shaped a b
    refine ⟨.tuple [.int a, .int b], .tuple [.int a, .int b], .tup (SqT.of e1') (.cons (.int a) (.cons (.int b) .nil)), .tup (SqT.of e2) (.cons (.int a) (.cons (.int b) .nil)), sh, sh, _, rfl, ?_⟩
    rw [ev]
    have s02 := s1.trans s2
    have hR2 := hR.mono s02
    obtain ⟨dx2, l2, hx2⟩ := at_ hR2
    refine ⟨_, rfl, x, dx2, _, rfl, hx2, rfl, x, a, b, ns, rfl, hR2, fun M H3 nM s3 eM => ?_⟩
    have hL3 := (s02.trans s3) _ _ hL
    refine ⟨_, rfl, intsD ns, intsD ns, ints_dp eM, ints_dp hL3, ints_shaped ns, ints_shaped ns, _, rfl, ?_⟩
    rw [ints_eqv]
    have s03 := s02.trans s3
    have hR3 := hR.mono s03
    obtain ⟨dx3, l3, hx3⟩ := at_ hR3
    refine ⟨_, rfl, x, dx3, _, rfl, hx3, x, a, b, ns, rfl, hR3, hW, _, rfl, ?_⟩
    have l1 : (Str.ofString "Round(").length = 6 := by decide +kernel
    have l2' : (Str.ofString ", ").length = 2 := by decide +kernel
    have l3' : (Str.ofString ")").length = 1 := by decide +kernel
    have l0 : Str.empty.length = 0 := rfl
    have ba : a.natAbs ≤ 10 ^ 61 := by omega
    have bb : b.natAbs ≤ 10 ^ 61 := by omega
    have ta := tlen61 ba
    have tb := tlen61 bb
    obtain ⟨sh', tl⟩ := ints_show (ns := ns) (fun n h => by have := bd n h; omega) (by omega)
    have sz := sizeLine_eq
    refine ⟨_, rfl, ?_, _, rfl, .inr ⟨a, rfl, lg61 ba, _, rfl, ?_, ?_⟩⟩
    · simp only [strLen_append, l0, l1]; omega
    · simp only [strLen_append, l0, l1]; omega
    refine ⟨_, rfl, ?_, _, rfl, .inr ⟨b, rfl, lg61 bb, _, rfl, ?_, ?_⟩⟩
    · simp only [strLen_append, l0, l1, l2']; omega
    · simp only [strLen_append, l0, l1, l2']; omega
    refine ⟨_, rfl, ?_, _, rfl, L, ns, rfl, SqL.of hL3, sh', by omega, _, rfl, ?_, ?_⟩
    · simp only [strLen_append, l0, l1, l2']; omega
    · simp only [strLen_append, l0, l1, l2']; omega
    refine ⟨_, rfl, ?_, ?_⟩
    · simp only [strLen_append, l0, l1, l2', l3']; omega
    refine ⟨rfl, ?_⟩
    rw [decide_eq_true (by rfl)]
    refine ⟨_, rfl, _, rfl, x, dx3, _, rfl, hx3, x, a, b, ns, rfl, hR3, _, rfl, by omega, by omega, ?_⟩
    refine ⟨_, rfl, L, _, rfl, .inl (SqL.of hL3), rfl, ?_⟩
    rw [decide_eq_true (by rw [List.length_map])]
    exact q H3 s03
/-! ### same -/
theorem Cm.eq1 {H : Hp} {x : Addr} {v : V} {r : Bool} {Q : VK} (h : Cm C H x v r) (q : ∀ H', Same H H' → Q (.bl r) H') : rOwn K C (spEq C) (.ref x) v H Q := by
  obtain ⟨dx, fs, hx⟩ := h.at_
  refine .inl ⟨x, dx, fs, rfl, hx, ?_, x, v, r, rfl, h, fun H' s => ⟨r, rfl, q H' s⟩⟩
  cases h with
  | no h p => exact p.beside
  | rg h h' => obtain ⟨dy, l, h, _⟩ := h'.rd; exact .ins h
theorem Cm.eq2 {H : Hp} {x : Addr} {v : V} {r : Bool} {Q : VK} (h : Cm C H x v r) (q : ∀ H', Same H H' → Q (.bl r) H') : rOwn K C (spEq C) v (.ref x) H Q := by
  obtain ⟨dx, fs, hx⟩ := h.at_
  cases h with
  | no h p => exact .inr ⟨x, dx, fs, rfl, hx, p.beside, p.noins, x, v, false, rfl, .no h p, fun H' s => ⟨false, rfl, q H' s⟩⟩
  | @rg a b ns y a' b' ns' h h' =>
    obtain ⟨dy, l, hy, _⟩ := h'.rd
    rw [eqR_comm] at q
    exact .inl ⟨y, dy, _, rfl, hy, .ins hx, y, .ref x, _, rfl, .rg h' h, fun H' s => ⟨_, rfl, q H' s⟩⟩
def spSame (C : Addr) : Sp := fun vs H Q _ => ∃ (x : Addr) (v : V) (r : Bool), vs = [.ref x, v, .bl r] ∧ Cm C H x v r ∧ ∀ H', Same H H' → Q (.bl true) H'
theorem sc__law_same : FnScope ["_law_one", "_law_other", "_law_due", "_law_found", "_law_told"] ["_law_one", "_law_other", "_law_due"] (defScope s__law_same) := ⟨rfl, rfl, rfl, by decide +kernel, rfl, by decide +kernel, by decide +kernel⟩
theorem ok__law_same (D : All K P mg) : FnOk P w K mg base CX0 4 D.f__law_same D.d__law_same ["_law_one", "_law_other", "_law_due"] (spSame D.C_Round) := by
  refine D.h__law_same.fn.ok sc__law_same (fun vs H Q E h => ?_) (fun cdv A outer s H vs Q E hr h => ?_)
  · first | (obtain ⟨_, rfl, _⟩ := h; rfl) | (obtain ⟨_, _, rfl, _⟩ := h; rfl) | (obtain ⟨_, _, _, rfl, _⟩ := h; rfl) | (obtain ⟨_, _, _, _, rfl, _⟩ := h; rfl) | (obtain ⟨_, _, _, _, _, rfl, _⟩ := h; rfl) | (obtain ⟨_, _, _, _, _, _, rfl, _⟩ := h; rfl) | (obtain ⟨_, _, _, _, _, _, _, rfl, _⟩ := h; rfl) | (obtain ⟨_, _, _, _, _, _, _, _, rfl, _⟩ := h; rfl) | (obtain ⟨_, _, _, _, _, _, _, _, _, rfl, _⟩ := h; rfl) | (obtain ⟨_, _, _, _, _, _, _, _, _, _, rfl, _⟩ := h; rfl) | (obtain ⟨_, _, _, _, _, _, _, _, _, _, _, rfl, _⟩ := h; rfl) | (obtain ⟨_, _, _, _, _, _, _, _, _, _, _, _, rfl, _⟩ := h; rfl) | (obtain ⟨_, _, _, _, _, _, _, _, _, _, _, _, _, rfl, _⟩ := h; rfl) | (obtain ⟨_, _, _, _, _, _, _, _, _, _, _, _, _, _, rfl, _⟩ := h; rfl) | (obtain ⟨_, _, _, _, _, _, _, _, _, _, _, _, _, _, _, rfl, _⟩ := h; rfl)
  · have T := D.T
    have nd := sc__law_same.nd
    have hu := hr.units
    obtain ⟨x, v, r, rfl, hc, q⟩ := h
    refine ⟨_, pss_cons (ps_set (i := 3) nd rfl (.inl rfl) (pe_lst (pa_cons (pe_cmpR (op_own D.Q_Round (ok_Round___eq__ D) (hr.mono (by decide)) D.h_Round___eq__.bd) (pv 0) (pv 1) (nomark _)) (pa_cons (pe_cmpR (op_own D.Q_Round (ok_Round___eq__ D) (hr.mono (by decide)) D.h_Round___eq__.bd) (pv 1) (pv 0) (nomark _)) (pa_cons (pe_not (pe_cmpR (op_ne_ownB D.Q_Round (ok_Round___eq__ D) (hr.mono (by decide)) D.h_Round___eq__.bd) (pv 0) (pv 1) (nomark _))) pa_nil)))))
      (pss_one (ps_ret (pe_callB (cr_all rfl) (by rfl) T.all (by decide +kernel) (pa_cons (pe_lc (own := [("_law_told", 4)]) (g := gName 4) (tt := tYes) rfl nd (pi_list (pv 3)) (blkOk_by (N := ["_law_one", "_law_other", "_law_due", "_law_found", "_law_told"]) (sc := defScope s__law_same) (by decide +kernel)) (fun _ _ _ _ _ => (pg_name (i := 4) nd rfl (Or.inl rfl))) (fun _ _ _ _ _ => pts_nil) (fun _ _ _ _ _ => (pe_and (pe_callB (show CallR _ (.builtin "isinstance") (rIsi K) from call_isi) (by rfl) T.isi (by decide +kernel) (pa_cons (pv 4) (pa_cons (pe_bltn (v := .ty "bool") (by rfl) T.bool (by decide +kernel) rfl) pa_nil))) (pe_one (pe_cmpR op_eq (pv 4) (pv 2) (nomark _)))))) pa_nil)))), ?_⟩
    refine ⟨_, rfl, _, rfl, hc.eq1 fun H1 s1 => ?_⟩
    have hc1 := hc.mono s1
    refine ⟨_, rfl, _, rfl, hc1.eq2 fun H2 s2 => ?_⟩
    have hc2 := hc1.mono s2
    obtain ⟨dx, fs, hx⟩ := hc2.at_
    have bs : Beside K D.C_Round H2 v := by
      cases hc2 with
      | no h p => exact p.beside
      | rg h h' => obtain ⟨dy, l, h, _⟩ := h'.rd; exact .ins h
    refine ⟨_, rfl, _, rfl, x, dx, fs, rfl, hx, bs, x, v, r, rfl, hc2, fun H3 s3 => ⟨r, rfl, r, rfl, _, rfl, by show 3 ≤ sizeLine; decide, fun L nL => ?_⟩⟩
    rw [Bool.not_not]
    have s4 := same_upd (o := .lst [V.bl r, .bl r, .bl r]) nL
    have eL := upd_same (H := H3) (a := L) (o := .lst [V.bl r, .bl r, .bl r])
    generalize upd H3 L (.lst [V.bl r, .bl r, .bl r]) = H4 at *
    have s04 := s1.trans (s2.trans (s3.trans s4))
    refine ⟨_, rfl, L, rfl, ⟨_, SqL.of eL⟩, fun M nM => ?_⟩
    refine lc_list (K := K) (a := L) (xs := [V.bl r, .bl r, .bl r]) (fun i H' => Same H4 H' ∧ H' M = some (.lst ((List.replicate i true).map V.bl))) ⟨same_upd nM, upd_same⟩ (fun i H' _ h => h.1.seq (SqL.of eL)) ?_ ?_
    · rintro i y H5 hy ⟨sm, eM⟩
      have hi : i < 3 := by
        obtain ⟨h, _⟩ := List.getElem?_eq_some_iff.mp hy
        exact h
      have hy' : y = .bl r := by
        have : i = 0 ∨ i = 1 ∨ i = 2 := by omega
        rcases this with rfl | rfl | rfl <;> exact (Option.some.inj hy).symm
      subst hy'
      refine ⟨rfl, _, rfl, .bl r, .ty "bool", _, _, true, rfl, .ty _, .base (.bl r), kit_ty (show kitB "bool" "bool" = some true by decide +kernel), _, rfl, ?_⟩
      refine ⟨_, rfl, _, rfl, rfl, ?_⟩
      rw [decide_eq_true rfl]
      refine ⟨_, eM, ?_, same_app nM sm, ?_⟩
      · rw [List.length_map, List.length_replicate]
        exact small1000 (by omega)
      · rw [upd_same, List.replicate_succ', List.map_append]
        rfl
    · rintro H5 ⟨sm, eM⟩
      refine ⟨M, [true, true, true], rfl, SqL.of eM, ?_⟩
      exact q H5 (s04.trans sm)
/-! ### refused -/
def spRefused (C : Addr) : Sp := fun vs H Q _ => ∃ (x : Addr) (v : V) (a b : Int) (ns : List Int), vs = [.ref x, v] ∧ Rg C H x a b ns ∧ Odd H v ∧ wholeB v = false ∧ ∀ H', Same H H' → Q (.bl true) H'
theorem sc__law_refused : FnScope ["_law_made", "_law_thing", "_law_good", "e", "_law_beside"] ["_law_made", "_law_thing"] (defScope s__law_refused) := ⟨rfl, rfl, rfl, by decide +kernel, rfl, by decide +kernel, by decide +kernel⟩
theorem ok__law_refused (D : All K P mg) : FnOk P w K mg base CX0 7 D.f__law_refused D.d__law_refused ["_law_made", "_law_thing"] (spRefused D.C_Round) := by
  refine D.h__law_refused.fn.ok sc__law_refused (fun vs H Q E h => ?_) (fun cdv A outer s H vs Q E hr h => ?_)
  · first | (obtain ⟨_, rfl, _⟩ := h; rfl) | (obtain ⟨_, _, rfl, _⟩ := h; rfl) | (obtain ⟨_, _, _, rfl, _⟩ := h; rfl) | (obtain ⟨_, _, _, _, rfl, _⟩ := h; rfl) | (obtain ⟨_, _, _, _, _, rfl, _⟩ := h; rfl) | (obtain ⟨_, _, _, _, _, _, rfl, _⟩ := h; rfl) | (obtain ⟨_, _, _, _, _, _, _, rfl, _⟩ := h; rfl) | (obtain ⟨_, _, _, _, _, _, _, _, rfl, _⟩ := h; rfl) | (obtain ⟨_, _, _, _, _, _, _, _, _, rfl, _⟩ := h; rfl) | (obtain ⟨_, _, _, _, _, _, _, _, _, _, rfl, _⟩ := h; rfl) | (obtain ⟨_, _, _, _, _, _, _, _, _, _, _, rfl, _⟩ := h; rfl) | (obtain ⟨_, _, _, _, _, _, _, _, _, _, _, _, rfl, _⟩ := h; rfl) | (obtain ⟨_, _, _, _, _, _, _, _, _, _, _, _, _, rfl, _⟩ := h; rfl) | (obtain ⟨_, _, _, _, _, _, _, _, _, _, _, _, _, _, rfl, _⟩ := h; rfl) | (obtain ⟨_, _, _, _, _, _, _, _, _, _, _, _, _, _, _, rfl, _⟩ := h; rfl)
  · have T := D.T
    have nd := sc__law_refused.nd
    have hu := hr.units
    obtain ⟨x, v, a, b, ns, rfl, hR, ov, hv, q⟩ := h
    refine ⟨_, pss_cons (ps_set (i := 2) nd rfl (.inl rfl) pe_bl)
      (pss_cons (ps_try_as (i := 3) rfl rfl nd rfl rfl ⟨rfl, by decide, .inl D.g_LightsError⟩ takes0 (fun W pn xe tk _ => (pss_one (ps_expr (pe_methAt (pv 0) D.Z_Round.cl D.h_Round_moved.me (ok_Round_moved D) (hr.mono (by decide)) D.h_Round_moved.bd (fun σ => passAt tk σ) (pa_cons (pv 1) pa_nil))))) (fun a oe cls d pn hz hf => (pss_cons (ps_set (i := 4) nd rfl (.inl rfl) (pe_callB (call_isST hz hf) (by rfl) T.isi (by decide +kernel) (pa_cons (pv 3) (pa_cons (pe_tup (pa_cons (pe_glob (v := .ref D.C_Barred) (by rfl) D.g_Barred rfl) (pa_cons (pe_glob (v := .ref D.C_NoRound) (by rfl) D.g_NoRound rfl) (pa_cons (pe_glob (v := .ref D.C_NoSlot) (by rfl) D.g_NoSlot rfl) pa_nil)))) pa_nil))))
      (pss_one (ps_set (i := 2) nd rfl (.inl rfl) (pe_and (pe_callB (call_isS hz hf) (by rfl) T.isi (by decide +kernel) (pa_cons (pv 3) (pa_cons (pe_glob (v := .ref D.C_NoNumber) (by rfl) D.g_NoNumber rfl) pa_nil))) (pe_and (pe_callB (call_isS hz hf) (by rfl) T.isi (by decide +kernel) (pa_cons (pv 3) (pa_cons (pe_glob (v := .ref D.C_Wrong) (by rfl) D.g_Wrong rfl) pa_nil))) (pe_and (pe_callB (call_isS hz hf) (by rfl) T.isi (by decide +kernel) (pa_cons (pv 3) (pa_cons (pe_bltn (v := .ty "ValueError") (by rfl) T.ve (by decide +kernel) rfl) pa_nil))) (pe_one (pe_not (pv 4)))))))))))
      (pss_one (ps_ret (pv 2)))), ?_⟩
    obtain ⟨dx, l, hx, _⟩ := hR.rd
    refine ⟨_, rfl, x, dx, _, rfl, hx, rfl, _, rfl, x, v, a, b, ns, rfl, hR, ov, fun t et => ?_, fun _ => ?_⟩
    · subst et
      cases hv
    · refine ⟨true, D.exm_NoNumber_LightsError, fun _ e ne => ?_, fun z => nomatch z⟩
      have hD : HasD none H := .inl rfl
      refine ⟨_, rfl, by show 3 ≤ sizeLine; decide, fun tp ntp => ?_⟩
      have s2 := same_upd (o := .tup [V.ref D.C_Barred, .ref D.C_NoRound, .ref D.C_NoSlot]) ntp
      have ht := upd_same (H := H) (a := tp) (o := .tup [V.ref D.C_Barred, .ref D.C_NoRound, .ref D.C_NoSlot])
      generalize upd H tp (.tup [V.ref D.C_Barred, .ref D.C_NoRound, .ref D.C_NoSlot]) = H3 at *
      have hD3 := hD.mono s2
      refine ⟨D.C_NoNumber, tp, _, [.ref D.C_Barred, .ref D.C_NoRound, .ref D.C_NoSlot], false, rfl, D.x_NoNumber, hD3, rfl, ht, .cons (.own _) (.cons (.own _) (.cons (.own _) .nil)),
        kitAny_cons D.kit_NoNumber_Barred (fun _ => kitAny_cons D.kit_NoNumber_NoRound (fun _ => kitAny_cons D.kit_NoNumber_NoSlot (fun _ => rfl) nofun) nofun) nofun, ?_⟩
      refine ⟨_, rfl, _, _, _, true, rfl, D.x_NoNumber, hD3, rfl, .own _, D.kit_NoNumber_NoNumber, _, rfl, ?_⟩
      refine ⟨_, rfl, _, _, _, true, rfl, D.x_NoNumber, hD3, rfl, .own _, D.kit_NoNumber_Wrong, _, rfl, ?_⟩
      refine ⟨_, rfl, _, _, _, true, rfl, D.x_NoNumber, hD3, rfl, .ty _, D.kv_NoNumber, _, rfl, ?_⟩
      exact ⟨_, rfl, _, rfl, _, rfl, q H3 s2⟩
end
end K44

set_option Elab.async false
set_option linter.all false
set_option maxRecDepth 100000
set_option maxHeartbeats 1600000
set_option pp.maxSteps 300
namespace K44
open PySem PySem.Spec PyProof.Rows L2 LT NdefX
/-- a list of begins that a round may have -/
structure Bs (a b : Int) (ns : List Int) : Prop where
  a1 : 1 ≤ a
  b0 : 0 ≤ b
  bd : a + b ≤ 10 ^ 61
  ln : ns.length ≤ 40
  el : ∀ n ∈ ns, 0 ≤ n ∧ n < a + b
/-- another round's parts stand at t; their list is neither p nor L -/
def Ot (H : Hp) (p L t : Addr) : Prop := ∃ (a b : Int) (l : Addr) (ns : List Int), H t = some (.tup [.int a, .int b, .ref l]) ∧ H l = some (.lst (ns.map V.int)) ∧ l ≠ p ∧ l ≠ L ∧ Bs a b ns
theorem Ot.mono {H H' : Hp} {p L t : Addr} (h : Ot H p L t) (s : Same H H') : Ot H' p L t := by
  obtain ⟨a, b, l, ns, h1, h2, h3⟩ := h
  exact ⟨a, b, l, ns, s _ _ h1, s _ _ h2, h3⟩
theorem Ot.monoB {H H' : Hp} {p L t : Addr} (h : Ot H p L t) (hp : Pot H p) (s : SameB p H H') : Ot H' p L t := by
  obtain ⟨a, b, l, ns, h1, h2, h3, h4⟩ := h
  exact ⟨a, b, l, ns, s _ _ (ne_of_pot hp h1) h1, s _ _ h3 h2, h3, h4⟩
theorem Ot.upd {H : Hp} {p L t : Addr} {xs : List V} {o : HO} (h : Ot H p L t) (hL : H L = some (.lst xs)) : Ot (L2.upd H L o) p L t := by
  obtain ⟨a, b, l, ns, h1, h2, h3, h4, h5⟩ := h
  refine ⟨a, b, l, ns, ?_, ?_, h3, h4, h5⟩
  · rw [upd_ne (fun e => by rw [e, hL] at h1; cases h1)]
    exact h1
  · rw [upd_ne h4]
    exact h2
theorem Bs.ins {a b x : Int} {ns : List Int} {i : Nat} (h : Bs a b ns) (hx : 0 ≤ x ∧ x < a + b) (hl : ns.length < 40) : Bs a b (ns.take i ++ [x] ++ ns.drop i) := by
  refine ⟨h.a1, h.b0, h.bd, ?_, fun n hn => ?_⟩
  · simp only [List.length_append, List.length_take, List.length_drop, List.length_cons, List.length_nil]
    omega
  · simp only [List.mem_append, List.mem_singleton] at hn
    rcases hn with (hn | rfl) | hn
    · exact h.el n (List.mem_of_mem_take hn)
    · exact hx
    · exact h.el n (List.mem_of_mem_drop hn)
theorem Bs.put {a b x : Int} {ns : List Int} {i : Nat} (h : Bs a b ns) (hx : 0 ≤ x ∧ x < a + b) (hi : i < ns.length) : Bs a b (ns.take i ++ [x] ++ ns.drop (i + 1)) := by
  have ln := h.ln
  refine ⟨h.a1, h.b0, h.bd, ?_, fun n hn => ?_⟩
  · simp only [List.length_append, List.length_take, List.length_drop, List.length_cons, List.length_nil]
    omega
  · simp only [List.mem_append, List.mem_singleton] at hn
    rcases hn with (hn | rfl) | hn
    · exact h.el n (List.mem_of_mem_take hn)
    · exact hx
    · exact h.el n (List.mem_of_mem_drop hn)
theorem Bs.out {a b : Int} {ns : List Int} {i : Nat} (h : Bs a b ns) : Bs a b (ns.take i ++ ns.drop (i + 1)) := by
  have ln := h.ln
  refine ⟨h.a1, h.b0, h.bd, ?_, fun n hn => ?_⟩
  · simp only [List.length_append, List.length_take, List.length_drop]
    omega
  · simp only [List.mem_append] at hn
    rcases hn with hn | hn
    · exact h.el n (List.mem_of_mem_take hn)
    · exact h.el n (List.mem_of_mem_drop hn)
section
variable {P : Program} {w : World} {K : PySem.W.Frag} {mg : Str → Option Value} {base : Heap} {C : Addr}
/-- what is found so far -/
structure Fd (H0 H : Hp) (p L : Addr) (ts : List Addr) : Prop where
  pot : Pot H p
  sb : SameB p H0 H
  at_ : H L = some (.lst (ts.map V.ref))
  ne : L ≠ p
  nw : H0 L = none
  ln : ts.length ≤ 10
  el : ∀ t ∈ ts, Ot H p L t
theorem joinA {α : Type} {J : α → Hp → Prop} {sl : α → L2.St} {rest : L2.St → Hp → Prop} {goal : Prop} (k : (∀ a Hx, J a Hx → rest (sl a) Hx) → goal) (h : ∀ a Hx, J a Hx → rest (sl a) Hx) : goal := k h
def spOthers : Sp := fun vs H Q _ => ∃ (p M : Addr) (a b : Int) (ns : List Int), vs = [.ref p, .int a, .int b, .ref M] ∧ Pot H p ∧ M ≠ p ∧ H M = some (.lst (ns.map V.int)) ∧ Bs a b ns ∧ a ≤ 10 ^ 60 ∧ b ≤ 10 ^ 60 ∧
  ∀ L ts H', Fd H H' p L ts → Q (.ref L) H'
theorem sc__law_others : FnScope ["_law_pot_here", "_law_on", "_law_off", "_law_begins_here", "_law_turn_here", "_law_at", "_law_found", "_law_one"] ["_law_pot_here", "_law_on", "_law_off", "_law_begins_here"] (defScope s__law_others) := ⟨rfl, rfl, rfl, by decide +kernel, rfl, by decide +kernel, by decide +kernel⟩
theorem ok__law_others (D : All K P mg) : FnOk P w K mg base CX0 2 D.f__law_others D.d__law_others ["_law_pot_here", "_law_on", "_law_off", "_law_begins_here"] spOthers := by
  refine D.h__law_others.fn.ok sc__law_others (fun vs H Q E h => ?_) (fun cdv A outer s H vs Q E hr h => ?_)
  · first | (obtain ⟨_, rfl, _⟩ := h; rfl) | (obtain ⟨_, _, rfl, _⟩ := h; rfl) | (obtain ⟨_, _, _, rfl, _⟩ := h; rfl) | (obtain ⟨_, _, _, _, rfl, _⟩ := h; rfl) | (obtain ⟨_, _, _, _, _, rfl, _⟩ := h; rfl) | (obtain ⟨_, _, _, _, _, _, rfl, _⟩ := h; rfl) | (obtain ⟨_, _, _, _, _, _, _, rfl, _⟩ := h; rfl) | (obtain ⟨_, _, _, _, _, _, _, _, rfl, _⟩ := h; rfl) | (obtain ⟨_, _, _, _, _, _, _, _, _, rfl, _⟩ := h; rfl) | (obtain ⟨_, _, _, _, _, _, _, _, _, _, rfl, _⟩ := h; rfl) | (obtain ⟨_, _, _, _, _, _, _, _, _, _, _, rfl, _⟩ := h; rfl) | (obtain ⟨_, _, _, _, _, _, _, _, _, _, _, _, rfl, _⟩ := h; rfl) | (obtain ⟨_, _, _, _, _, _, _, _, _, _, _, _, _, rfl, _⟩ := h; rfl) | (obtain ⟨_, _, _, _, _, _, _, _, _, _, _, _, _, _, rfl, _⟩ := h; rfl) | (obtain ⟨_, _, _, _, _, _, _, _, _, _, _, _, _, _, _, rfl, _⟩ := h; rfl)
  · have T := D.T
    have nd := sc__law_others.nd
    have hu := hr.units
    obtain ⟨p, M, a, b, ns, rfl, hp, nMp, hM, B, a2, b2, q⟩ := h
    refine ⟨_, pss_cons (ps_set (i := 4) nd rfl (.inl rfl) (pe_op op_add (pv 1) (pv 2)))
      (pss_cons (ps_set (i := 5) nd rfl (.inl rfl) (pe_call (ok__law_take D) (hr.mono (by decide)) (by rfl) D.h__law_take.gl D.h__law_take.fn.kp D.h__law_take.bd .nil pass0 (pa_cons (pv 0) (pa_cons (pe_op op_add (pe_callB call_len_seq (by rfl) T.len PySem.boot_len (pa_cons (pv 3) pa_nil)) pe_int) pa_nil))))
      (pss_cons (ps_set (i := 6) nd rfl (.inl rfl) (pe_lst (pa_cons (pe_tup (pa_cons (pe_op op_add (pv 1) pe_int) (pa_cons (pv 2) (pa_cons (pv 3) pa_nil)))) (pa_cons (pe_tup (pa_cons (pv 1) (pa_cons (pe_op op_add (pv 2) pe_int) (pa_cons (pv 3) pa_nil)))) (pa_cons (pe_tup (pa_cons (pe_op op_add (pv 2) pe_int) (pa_cons (pe_op op_sub (pv 1) pe_int) (pa_cons (pv 3) pa_nil)))) pa_nil)))))
      (pss_cons (ps_if (pt_cmpR op_lt (pe_callB call_len_seq (by rfl) T.len PySem.boot_len (pa_cons (pv 3) pa_nil)) pe_int (nomark _)) (pss_one (ps_expr (pe_bm PySem.F.plainAttrs_list PySem.F.slot_list_append PySem.F.type_list_append mt_append (pv 6) (pa_cons (pe_tup (pa_cons (pv 1) (pa_cons (pv 2) (pa_cons (pe_op op_cat (pe_op op_cat (pe_slice sl_list (pv 3) po_none (po_some (pv 5))) (pe_lst (pa_cons (pe_call (ok__law_take D) (hr.mono (by decide)) (by rfl) D.h__law_take.gl D.h__law_take.fn.kp D.h__law_take.bd .nil pass0 (pa_cons (pv 0) (pa_cons (pv 4) pa_nil))) pa_nil))) (pe_slice sl_list (pv 3) (po_some (pv 5)) po_none)) pa_nil)))) pa_nil)))) pss_nil)
      (pss_cons (ps_if (pt_cmpR op_lt (pv 5) (pe_callB call_len_seq (by rfl) T.len PySem.boot_len (pa_cons (pv 3) pa_nil)) (nomark _)) (pss_cons (ps_set (i := 7) nd rfl (.inl rfl) (pe_op op_mod (pe_op op_add (pe_op op_add (pe_ix ix_list (pv 3) (pv 5) (fun _ _ => rfl)) pe_int) (pe_call (ok__law_take D) (hr.mono (by decide)) (by rfl) D.h__law_take.gl D.h__law_take.fn.kp D.h__law_take.bd .nil pass0 (pa_cons (pv 0) (pa_cons (pv 4) pa_nil)))) (pv 4)))
      (pss_one (ps_set (i := 6) nd rfl (.inl rfl) (pe_op op_cat (pv 6) (pe_lst (pa_cons (pe_tup (pa_cons (pv 1) (pa_cons (pv 2) (pa_cons (pe_op op_cat (pe_op op_cat (pe_slice sl_list (pv 3) po_none (po_some (pv 5))) (pe_lst (pa_cons (pv 7) pa_nil))) (pe_slice sl_list (pv 3) (po_some (pe_op op_add (pv 5) pe_int)) po_none)) pa_nil)))) (pa_cons (pe_tup (pa_cons (pv 1) (pa_cons (pv 2) (pa_cons (pe_op op_cat (pe_slice sl_list (pv 3) po_none (po_some (pv 5))) (pe_slice sl_list (pv 3) (po_some (pe_op op_add (pv 5) pe_int)) po_none)) pa_nil)))) pa_nil))))))) pss_nil)
      (pss_one (ps_ret (pv 6))))))), ?_⟩
    have a1 := B.a1
    have b0 := B.b0
    have ln := B.ln
    refine ⟨_, rfl, _, rfl, _, _, rfl, rfl, ?_⟩
    refine ⟨_, rfl, _, rfl, M, _, rfl, .inl (SqL.of hM), _, _, rfl, rfl, p, _, rfl, hp, by rw [List.length_map]; omega, by rw [List.length_map]; omega, fun i H1 i0 i1 hp1 sb1 => ?_⟩
    rw [List.length_map] at i1
    have hM1 := sb1 _ _ nMp hM
    -- three tuples
    refine ⟨_, rfl, _, _, rfl, rfl, _, rfl, _, rfl, by show 3 ≤ sizeLine; decide, fun t1 n1 => ?_⟩
    have s2 := same_upd (o := .tup [V.int (a + 1), .int b, .ref M]) n1
    have e1 := upd_same (H := H1) (a := t1) (o := .tup [V.int (a + 1), .int b, .ref M])
    generalize upd H1 t1 (.tup [V.int (a + 1), .int b, .ref M]) = H2 at *
    refine ⟨_, rfl, _, rfl, _, _, rfl, rfl, _, rfl, by show 3 ≤ sizeLine; decide, fun t2 n2 => ?_⟩
    have s3 := same_upd (o := .tup [V.int a, .int (b + 1), .ref M]) n2
    have e2 := upd_same (H := H2) (a := t2) (o := .tup [V.int a, .int (b + 1), .ref M])
    generalize upd H2 t2 (.tup [V.int a, .int (b + 1), .ref M]) = H3 at *
    refine ⟨_, rfl, _, _, rfl, rfl, _, rfl, _, _, rfl, rfl, _, rfl, by show 3 ≤ sizeLine; decide, fun t3 n3 => ?_⟩
    have s4 := same_upd (o := .tup [V.int (b + 1), .int (a - 1), .ref M]) n3
    have e3 := upd_same (H := H3) (a := t3) (o := .tup [V.int (b + 1), .int (a - 1), .ref M])
    generalize upd H3 t3 (.tup [V.int (b + 1), .int (a - 1), .ref M]) = H4 at *
    refine ⟨by show 3 ≤ sizeLine; decide, fun L nL => ?_⟩
    have s5 := same_upd (o := .lst [V.ref t1, .ref t2, .ref t3]) nL
    have eL := upd_same (H := H4) (a := L) (o := .lst [V.ref t1, .ref t2, .ref t3])
    generalize upd H4 L (.lst [V.ref t1, .ref t2, .ref t3]) = H5 at *
    have hM4 := (s2.trans (s3.trans s4)) _ _ hM1
    have nML : M ≠ L := ne_of_none hM4 nL
    have hM5 := s5 _ _ hM4
    have f5 : Fd H H5 p L [t1, t2, t3] := by
      have hp4 := hp1.mono (s2.trans (s3.trans s4))
      refine ⟨hp4.mono s5, sb1.trans (SameB.of (s2.trans (s3.trans (s4.trans s5)))), eL, hp4.ne nL, sb1.none hp1 ((s2.trans (s3.trans s4)).free nL), by show 3 ≤ 10; decide, fun t ht => ?_⟩
      simp only [List.mem_cons, List.not_mem_nil, or_false] at ht
      rcases ht with rfl | rfl | rfl
      · exact ⟨_, _, M, ns, (s3.trans (s4.trans s5)) _ _ e1, hM5, nMp, nML, by omega, by omega, by omega, ln, fun n hn => by have := B.el n hn; omega⟩
      · exact ⟨_, _, M, ns, (s4.trans s5) _ _ e2, hM5, nMp, nML, by omega, by omega, by omega, ln, fun n hn => by have := B.el n hn; omega⟩
      · exact ⟨_, _, M, ns, s5 _ _ e3, hM5, nMp, nML, by omega, by omega, by omega, ln, fun n hn => by have := B.el n hn; omega⟩
    clear e1 e2 e3 eL s2 s3 s4 s5
    apply joinA (α := List Addr) (J := fun ts Hx => Fd H Hx p L ts ∧ Hx M = some (.lst (ns.map V.int)) ∧ ts.length ≤ 4) (sl := fun _ => [some (.ref p), some (.int a), some (.int b), some (.ref M), some (.int (a + b)), some (.int i), some (.ref L), none])
    · intro h
      refine ⟨_, rfl, M, _, rfl, .inl (SqL.of hM5), _, _, rfl, rfl, _, rfl, ite2 (fun hl => ?A) (fun hl => ?B)⟩
      case B => exact h [t1, t2, t3] H5 ⟨f5, hM5, by show 3 ≤ 4; decide⟩
      case A =>
        have hl' : ns.length < 40 := by
          have := of_decide_eq_true hl
          rw [List.length_map] at this
          omega
        refine ⟨_, rfl, .inl ⟨rfl, _, SqL.of f5.at_⟩, _, rfl, _, rfl, _, rfl, _, rfl, _, rfl, M, _, rfl, SqL.of hM5, fun l1 m1 => ?_⟩
        rw [cut_take V.int ns i0]
        have s6 := same_upd (o := .lst ((ns.take i.toNat).map V.int)) m1
        have g1 := upd_same (H := H5) (a := l1) (o := .lst ((ns.take i.toNat).map V.int))
        generalize upd H5 l1 (.lst ((ns.take i.toNat).map V.int)) = H6 at *
        have hp6 := f5.pot.mono s6
        have nl1 : l1 ≠ p := f5.pot.ne m1
        refine ⟨_, rfl, _, rfl, p, _, rfl, hp6, by omega, by omega, fun x H7 x0 x1 hp7 sb7 => ?_⟩
        refine ⟨by show 1 ≤ sizeLine; decide, fun l2 m2 => ?_⟩
        have s8 := same_upd (o := .lst [V.int x]) m2
        have g2 := upd_same (H := H7) (a := l2) (o := .lst [V.int x])
        generalize upd H7 l2 (.lst [V.int x]) = H8 at *
        have g1' := s8 _ _ (sb7 _ _ nl1 g1)
        refine ⟨l1, l2, _, _, rfl, rfl, g1', g2, ?_, fun l3 m3 => ?_⟩
        · rw [List.length_map, List.length_take]
          exact Nat.le_of_lt (small1000 (by show _ + 1 ≤ 1000; omega))
        have s9 := same_upd (o := .lst ((ns.take i.toNat).map V.int ++ [V.int x])) m3
        have g3 := upd_same (H := H8) (a := l3) (o := .lst ((ns.take i.toNat).map V.int ++ [V.int x]))
        generalize upd H8 l3 (.lst ((ns.take i.toNat).map V.int ++ [V.int x])) = H9 at *
        have hM9 : H9 M = some (.lst (ns.map V.int)) := (s8.trans s9) _ _ (sb7 _ _ nMp (s6 _ _ hM5))
        refine ⟨_, rfl, _, rfl, _, rfl, M, _, rfl, SqL.of hM9, fun l4 m4 => ?_⟩
        rw [cut_drop V.int ns i0]
        have s10 := same_upd (o := .lst ((ns.drop i.toNat).map V.int)) m4
        have g4 := upd_same (H := H9) (a := l4) (o := .lst ((ns.drop i.toNat).map V.int))
        generalize upd H9 l4 (.lst ((ns.drop i.toNat).map V.int)) = H10 at *
        refine ⟨l3, l4, _, _, rfl, rfl, s10 _ _ g3, g4, ?_, fun l5 m5 => ?_⟩
        · simp only [List.length_append, List.length_map, List.length_take, List.length_drop, List.length_cons, List.length_nil]
          exact Nat.le_of_lt (small1000 (by omega))
        have eo : (ns.take i.toNat).map V.int ++ [V.int x] ++ (ns.drop i.toNat).map V.int = (ns.take i.toNat ++ [x] ++ ns.drop i.toNat).map V.int := by
          simp only [List.map_append, List.map_cons, List.map_nil]
        rw [eo]
        have s11 := same_upd (o := .lst ((ns.take i.toNat ++ [x] ++ ns.drop i.toNat).map V.int)) m5
        have g5 := upd_same (H := H10) (a := l5) (o := .lst ((ns.take i.toNat ++ [x] ++ ns.drop i.toNat).map V.int))
        generalize upd H10 l5 (.lst ((ns.take i.toNat ++ [x] ++ ns.drop i.toNat).map V.int)) = H11 at *
        refine ⟨by show 3 ≤ sizeLine; decide, fun t m6 => ?_⟩
        have s12 := same_upd (o := .tup [V.int a, .int b, .ref l5]) m6
        have g6 := upd_same (H := H11) (a := t) (o := .tup [V.int a, .int b, .ref l5])
        generalize upd H11 t (.tup [V.int a, .int b, .ref l5]) = H12 at *
        have s712 := s8.trans (s9.trans (s10.trans (s11.trans s12)))
        have sb12 : SameB p H5 H12 := (SameB.of s6).trans (sb7.trans (SameB.of s712))
        have eL12 := sb12 _ _ f5.ne f5.at_
        refine ⟨L, _, _, rfl, rfl, eL12, small1000 (by show 3 ≤ 1000; decide), ?_⟩
        have hp12 := hp7.mono s712
        have nl5p : l5 ≠ p := (hp7.mono (s8.trans (s9.trans s10))).ne m5
        have nl5L : l5 ≠ L := fun e => by
          have := sb7 _ _ f5.ne (s6 _ _ f5.at_)
          have := (s8.trans (s9.trans s10)) _ _ this
          rw [← e, m5] at this
          cases this
        refine h [t1, t2, t3, t] _ ⟨⟨hp12.upd f5.ne, ?_, upd_same, f5.ne, f5.nw, by show 4 ≤ 10; decide, fun t' ht => ?_⟩, ?_, by show 4 ≤ 4; decide⟩
        · exact SameB.new f5.nw (f5.sb.trans sb12)
        · have : t' ∈ [t1, t2, t3] ∨ t' = t := (List.mem_append.mp (show t' ∈ [t1, t2, t3] ++ [t] from ht)).imp id List.mem_singleton.mp
          rcases this with ht | rfl
          · exact ((f5.el t' ht).monoB f5.pot sb12).upd eL12
          · exact Ot.upd ⟨a, b, l5, _, g6, s12 _ _ g5, nl5p, nl5L, B.ins ⟨x0, x1⟩ hl'⟩ eL12
        · rw [upd_ne nML]
          exact s712 _ _ (sb7 _ _ nMp (s6 _ _ hM5))
    · rintro ts H6 ⟨f6, hM6, lt⟩
      refine ⟨_, rfl, _, rfl, M, _, rfl, .inl (SqL.of hM6), _, _, rfl, rfl, _, rfl, ite2 (fun hl => ?_) (fun hl => ?_)⟩
      · have hl' : i.toNat < ns.length := by
          have := of_decide_eq_true hl
          rw [List.length_map] at this
          omega
        refine ⟨_, rfl, _, rfl, M, _, i, .int ns[i.toNat], rfl, rfl, SqL.of hM6, ?_, _, _, rfl, rfl, _, rfl, _, rfl, p, _, rfl, f6.pot, by omega, by omega, fun x H7 x0 x1 hp7 sb7 => ?_⟩
        · obtain ⟨j, rfl⟩ : ∃ j : Nat, i = (j : Int) := ⟨i.toNat, by omega⟩
          exact atI_nat (j := j) (by rw [List.getElem?_map, List.getElem?_eq_getElem (show j < ns.length by omega)]; rfl)
        refine ⟨_, _, rfl, rfl, _, rfl, _, _, rfl, rfl, by omega, ?_⟩
        dsimp only
        generalize hO : (ns[i.toNat] + 1 + x) % (a + b) = one
        have ho : 0 ≤ one ∧ one < a + b := by
          rw [← hO]
          exact ⟨Int.emod_nonneg _ (by omega), Int.emod_lt_of_pos _ (by omega)⟩
        have hM7 := sb7 _ _ nMp hM6
        have i2 : (0 : Int) ≤ i + 1 := by omega
        have e2 : (i + 1).toNat = i.toNat + 1 := by omega
        -- one put otherwise
        refine ⟨_, rfl, _, rfl, _, rfl, _, rfl, _, rfl, _, rfl, M, _, rfl, SqL.of hM7, fun l1 m1 => ?_⟩
        rw [cut_take V.int ns i0]
        have s8 := same_upd (o := .lst ((ns.take i.toNat).map V.int)) m1
        have g1 := upd_same (H := H7) (a := l1) (o := .lst ((ns.take i.toNat).map V.int))
        generalize upd H7 l1 (.lst ((ns.take i.toNat).map V.int)) = H8 at *
        refine ⟨_, rfl, by show 1 ≤ sizeLine; decide, fun l2 m2 => ?_⟩
        have s9 := same_upd (o := .lst [V.int one]) m2
        have g2 := upd_same (H := H8) (a := l2) (o := .lst [V.int one])
        generalize upd H8 l2 (.lst [V.int one]) = H9 at *
        refine ⟨l1, l2, _, _, rfl, rfl, s9 _ _ g1, g2, ?_, fun l3 m3 => ?_⟩
        · rw [List.length_map, List.length_take]
          exact Nat.le_of_lt (small1000 (by show _ + 1 ≤ 1000; omega))
        have s10 := same_upd (o := .lst ((ns.take i.toNat).map V.int ++ [V.int one])) m3
        have g3 := upd_same (H := H9) (a := l3) (o := .lst ((ns.take i.toNat).map V.int ++ [V.int one]))
        generalize upd H9 l3 (.lst ((ns.take i.toNat).map V.int ++ [V.int one])) = H10 at *
        have hM10 := (s8.trans (s9.trans s10)) _ _ hM7
        refine ⟨_, rfl, _, rfl, _, _, rfl, rfl, _, rfl, M, _, rfl, SqL.of hM10, fun l4 m4 => ?_⟩
        rw [cut_drop V.int ns i2, e2]
        have s11 := same_upd (o := .lst ((ns.drop (i.toNat + 1)).map V.int)) m4
        have g4 := upd_same (H := H10) (a := l4) (o := .lst ((ns.drop (i.toNat + 1)).map V.int))
        generalize upd H10 l4 (.lst ((ns.drop (i.toNat + 1)).map V.int)) = H11 at *
        refine ⟨l3, l4, _, _, rfl, rfl, s11 _ _ g3, g4, ?_, fun l5 m5 => ?_⟩
        · simp only [List.length_append, List.length_map, List.length_take, List.length_drop, List.length_cons, List.length_nil]
          exact Nat.le_of_lt (small1000 (by omega))
        have eo : (ns.take i.toNat).map V.int ++ [V.int one] ++ (ns.drop (i.toNat + 1)).map V.int = (ns.take i.toNat ++ [one] ++ ns.drop (i.toNat + 1)).map V.int := by
          simp only [List.map_append, List.map_cons, List.map_nil]
        rw [eo]
        have s12 := same_upd (o := .lst ((ns.take i.toNat ++ [one] ++ ns.drop (i.toNat + 1)).map V.int)) m5
        have g5 := upd_same (H := H11) (a := l5) (o := .lst ((ns.take i.toNat ++ [one] ++ ns.drop (i.toNat + 1)).map V.int))
        generalize upd H11 l5 (.lst ((ns.take i.toNat ++ [one] ++ ns.drop (i.toNat + 1)).map V.int)) = H12 at *
        refine ⟨by show 3 ≤ sizeLine; decide, fun t m6 => ?_⟩
        have s13 := same_upd (o := .tup [V.int a, .int b, .ref l5]) m6
        have g6 := upd_same (H := H12) (a := t) (o := .tup [V.int a, .int b, .ref l5])
        generalize upd H12 t (.tup [V.int a, .int b, .ref l5]) = H13 at *
        have s13' := s8.trans (s9.trans (s10.trans (s11.trans (s12.trans s13))))
        have hM13 := s13' _ _ hM7
        -- one left out
        refine ⟨_, rfl, _, rfl, _, rfl, _, rfl, _, rfl, M, _, rfl, SqL.of hM13, fun k1 w1 => ?_⟩
        rw [cut_take V.int ns i0]
        have s14 := same_upd (o := .lst ((ns.take i.toNat).map V.int)) w1
        have u1 := upd_same (H := H13) (a := k1) (o := .lst ((ns.take i.toNat).map V.int))
        generalize upd H13 k1 (.lst ((ns.take i.toNat).map V.int)) = H14 at *
        refine ⟨_, rfl, _, rfl, _, _, rfl, rfl, _, rfl, M, _, rfl, SqL.of (s14 _ _ hM13), fun k2 w2 => ?_⟩
        rw [cut_drop V.int ns i2, e2]
        have s15 := same_upd (o := .lst ((ns.drop (i.toNat + 1)).map V.int)) w2
        have u2 := upd_same (H := H14) (a := k2) (o := .lst ((ns.drop (i.toNat + 1)).map V.int))
        generalize upd H14 k2 (.lst ((ns.drop (i.toNat + 1)).map V.int)) = H15 at *
        refine ⟨k1, k2, _, _, rfl, rfl, s15 _ _ u1, u2, ?_, fun k3 w3 => ?_⟩
        · simp only [List.length_append, List.length_map, List.length_take, List.length_drop]
          exact Nat.le_of_lt (small1000 (by omega))
        rw [← List.map_append]
        have s16 := same_upd (o := .lst ((ns.take i.toNat ++ ns.drop (i.toNat + 1)).map V.int)) w3
        have u3 := upd_same (H := H15) (a := k3) (o := .lst ((ns.take i.toNat ++ ns.drop (i.toNat + 1)).map V.int))
        generalize upd H15 k3 (.lst ((ns.take i.toNat ++ ns.drop (i.toNat + 1)).map V.int)) = H16 at *
        refine ⟨by show 3 ≤ sizeLine; decide, fun t' w4 => ?_⟩
        have s17 := same_upd (o := .tup [V.int a, .int b, .ref k3]) w4
        have u4 := upd_same (H := H16) (a := t') (o := .tup [V.int a, .int b, .ref k3])
        generalize upd H16 t' (.tup [V.int a, .int b, .ref k3]) = H17 at *
        refine ⟨by show 2 ≤ sizeLine; decide, fun G w5 => ?_⟩
        have s18 := same_upd (o := .lst [V.ref t, .ref t']) w5
        have u5 := upd_same (H := H17) (a := G) (o := .lst [V.ref t, .ref t'])
        generalize upd H17 G (.lst [V.ref t, .ref t']) = H18 at *
        have s717 := s13'.trans (s14.trans (s15.trans (s16.trans s17)))
        have s718 := s717.trans s18
        have eL18 := s718 _ _ (sb7 _ _ f6.ne f6.at_)
        refine ⟨L, G, _, _, rfl, rfl, eL18, u5, ?_, fun L' w6 => ?_⟩
        · rw [List.length_map]
          exact Nat.le_of_lt (small1000 (by show _ + 2 ≤ 1000; omega))
        have er : ts.map V.ref ++ [V.ref t, .ref t'] = (ts ++ [t, t']).map V.ref := by simp only [List.map_append, List.map_cons, List.map_nil]
        rw [er]
        have hp18 := hp7.mono s718
        have sb18 : SameB p H6 H18 := sb7.trans (SameB.of s718)
        have elH : ∀ x ∈ ts ++ [t, t'], Ot H18 p L' x := fun x hx => by
          have up : ∀ {y : Addr}, Ot H18 p L y → Ot H18 p L' y := fun ⟨a, b, l, ms, h1, h2, h3, _, h5⟩ => ⟨a, b, l, ms, h1, h2, h3, ne_of_none h2 w6, h5⟩
          rcases List.mem_append.mp hx with hx | hx
          · exact up ((f6.el x hx).monoB f6.pot sb18)
          · simp only [List.mem_cons, List.not_mem_nil, or_false] at hx
            rcases hx with rfl | rfl
            · have h2 := (s13.trans (s14.trans (s15.trans (s16.trans (s17.trans s18))))) _ _ g5
              exact ⟨a, b, l5, _, (s14.trans (s15.trans (s16.trans (s17.trans s18)))) _ _ g6, h2, (hp7.mono (s8.trans (s9.trans (s10.trans s11)))).ne m5, ne_of_none h2 w6, B.put ho hl'⟩
            · have h2 := (s17.trans s18) _ _ u3
              exact ⟨a, b, k3, _, s18 _ _ u4, h2, (hp7.mono (s13'.trans (s14.trans s15))).ne w3, ne_of_none h2 w6, B.out⟩
        refine ⟨_, rfl, q L' (ts ++ [t, t']) _ ⟨hp18.upd (hp18.ne w6), SameB.new ((f6.sb.trans sb18).none hp18 w6) (f6.sb.trans sb18), upd_same, hp18.ne w6, (f6.sb.trans sb18).none hp18 w6, ?_, fun x hx => (elH x hx).mono (same_upd w6)⟩⟩
        rw [List.length_append]
        show ts.length + 2 ≤ 10
        omega
      · exact ⟨_, rfl, q L ts H6 f6⟩
end
end K44

set_option Elab.async false
set_option linter.all false
set_option maxRecDepth 100000
set_option maxHeartbeats 1600000
set_option pp.maxSteps 300
namespace K44
open PySem PySem.Spec PyProof.Rows L2 LT NdefX
theorem pair_any (a b : Int) : SeqAt.shaped (.tuple [.int a, .int b]) = true := (pair_shaped a b).1
theorem pair_eqv (a b c d : Int) : PyData.eqv (.tuple [.int a, .int b]) (.tuple [.int c, .int d]) = (decide (a = c) && decide (b = d)) := by
  rw [Bool.eq_iff_iff]
  simp [PyData.eqv, PyData.eqvAll]
theorem wo_some {H : Hp} {r c : Addr} {o : HO} (h : H c = some o) (n : c ≠ r) : wo H r c = some o := wo_iff.mpr ⟨n, h⟩
section
variable {P : Program} {w : World} {K : PySem.W.Frag} {mg : Str → Option Value} {base : Heap} {C : Addr}
def spEqRight (C : Addr) : Sp := fun vs H Q _ => ∃ (p x M : Addr) (a b : Int) (ns : List Int), vs = [.ref p, .ref x, .int a, .int b, .ref M] ∧ Pot H p ∧ Rg C (wo H p) x a b ns ∧ (wo H p) M = some (.lst (ns.map V.int)) ∧ Bs a b ns ∧ a ≤ 10 ^ 60 ∧ b ≤ 10 ^ 60 ∧
  ∀ H', Pot H' p → SameB p H H' → Q (.bl true) H'
theorem sc__law_equal_right : FnScope ["_law_pot_here", "_law_made", "_law_on", "_law_off", "_law_begins_here", "_law_other", "_law_due", "_law_mixed", "_law_begin_here", "_law_thing"] ["_law_pot_here", "_law_made", "_law_on", "_law_off", "_law_begins_here"] (defScope s__law_equal_right) := ⟨rfl, rfl, rfl, by decide +kernel, rfl, by decide +kernel, by decide +kernel⟩
theorem ok__law_equal_right (D : All K P mg) : FnG P w K mg base CX0 6 D.f__law_equal_right D.d__law_equal_right ["_law_pot_here", "_law_made", "_law_on", "_law_off", "_law_begins_here"] (spEqRight D.C_Round) := by
  refine okG D.h__law_equal_right.fn sc__law_equal_right (fun h => ?_) (fun cdv A outer s H vs Q E hG hr h => ?_)
  · first | (obtain ⟨_, rfl, _⟩ := h; rfl) | (obtain ⟨_, _, rfl, _⟩ := h; rfl) | (obtain ⟨_, _, _, rfl, _⟩ := h; rfl) | (obtain ⟨_, _, _, _, rfl, _⟩ := h; rfl) | (obtain ⟨_, _, _, _, _, rfl, _⟩ := h; rfl) | (obtain ⟨_, _, _, _, _, _, rfl, _⟩ := h; rfl) | (obtain ⟨_, _, _, _, _, _, _, rfl, _⟩ := h; rfl) | (obtain ⟨_, _, _, _, _, _, _, _, rfl, _⟩ := h; rfl) | (obtain ⟨_, _, _, _, _, _, _, _, _, rfl, _⟩ := h; rfl) | (obtain ⟨_, _, _, _, _, _, _, _, _, _, rfl, _⟩ := h; rfl) | (obtain ⟨_, _, _, _, _, _, _, _, _, _, _, rfl, _⟩ := h; rfl) | (obtain ⟨_, _, _, _, _, _, _, _, _, _, _, _, rfl, _⟩ := h; rfl) | (obtain ⟨_, _, _, _, _, _, _, _, _, _, _, _, _, rfl, _⟩ := h; rfl) | (obtain ⟨_, _, _, _, _, _, _, _, _, _, _, _, _, _, rfl, _⟩ := h; rfl) | (obtain ⟨_, _, _, _, _, _, _, _, _, _, _, _, _, _, _, rfl, _⟩ := h; rfl)
  · have T := D.T
    have nd := sc__law_equal_right.nd
    have hu := hr.units
    have hG2 : (cxOf CX0 P w K mg base ["_law_pot_here", "_law_made", "_law_on", "_law_off", "_law_begins_here", "_law_other", "_law_due", "_law_mixed", "_law_begin_here", "_law_thing"] "_law_equal_right" (defScope s__law_equal_right) D.f__law_equal_right cdv A outer s H E).nox.A.guards = some [] := hG
    obtain ⟨p, x, M, a, b, ns, rfl, hp, hR, hM, B, a2, b2, q⟩ := h
    have a1 := B.a1
    have b0 := B.b0
    have ln := B.ln
    have nMp : M ≠ p := (wo_iff.mp hM).1
    refine ⟨_, pss_cons (ps_for PassesOwn.never rfl (pi_list (pe_call (ok__law_others D) (hr.mono (by decide)) (by rfl) D.h__law_others.gl D.h__law_others.fn.kp D.h__law_others.bd .nil pass0 (pa_cons (pv 0) (pa_cons (pv 2) (pa_cons (pv 3) (pa_cons (pv 4) pa_nil)))))) (pg_name (i := 5) nd rfl (Or.inl rfl)) (pss_cons (ps_set (i := 6) nd rfl (.inl rfl) (pe_and (pe_cmpR (op_eqD hu) (pe_slice sl_tup (pv 5) po_none (po_some pe_int)) (pe_tup (pa_cons (pv 2) (pa_cons (pv 3) pa_nil))) (nomark _)) (pe_one (pe_cmpR (op_eqD hu) (pe_callB cr_sortedI (by rfl) T.sorted (by decide +kernel) (pa_cons (pe_ix ix_tup (pv 5) pe_int (fun _ _ => rfl)) pa_nil)) (pe_callB cr_sortedI (by rfl) T.sorted (by decide +kernel) (pa_cons (pv 4) pa_nil)) (nomark _)))))
      (pss_one (ps_if (pt_not (pt_val (pe_call (ok__law_same D) (hr.mono (by decide)) (by rfl) D.h__law_same.gl D.h__law_same.fn.kp D.h__law_same.bd .nil pass0 (pa_cons (pv 1) (pa_cons (pe_make D.M_Round (ok_Round___init__ D) (hr.mono (by decide)) (by rfl) D.Z_Round.gl D.h_Round___init__.bd .nil passL (pa_cons (pe_ix ix_tup (pv 5) pe_int (fun _ _ => rfl)) (pa_cons (pe_ix ix_tup (pv 5) pe_int (fun _ _ => rfl)) (pa_cons (pe_ix ix_tup (pv 5) pe_int (fun _ _ => rfl)) pa_nil)))) (pa_cons (pv 6) pa_nil)))))) (pss_one (ps_ret pe_bl)) pss_nil))))
      (pss_cons (ps_set (i := 7) nd rfl (.inl rfl) (pe_lst pa_nil))
      (pss_cons (ps_for PassesOwn.never rfl (pi_list (pv 4)) (pg_name (i := 8) nd rfl (Or.inl rfl)) (pss_one (ps_expr (pe_bm PySem.F.plainAttrs_list PySem.F.slot_list_insert PySem.F.type_list_insert mt_insert (pv 7) (pa_cons (pe_call (ok__law_take D) (hr.mono (by decide)) (by rfl) D.h__law_take.gl D.h__law_take.fn.kp D.h__law_take.bd .nil pass0 (pa_cons (pv 0) (pa_cons (pe_op op_add (pe_callB call_len_seq (by rfl) T.len PySem.boot_len (pa_cons (pv 7) pa_nil)) pe_int) pa_nil))) (pa_cons (pv 8) pa_nil))))))
      (pss_cons (ps_if (pt_not (pt_val (pe_call (ok__law_same D) (hr.mono (by decide)) (by rfl) D.h__law_same.gl D.h__law_same.fn.kp D.h__law_same.bd .nil pass0 (pa_cons (pv 1) (pa_cons (pe_make D.M_Round (ok_Round___init__ D) (hr.mono (by decide)) (by rfl) D.Z_Round.gl D.h_Round___init__.bd .nil passL (pa_cons (pv 2) (pa_cons (pv 3) (pa_cons (pv 7) pa_nil)))) (pa_cons pe_bl pa_nil)))))) (pss_one (ps_ret pe_bl)) pss_nil)
      (pss_cons (ps_for PassesOwn.never rfl (pi_list (pe_lst (pa_cons pe_non (pa_cons (pe_tup (pa_cons (pv 2) (pa_cons (pv 3) (pa_cons (pv 4) pa_nil)))) (pa_cons (pe_lst (pa_cons (pv 2) (pa_cons (pv 3) (pa_cons (pv 4) pa_nil)))) (pa_cons (pe_callB (call_repr_ownG D.h_Round___repr__.me.at_ D.h_Round___repr__.me.fn (ok_Round___repr__ D) hG2 (hr.mono (by decide)) D.h_Round___repr__.bd) (by rfl) T.repr (by decide +kernel) (pa_cons (pv 1) pa_nil)) (pa_cons (pv 2) (pa_cons pe_bl pa_nil)))))))) (pg_name (i := 9) nd rfl (Or.inl rfl)) (pss_one (ps_if (pt_not (pt_val (pe_call (ok__law_same D) (hr.mono (by decide)) (by rfl) D.h__law_same.gl D.h__law_same.fn.kp D.h__law_same.bd .nil pass0 (pa_cons (pv 1) (pa_cons (pv 9) (pa_cons pe_bl pa_nil)))))) (pss_one (ps_ret pe_bl)) pss_nil)))
      (pss_one (ps_ret pe_bl)))))), ?_⟩
    refine ⟨_, rfl, _, rfl, _, rfl, _, rfl, p, M, a, b, ns, rfl, hp, nMp, (wo_iff.mp hM).2, B, a2, b2, fun L ts H1 f1 => ?_⟩
    have w1 : Same (wo H p) (wo H1 p) := wo_up f1.sb
    refine ⟨L, rfl, ⟨_, SqL.of f1.at_⟩, for_list (xs := ts.map V.ref) (fun i σ H' => ∃ x5 x6, σ = [some (.ref p), some (.ref x), some (.int a), some (.int b), some (.ref M), x5, x6, none, none, none] ∧ Same H1 H')
      ⟨none, none, rfl, Same.refl _⟩ (fun i σ H' _ ⟨_, _, _, s⟩ => SqL.of (s _ _ f1.at_)) ?_ ?_⟩
    · rintro i y σ H2 hy ⟨x5, x6, rfl, s2⟩
      obtain ⟨t, ht, rfl⟩ : ∃ t ∈ ts, y = .ref t := by
        have := List.mem_of_getElem? hy
        obtain ⟨t, ht, e⟩ := List.mem_map.mp this
        exact ⟨t, ht, e.symm⟩
      obtain ⟨a', b', l', ns', h1, h2, _, _, B'⟩ := (f1.el t ht).mono s2
      refine ⟨_, rfl, _, rfl, t, _, rfl, SqT.of h1, by show ¬ (_ ∧ 2 = 3); omega, fun t2 n2 => ?_⟩
      rw [show cutV [V.int a', V.int b', V.ref l'] none (some 2) = [V.int a', .int b'] from rfl]
      have s3 := same_upd (o := .tup [V.int a', .int b']) n2
      have e3 := upd_same (H := H2) (a := t2) (o := .tup [V.int a', .int b'])
      generalize upd H2 t2 (.tup [V.int a', .int b']) = H3 at *
      refine ⟨_, rfl, _, rfl, by show 2 ≤ sizeLine; decide, fun t3 n3 => ?_⟩
      have s4 := same_upd (o := .tup [V.int a, .int b]) n3
      have e4 := upd_same (H := H3) (a := t3) (o := .tup [V.int a, .int b])
      generalize upd H3 t3 (.tup [V.int a, .int b]) = H4 at *
      refine ⟨.tuple [.int a', .int b'], .tuple [.int a, .int b], .tup (SqT.of (s4 _ _ e3)) (.cons (.int a') (.cons (.int b') .nil)), .tup (SqT.of e4) (.cons (.int a) (.cons (.int b) .nil)), pair_any _ _, pair_any _ _, _, rfl, ?_⟩
      rw [pair_eqv]
      have s24 := s3.trans s4
      -- the due answer, then the round
      have hM2 := (w1.trans wo_le) _ _ hM
      apply joinA (α := Bool) (J := fun r Hx => r = eqR a b ns a' b' ns' ∧ Same H4 Hx) (sl := fun r => [some (.ref p), some (.ref x), some (.int a), some (.int b), some (.ref M), some (.ref t), some (.bl r), none, none, none])
      · intro h
        by_cases ha : ¬ (a' = a ∧ b' = b)
        · have e : (decide (a' = a) && decide (b' = b)) = false := by
            rw [Bool.and_eq_false_iff, decide_eq_false_iff_not, decide_eq_false_iff_not]
            by_cases h : a' = a
            · exact .inr fun e => ha ⟨h, e⟩
            · exact .inl h
          rw [e]
          refine iteF (h false H4 ⟨?_, Same.refl _⟩)
          rw [eqR_comm]
          unfold eqR
          rw [← Bool.and_assoc, e, Bool.false_and]
        · obtain ⟨rfl, rfl⟩ := Decidable.not_not.mp ha
          rw [decide_eq_true rfl, decide_eq_true rfl]
          refine ⟨_, rfl, t, _, 2, _, rfl, rfl, SqT.of (s24 _ _ h1), atI_nat (j := 2) rfl, l', ns', rfl, SqL.of (s24 _ _ h2), fun m1 p1 e1 o1 n1 => ?_⟩
          have s5 := same_upd (o := .lst (m1.map V.int)) n1
          have g1 := upd_same (H := H4) (a := p1) (o := .lst (m1.map V.int))
          generalize upd H4 p1 (.lst (m1.map V.int)) = H5 at *
          refine ⟨_, rfl, M, ns, rfl, SqL.of ((s2.trans (s24.trans s5)) _ _ hM2), fun m2 p2 e2 o2 n2 => ?_⟩
          have s6 := same_upd (o := .lst (m2.map V.int)) n2
          have g2 := upd_same (H := H5) (a := p2) (o := .lst (m2.map V.int))
          generalize upd H5 p2 (.lst (m2.map V.int)) = H6 at *
          refine ⟨intsD m1, intsD m2, ints_dp (s6 _ _ g1), ints_dp g2, ints_shaped _, ints_shaped _, ?_⟩
          rw [sorted_eq e1 o1 e2 o2]
          refine h _ H6 ⟨?_, s5.trans s6⟩
          unfold eqR
          rw [decide_eq_true rfl, decide_eq_true rfl, Bool.true_and, Bool.true_and, Bool.eq_iff_iff, List.isPerm_iff, List.isPerm_iff]
          exact ⟨fun h => h.symm, fun h => h.symm⟩
      · rintro r H5 ⟨er, s5⟩
        have s25 := s24.trans s5
        have h1' := s25 _ _ h1
        refine ⟨_, rfl, _, rfl, t, _, 0, _, rfl, rfl, SqT.of h1', atI_nat (j := 0) rfl, _, rfl, t, _, 1, _, rfl, rfl, SqT.of h1', atI_nat (j := 1) rfl, _, rfl, t, _, 2, _, rfl, rfl, SqT.of h1', atI_nat (j := 2) rfl, fun y dy ny ndy ney => ?_⟩
        refine mk_round ny ndy B'.a1 B'.b0 (.inl (s25 _ _ h2)) B'.ln B'.el fun H6 s6 hY => ⟨rfl, ?_⟩
        have s26 := s25.trans s6
        subst er
        refine ⟨_, rfl, x, .ref y, _, rfl, .rg ((hR.mono (w1.trans wo_le)).mono (s2.trans s26)) (hY.mono new_le), fun H7 s7 => ⟨_, rfl, ?_⟩⟩
        exact ⟨_, _, rfl, s2.trans (s26.trans s7)⟩
    · rintro σ H2 ⟨x5, x6, rfl, s2⟩
      have sb2 : SameB p H H2 := f1.sb.trans (SameB.of s2)
      have hp2 := f1.pot.mono s2
      have w2 : Same (wo H p) (wo H2 p) := wo_up sb2
      refine ⟨by show 0 ≤ sizeLine; decide, fun G nG => ?_⟩
      have nGp : G ≠ p := hp2.ne nG
      have hM2 := w2 _ _ hM
      have nMG : M ≠ G := ne_of_none (wo_le _ _ hM2) nG
      refine ⟨_, rfl, M, rfl, ⟨_, SqL.of (by rw [upd_ne nMG]; exact wo_le _ _ hM2)⟩, for_list (xs := ns.map V.int) (fun i σ H' => ∃ x8 ms, σ = [some (.ref p), some (.ref x), some (.int a), some (.int b), some (.ref M), x5, x6, some (.ref G), x8, none] ∧ Pot H' p ∧ SameB p H H' ∧ H' G = some (.lst (ms.map V.int)) ∧ ms.Perm (ns.take i))
        ⟨none, [], rfl, hp2.upd nGp, SameB.new (sb2.none hp2 nG) sb2, upd_same, List.Perm.refl _⟩ (fun i σ H' _ ⟨_, _, _, _, sb, _, _⟩ => SqL.of (wo_le _ _ (wo_up sb _ _ hM))) ?_ ?_⟩
      · rintro i y σ H3 hy ⟨x8, ms, rfl, hp3, sb3, eG, pm⟩
        obtain ⟨hi, rfl⟩ := int_at hy
        have lm : ms.length ≤ 40 := by
          rw [pm.length_eq, List.length_take]
          omega
        refine ⟨_, rfl, .inl ⟨rfl, _, SqL.of eG⟩, _, rfl, _, rfl, G, _, rfl, .inl (SqL.of eG), _, _, rfl, rfl, p, _, rfl, hp3, by rw [List.length_map]; omega, by rw [List.length_map]; omega, fun k H4 k0 k1 hp4 sb4 => ?_⟩
        have eG4 := sb4 _ _ nGp eG
        rw [List.length_map] at k1
        refine ⟨_, rfl, G, _, k, _, rfl, rfl, eG4, small1000 (by rw [List.length_map]; omega), k0, by omega, ?_⟩
        have eo : (ms.map V.int).take k.toNat ++ [V.int (ns.getD i 0)] ++ (ms.map V.int).drop k.toNat = (ms.take k.toNat ++ [ns.getD i 0] ++ ms.drop k.toNat).map V.int := by
          simp only [List.map_append, List.map_cons, List.map_nil, List.map_take, List.map_drop]
        rw [eo]
        refine ⟨_, _, rfl, hp4.upd nGp, SameB.new (sb2.none hp2 nG) (sb3.trans sb4), upd_same, ?_⟩
        rw [List.take_succ_eq_append_getElem hi, show ns.getD i 0 = ns[i] by rw [List.getD_eq_getElem?_getD, List.getElem?_eq_getElem hi]; rfl]
        refine (List.perm_append_comm.append_right _).trans ?_
        rw [List.append_assoc, List.take_append_drop]
        exact ((List.perm_append_comm (l₁ := [ns[i]])).trans (pm.append_right _))
      · rintro σ H3 ⟨x8, ms, rfl, hp3, sb3, eG, pm⟩
        rw [List.length_map, List.take_length] at pm
        have w3 : Same (wo H p) (wo H3 p) := wo_up sb3
        have hR3 := hR.mono (w3.trans wo_le)
        refine ⟨_, rfl, _, rfl, _, rfl, _, rfl, fun y dy ny ndy ney => ?_⟩
        refine mk_round ny ndy a1 b0 (.inl eG) (by rw [pm.length_eq]; exact ln) (fun n hn => B.el n (pm.mem_iff.mp hn)) fun H4 s4 hY => ⟨rfl, ?_⟩
        have er : eqR a b ns a b ms = true := by
          unfold eqR
          rw [decide_eq_true rfl, decide_eq_true rfl, Bool.true_and, Bool.true_and, List.isPerm_iff]
          exact pm.symm
        refine ⟨x, .ref y, true, rfl, er ▸ .rg (hR3.mono s4) (hY.mono new_le), fun H5 s5 => ⟨_, rfl, ?_⟩⟩
        have s35 := s4.trans s5
        have hM5 := (w3.trans (wo_le.trans s35)) _ _ hM
        have hR5 := hR3.mono s35
        -- things that are no rounds
        refine ⟨_, rfl, _, rfl, _, rfl, by show 3 ≤ sizeLine; decide, fun t1 m1 => ?_⟩
        have s6 := same_upd (o := .tup [V.int a, .int b, .ref M]) m1
        have e1 := upd_same (H := H5) (a := t1) (o := .tup [V.int a, .int b, .ref M])
        generalize upd H5 t1 (.tup [V.int a, .int b, .ref M]) = H6 at *
        refine ⟨_, rfl, _, rfl, _, rfl, by show 3 ≤ sizeLine; decide, fun t2 m2 => ?_⟩
        have s7 := same_upd (o := .lst [V.int a, .int b, .ref M]) m2
        have e2 := upd_same (H := H6) (a := t2) (o := .lst [V.int a, .int b, .ref M])
        generalize upd H6 t2 (.lst [V.int a, .int b, .ref M]) = H7 at *
        have hR7 := hR5.mono (s6.trans s7)
        obtain ⟨dx, l, hx, _⟩ := hR7.rd
        refine ⟨_, rfl, x, dx, _, rfl, hx, x, a, b, ns, rfl, hR7, B.bd, _, rfl, _, rfl, by show 6 ≤ sizeLine; decide, fun L2' m3 => ?_⟩
        have s8 := same_upd (o := .lst [V.non, .ref t1, .ref t2, .str (rtext a b ns), .int a, .bl true]) m3
        have e3 := upd_same (H := H7) (a := L2') (o := .lst [V.non, .ref t1, .ref t2, .str (rtext a b ns), .int a, .bl true])
        generalize upd H7 L2' (.lst [V.non, .ref t1, .ref t2, .str (rtext a b ns), .int a, .bl true]) = H8 at *
        refine ⟨L2', rfl, ⟨_, SqL.of e3⟩, for_list (xs := [V.non, .ref t1, .ref t2, .str (rtext a b ns), .int a, .bl true]) (fun i σ H' => ∃ x9, σ = [some (.ref p), some (.ref x), some (.int a), some (.int b), some (.ref M), x5, x6, some (.ref G), x8, x9] ∧ Same H8 H')
          ⟨none, rfl, Same.refl _⟩ (fun i σ H' _ ⟨_, _, s⟩ => SqL.of (s _ _ e3)) ?_ ?_⟩
        · rintro i y σ H9 hy ⟨x9, rfl, s9⟩
          have pl : Pl H9 y := by
            have := List.mem_of_getElem? hy
            simp only [List.mem_cons, List.not_mem_nil, or_false] at this
            rcases this with rfl | rfl | rfl | rfl | rfl | rfl
            · exact .non
            · exact .tup ((s7.trans (s8.trans s9)) _ _ e1)
            · exact .lst ((s8.trans s9) _ _ e2)
            · exact .str _
            · exact .int _
            · exact .bl _
          exact ⟨_, rfl, _, rfl, x, y, false, rfl, .no (hR7.mono (s8.trans s9)) pl, fun H10 s10 => ⟨_, rfl, _, rfl, s9.trans s10⟩⟩
        · rintro σ H9 ⟨x9, rfl, s9⟩
          have s39 := s35.trans (s6.trans (s7.trans (s8.trans s9)))
          exact q H9 (hp3.mono s39) (sb3.trans (SameB.of s39))
end
end K44

set_option Elab.async false
set_option linter.all false
set_option maxRecDepth 100000
set_option maxHeartbeats 1600000
set_option pp.maxSteps 200
namespace K44
open PySem PySem.Spec PyProof.Rows L2 LT NdefX
theorem mvd_back {a b m : Int} {ns : List Int} (h : ∀ n ∈ ns, 0 ≤ n ∧ n < a + b) : mvd a b (0 - m) (mvd a b m ns) = ns := by
  unfold mvd
  rw [List.map_map]
  refine Eq.trans (List.map_congr_left fun n hn => ?_) (List.map_id ns)
  obtain ⟨h0, h1⟩ := h n hn
  show ((n + m) % (a + b) + (0 - m)) % (a + b) = n
  rw [Int.emod_add_emod, show n + m + (0 - m) = n by omega, Int.emod_eq_of_lt h0 h1]
theorem mvd_el {a b m : Int} {ns : List Int} (h : 0 < a + b) : ∀ n ∈ mvd a b m ns, 0 ≤ n ∧ n < a + b := fun n hn => by
  obtain ⟨k, _, rfl⟩ := List.mem_map.mp hn
  exact ⟨Int.emod_nonneg _ (by omega), Int.emod_lt_of_pos _ h⟩
section
variable {P : Program} {w : World} {K : PySem.W.Frag} {mg : Str → Option Value} {base : Heap}
def spLaw (K : PySem.W.Frag) : Sp := fun vs H Q _ => ∃ (a : Addr) (ns : List Int), vs = [.ref a] ∧ SqL K H a (ns.map V.int) ∧ ns.length ≤ 63 ∧ ∀ H', Q (.bl true) H'
theorem sc_law : FnScope ["_law_script", "_law_k", "_law_pot_here", "_law_odd", "_law_on", "_law_off", "_law_begins_here", "_law_much", "_law_made", "_law_there", "_law_due", "_law_begin_here"] ["_law_script"] (defScope s_law) := ⟨rfl, rfl, rfl, by decide +kernel, rfl, by decide +kernel, by decide +kernel⟩
theorem ok_law (D : All K P mg) {f : Addr} {fd : FuncData} (F : Fun K "law" "law" s_law f fd) : FnG P w K mg base CX0 8 f fd ["_law_script"] (spLaw K) := by
  refine okG F sc_law (fun h => ?_) (fun cdv A outer s H vs Q E hG hr h => ?_)
  · first | (obtain ⟨_, rfl, _⟩ := h; rfl) | (obtain ⟨_, _, rfl, _⟩ := h; rfl) | (obtain ⟨_, _, _, rfl, _⟩ := h; rfl) | (obtain ⟨_, _, _, _, rfl, _⟩ := h; rfl) | (obtain ⟨_, _, _, _, _, rfl, _⟩ := h; rfl) | (obtain ⟨_, _, _, _, _, _, rfl, _⟩ := h; rfl) | (obtain ⟨_, _, _, _, _, _, _, rfl, _⟩ := h; rfl) | (obtain ⟨_, _, _, _, _, _, _, _, rfl, _⟩ := h; rfl) | (obtain ⟨_, _, _, _, _, _, _, _, _, rfl, _⟩ := h; rfl) | (obtain ⟨_, _, _, _, _, _, _, _, _, _, rfl, _⟩ := h; rfl) | (obtain ⟨_, _, _, _, _, _, _, _, _, _, _, rfl, _⟩ := h; rfl) | (obtain ⟨_, _, _, _, _, _, _, _, _, _, _, _, rfl, _⟩ := h; rfl) | (obtain ⟨_, _, _, _, _, _, _, _, _, _, _, _, _, rfl, _⟩ := h; rfl) | (obtain ⟨_, _, _, _, _, _, _, _, _, _, _, _, _, _, rfl, _⟩ := h; rfl) | (obtain ⟨_, _, _, _, _, _, _, _, _, _, _, _, _, _, _, rfl, _⟩ := h; rfl)
  · have T := D.T
    have nd := sc_law.nd
    have hu := hr.units
    have hG2 : (cxOf CX0 P w K mg base ["_law_script", "_law_k", "_law_pot_here", "_law_odd", "_law_on", "_law_off", "_law_begins_here", "_law_much", "_law_made", "_law_there", "_law_due", "_law_begin_here"] "law" (defScope s_law) f cdv A outer s H E).nox.A.guards = some [] := hG
    obtain ⟨sc, ss, rfl, hS, hl, q⟩ := h
    have kb_moved : KBinds K D.d_Round_moved ["self", "by"] ["by"] gK gK := kb_gK D.h_Round_moved.fn rfl (fun _ _ _ _ _ _ _ _ => rfl)
    refine ⟨_, pss_cons (ps_for PassesOwn.never rfl (pi_range1 (by rfl) T.range (pa_cons (pe_callB (call_max2 rfl) (by rfl) T.max (by decide +kernel) (pa_cons pe_int (pa_cons (pe_callB (call_min2 rfl) (by rfl) T.min (by decide +kernel) (pa_cons pe_int (pa_cons (pe_callB call_len_seq (by rfl) T.len PySem.boot_len (pa_cons (pv 0) pa_nil)) pa_nil))) pa_nil))) pa_nil)) (pg_name (i := 1) nd rfl (Or.inl rfl)) (pss_cons (ps_set (i := 2) nd rfl (.inl rfl) (pe_call (ok__law_pot D) (hr.mono (by decide)) (by rfl) D.h__law_pot.gl D.h__law_pot.fn.kp D.h__law_pot.bd .nil pass0 (pa_cons (pv 0) (pa_cons (pv 1) pa_nil))))
      (pss_cons (ps_set (i := 3) nd rfl (.inl rfl) (pe_ix ix_list (pe_lst (pa_cons pe_non (pa_cons pe_bl (pa_cons pe_bl (pa_cons pe_str (pa_cons (pe_lst (pa_cons pe_int pa_nil)) (pa_cons (pe_tup (pa_cons pe_int pa_nil)) (pa_cons pe_dnewK pa_nil)))))))) (pe_call (ok__law_take D) (hr.mono (by decide)) (by rfl) D.h__law_take.gl D.h__law_take.fn.kp D.h__law_take.bd .nil pass0 (pa_cons (pv 2) (pa_cons pe_int pa_nil))) (fun _ _ => rfl)))
      (pss_cons (ps_asg (pe_call (ok__law_turn D) (hr.mono (by decide)) (by rfl) D.h__law_turn.gl D.h__law_turn.fn.kp D.h__law_turn.bd .nil pass0 (pa_cons (pv 2) pa_nil)) (pg_tup rfl (pgs_cons (pg_name (i := 4) nd rfl (Or.inr rfl)) (pgs_cons (pg_name (i := 5) nd rfl (Or.inr rfl)) pgs_nil))))
      (pss_cons (ps_set (i := 6) nd rfl (.inl rfl) (pe_call (ok__law_begins D) (hr.mono (by decide)) (by rfl) D.h__law_begins.gl D.h__law_begins.fn.kp D.h__law_begins.bd .nil pass0 (pa_cons (pv 2) (pa_cons (pe_op op_add (pv 4) (pv 5)) pa_nil))))
      (pss_cons (ps_set (i := 7) nd rfl (.inr rfl) (pe_call (ok__law_by D) (hr.mono (by decide)) (by rfl) D.h__law_by.gl D.h__law_by.fn.kp D.h__law_by.bd .nil pass0 (pa_cons (pv 2) (pa_cons (pe_op op_add (pv 4) (pv 5)) pa_nil))))
      (pss_cons (ps_set (i := 8) nd rfl (.inl rfl) (pe_make D.M_Round (ok_Round___init__ D) (hr.mono (by decide)) (by rfl) D.Z_Round.gl D.h_Round___init__.bd .nil passL (pa_cons (pv 4) (pa_cons (pv 5) (pa_cons (pv 6) pa_nil)))))
      (pss_cons (ps_set (i := 9) nd rfl (.inl rfl) (pe_meth (pv 8) D.Z_Round.cl D.h_Round_moved.me (ok_Round_moved D) (hr.mono (by decide)) D.h_Round_moved.bd .nil passL (pa_cons (pv 7) pa_nil)))
      (pss_cons (ps_setLc (i := 10) (own := [("_law_begin_here", 11)]) (g := gName 11) (tt := tYes) rfl nd rfl rfl (sw_true rfl rfl rfl (by decide +kernel)) (pi_list (pv 6)) (blkOk_by (N := ["_law_script", "_law_k", "_law_pot_here", "_law_odd", "_law_on", "_law_off", "_law_begins_here", "_law_much", "_law_made", "_law_there", "_law_due", "_law_begin_here"]) (sc := defScope s_law) (by decide +kernel)) (fun _ _ _ _ _ => (pg_name (i := 11) nd rfl (Or.inl rfl))) (fun _ _ _ _ _ => pts_nil) (fun _ _ _ _ _ => (pe_call (ok__law_later D) (hr.mono (by decide)) (by rfl) D.h__law_later.gl D.h__law_later.fn.kp D.h__law_later.bd .nil pass0 (pa_cons (pv 11) (pa_cons (pv 7) (pa_cons (pe_op op_add (pv 4) (pv 5)) pa_nil))))))
      (pss_cons (ps_if (PW.pt (pw_or (pt_not (pt_val (pe_callG (ok__law_is D) hG2 (hr.mono (by decide)) (by rfl) D.h__law_is.gl D.h__law_is.fn.kp D.h__law_is.bd .nil pass0 (pa_cons (pv 9) (pa_cons (pv 4) (pa_cons (pv 5) (pa_cons (pv 10) pa_nil))))))) (pw_or1 (pt_not (pt_val (pe_callG (ok__law_is D) hG2 (hr.mono (by decide)) (by rfl) D.h__law_is.gl D.h__law_is.fn.kp D.h__law_is.bd .nil pass0 (pa_cons (pv 8) (pa_cons (pv 4) (pa_cons (pv 5) (pa_cons (pv 6) pa_nil)))))))))) (pss_one (ps_ret pe_bl)) pss_nil)
      (pss_cons (ps_if (PW.pt (pw_or (pt_not (pt_val (pe_callG (ok__law_is D) hG2 (hr.mono (by decide)) (by rfl) D.h__law_is.gl D.h__law_is.fn.kp D.h__law_is.bd .nil pass0 (pa_cons (pe_meth (pv 9) D.Z_Round.cl D.h_Round_moved.me (ok_Round_moved D) (hr.mono (by decide)) D.h_Round_moved.bd .nil passL (pa_cons (pe_op op_sub pe_int (pv 7)) pa_nil)) (pa_cons (pv 4) (pa_cons (pv 5) (pa_cons (pv 6) pa_nil))))))) (pw_or1 (pt_not (pt_val (pe_callG (ok__law_is D) hG2 (hr.mono (by decide)) (by rfl) D.h__law_is.gl D.h__law_is.fn.kp D.h__law_is.bd .nil pass0 (pa_cons (pe_methKw (pv 8) D.Z_Round.cl D.h_Round_moved.me (ok_Round_moved D) (hr.mono (by decide)) kb_moved passLA (pk_cons (pv 7) pk_nil)) (pa_cons (pv 4) (pa_cons (pv 5) (pa_cons (pv 10) pa_nil)))))))))) (pss_one (ps_ret pe_bl)) pss_nil)
      (pss_cons (ps_expr (pe_bm PySem.F.plainAttrs_list PySem.F.slot_list_append PySem.F.type_list_append mt_append (pe_meth0 (pv 9) D.Z_Round.cl D.h_Round_begins.me (ok_Round_begins D) (hr.mono (by decide)) D.h_Round_begins.bd .nil pass0) (pa_cons pe_int pa_nil)))
      (pss_cons (ps_if (PW.pt (pw_or (pt_not (pt_val (pe_callG (ok__law_is D) hG2 (hr.mono (by decide)) (by rfl) D.h__law_is.gl D.h__law_is.fn.kp D.h__law_is.bd .nil pass0 (pa_cons (pv 9) (pa_cons (pv 4) (pa_cons (pv 5) (pa_cons (pv 10) pa_nil))))))) (pw_or1 (pt_not (pt_val (pe_call (ok__law_same D) (hr.mono (by decide)) (by rfl) D.h__law_same.gl D.h__law_same.fn.kp D.h__law_same.bd .nil pass0 (pa_cons (pv 8) (pa_cons (pv 9) (pa_cons (pe_cmpR (op_eqD hu) (pe_callB cr_sortedI (by rfl) T.sorted (by decide +kernel) (pa_cons (pv 10) pa_nil)) (pe_callB cr_sortedI (by rfl) T.sorted (by decide +kernel) (pa_cons (pv 6) pa_nil)) (nomark _)) pa_nil))))))))) (pss_one (ps_ret pe_bl)) pss_nil)
      (pss_cons (ps_if (pt_not (pt_val (pe_callG (ok__law_equal_right D) hG2 (hr.mono (by decide)) (by rfl) D.h__law_equal_right.gl D.h__law_equal_right.fn.kp D.h__law_equal_right.bd .nil pass0 (pa_cons (pv 2) (pa_cons (pv 8) (pa_cons (pv 4) (pa_cons (pv 5) (pa_cons (pv 6) pa_nil)))))))) (pss_one (ps_ret pe_bl)) pss_nil)
      (pss_cons (ps_expr (pe_meth (pv 8) D.Z_Round.cl D.h_Round_moved.me (ok_Round_moved D) (hr.mono (by decide)) D.h_Round_moved.bd .nil passL (pa_cons pe_int pa_nil)))
      (pss_one (ps_if (PW.pt (pw_or (pt_not (pt_val (pe_call (ok__law_refused D) (hr.mono (by decide)) (by rfl) D.h__law_refused.gl D.h__law_refused.fn.kp D.h__law_refused.bd .nil pass0 (pa_cons (pv 8) (pa_cons (pv 3) pa_nil))))) (pw_or (pt_not (pt_val (pe_call (ok__law_refused D) (hr.mono (by decide)) (by rfl) D.h__law_refused.gl D.h__law_refused.fn.kp D.h__law_refused.bd .nil pass0 (pa_cons (pv 8) (pa_cons pe_bl pa_nil))))) (pw_or1 (pt_not (pt_val (pe_callG (ok__law_is D) hG2 (hr.mono (by decide)) (by rfl) D.h__law_is.gl D.h__law_is.fn.kp D.h__law_is.bd .nil pass0 (pa_cons (pv 8) (pa_cons (pv 4) (pa_cons (pv 5) (pa_cons (pv 6) pa_nil))))))))))) (pss_one (ps_ret pe_bl)) pss_nil)))))))))))))))))
      (pss_one (ps_ret pe_bl)), ?_⟩
    refine ⟨_, rfl, sc, _, rfl, .inl hS, _, _, rfl, _, _, rfl, ?_⟩
    generalize hN : (if (if ((ss.map V.int).length : Nat) < (6 : Int) then (((ss.map V.int).length : Nat) : Int) else (6 : Int)) > 2 then (if ((ss.map V.int).length : Nat) < (6 : Int) then (((ss.map V.int).length : Nat) : Int) else (6 : Int)) else 2) = N6
    have hN6 : 2 ≤ N6 ∧ N6 ≤ 6 := by
      rw [← hN]
      split <;> (try split) <;> omega
    refine ⟨N6, rfl, by omega, by omega, for_range (lo := 0) (n := N6.toNat) (fun i σ H' => ∃ x1 x2 x3 x4 x5 x6 x7 x8 x9 x10, σ = [some (.ref sc), x1, x2, x3, x4, x5, x6, x7, x8, x9, x10, none] ∧ Same H H')
      ⟨none, none, none, none, none, none, none, none, none, none, rfl, Same.refl _⟩ ?_ ?_⟩
    · rintro i σ H1 hi ⟨x1, x2, x3, x4, x5, x6, x7, x8, x9, x10, rfl, sm1⟩
      refine ⟨_, rfl, _, rfl, sc, ss, i, (by rw [Int.zero_add]; rfl), sm1.seq hS, by omega, fun p H2 np s2 hp2 => ?_⟩
      -- an odd thing
      refine ⟨by show 1 ≤ sizeLine; decide, fun l1 n1 => ?_⟩
      have s3 := same_upd (o := .lst [V.int 1]) n1
      have e1 := upd_same (H := H2) (a := l1) (o := .lst [V.int 1])
      generalize upd H2 l1 (.lst [V.int 1]) = H3 at *
      refine ⟨by show 1 ≤ sizeLine; decide, fun t1 n2 => ?_⟩
      have s4 := same_upd (o := .tup [V.int 1]) n2
      have e2 := upd_same (H := H3) (a := t1) (o := .tup [V.int 1])
      generalize upd H3 t1 (.tup [V.int 1]) = H4 at *
      refine fun d1 n3 => ?_
      have s5 := same_upd (o := .dK []) n3
      have e3 := upd_same (H := H4) (a := d1) (o := .dK [])
      generalize upd H4 d1 (.dK []) = H5 at *
      refine ⟨by show 7 ≤ sizeLine; decide, fun L1 n4 => ?_⟩
      have s6 := same_upd (o := .lst [V.non, .bl true, .bl false, .str (Str.ofString "1"), .ref l1, .ref t1, .ref d1]) n4
      have e4 := upd_same (H := H5) (a := L1) (o := .lst [V.non, .bl true, .bl false, .str (Str.ofString "1"), .ref l1, .ref t1, .ref d1])
      generalize upd H5 L1 (.lst [V.non, .bl true, .bl false, .str (Str.ofString "1"), .ref l1, .ref t1, .ref d1]) = H6 at *
      have hp5 := hp2.mono (s3.trans (s4.trans s5))
      have hp6 := hp5.mono s6
      refine ⟨_, rfl, p, 7, rfl, hp6, by decide, by decide, fun k H7 k0 k1 hp7 sb7 => ?_⟩
      have nL1 : L1 ≠ p := hp5.ne n4
      have odd : ∃ v, atI [V.non, .bl true, .bl false, .str (Str.ofString "1"), .ref l1, .ref t1, .ref d1] k = some v ∧ Odd (wo H7 p) v ∧ wholeB v = false := by
        have w67 : Same (wo H6 p) (wo H7 p) := wo_up sb7
        have hk : k = 0 ∨ k = 1 ∨ k = 2 ∨ k = 3 ∨ k = 4 ∨ k = 5 ∨ k = 6 := by omega
        rcases hk with rfl | rfl | rfl | rfl | rfl | rfl | rfl
        · exact ⟨_, atI_nat (j := 0) rfl, .non, rfl⟩
        · exact ⟨_, atI_nat (j := 1) rfl, .bl _, rfl⟩
        · exact ⟨_, atI_nat (j := 2) rfl, .bl _, rfl⟩
        · exact ⟨_, atI_nat (j := 3) rfl, .str _, rfl⟩
        · exact ⟨_, atI_nat (j := 4) rfl, .lst (w67 _ _ (wo_some ((s4.trans (s5.trans s6)) _ _ e1) (hp2.ne n1))), rfl⟩
        · exact ⟨_, atI_nat (j := 5) rfl, .tup (w67 _ _ (wo_some ((s5.trans s6) _ _ e2) ((hp2.mono s3).ne n2))), rfl⟩
        · exact ⟨_, atI_nat (j := 6) rfl, .dK (w67 _ _ (wo_some (s6 _ _ e3) ((hp2.mono (s3.trans s4)).ne n3))), rfl⟩
      obtain ⟨v, ev, ov, hv⟩ := odd
      refine ⟨L1, _, k, v, rfl, rfl, SqL.of (sb7 _ _ nL1 e4), ev, ?_⟩
      have s17 : Same H1 H7 := sameB_new np s2 ((SameB.of (s3.trans (s4.trans (s5.trans s6)))).trans sb7)
      clear e1 e2 e3 e4 ev
      -- the turn, the begins, by how much
      refine ⟨_, rfl, p, rfl, hp7, fun t a b H8 nt sb8 hp8 et a1 a2 b0 b1 => ?_⟩
      refine ⟨t, _, rfl, SqT.of et, rfl, _, _, rfl, _, _, rfl, rfl, ?_⟩
      refine ⟨_, rfl, _, rfl, _, rfl, _, _, rfl, rfl, p, a + b, rfl, hp8, by omega, by omega, fun M ns H9 nM sb9 hp9 eM hln hb => ?_⟩
      refine ⟨_, rfl, _, rfl, _, rfl, _, _, rfl, rfl, p, a + b, rfl, hp9, by omega, by omega, fun m H10 hm hp10 sb10 => ?_⟩
      have nMp : M ≠ p := hp8.ne nM
      have eM10 := sb10 _ _ nMp eM
      have B : Bs a b ns := ⟨a1, b0, by omega, hln, hb⟩
      have s1_10 : Same H1 H10 := fun c o e => (sb8.trans (sb9.trans sb10)) c o (ne_of_none e np) (s17 _ _ e)
      have ov10 := ov.mono (wo_up (sb8.trans (sb9.trans sb10)))
      obtain ⟨oP, hoP⟩ : ∃ o, H10 p = some o := by
        obtain ⟨_, _, e, _⟩ := hp10
        exact ⟨_, e⟩
      -- made, there, due
      refine ⟨_, rfl, _, rfl, _, rfl, fun x dx nx ndx nex => mk_round nx ndx a1 b0 (.inl eM10) hln hb fun H11 s11 hX => ⟨rfl, ?_⟩⟩
      have hX11 : Rg D.C_Round (wo H11 p) x a b ns := hX.mono (new_wo hoP)
      obtain ⟨dx', l', hx', _⟩ := (hX11.mono wo_le).rd
      refine ⟨_, rfl, x, dx', _, rfl, hx', rfl, _, rfl, x, _, a, b, ns, rfl, hX11.mono wo_le, .int m, fun m' em y H12 s12 hY => ?_, fun z => nomatch z⟩
      cases em
      have hoP11 := s11 _ _ hoP
      have hY12 : Rg D.C_Round (wo H12 p) y a b (mvd a b m ns) := hY.mono (new_wo hoP11)
      have eM12 := (s11.trans s12) _ _ eM10
      refine ⟨_, rfl, M, rfl, ⟨_, SqL.of eM12⟩, fun G nG => ?_⟩
      refine lc_list (K := K) (a := M) (xs := ns.map V.int) (fun i H' => Same H12 H' ∧ H' G = some (.lst ((mvd a b m (ns.take i)).map V.int))) ⟨same_upd nG, upd_same⟩ (fun i H' _ h => h.1.seq (SqL.of eM12)) ?_ ?_
      · rintro i y H' hy ⟨sm, eG⟩
        obtain ⟨hi2, rfl⟩ := int_at hy
        obtain ⟨g0, g1⟩ := hb (ns.getD i 0) (by rw [List.getD_eq_getElem?_getD, List.getElem?_eq_getElem hi2]; exact List.getElem_mem hi2)
        refine ⟨rfl, _, rfl, _, rfl, _, rfl, _, rfl, _, _, rfl, rfl, _, m, a + b, rfl, g0, g1, by omega, hm, _, eG, ?_, same_app nG sm, ?_⟩
        · rw [List.length_map, mvd_len, List.length_take]
          exact small1000 (by omega)
        · rw [upd_same, List.take_succ_eq_append_getElem hi2]
          unfold mvd
          rw [List.map_append, List.map_append, List.getD_eq_getElem?_getD, List.getElem?_eq_getElem hi2]
          rfl
      rintro H13 ⟨s13, eG⟩
      rw [List.length_map, List.take_length] at eG
      have s1013 := s11.trans (s12.trans s13)
      have hp13 := hp10.mono s1013
      have hX13 := hX11.mono (wo_up (SameB.of (s12.trans s13)))
      have hY13 := hY12.mono (wo_up (SameB.of s13))
      have nGp : G ≠ p := (hp10.mono (s11.trans s12)).ne nG
      have eM13 : wo H13 p M = some (.lst (ns.map V.int)) := wo_some (s13 _ _ eM12) nMp
      have eG13 : wo H13 p G = some (.lst ((mvd a b m ns).map V.int)) := wo_some eG nGp
      have ov13 := ov10.mono (wo_up (SameB.of s1013))
      have s1_13 := s1_10.trans s1013
      clear hX11 hY12 hX hY eM12 eM10 eG eM hp10 hp9 hp8 hp7 hp6 hp5 ov ov10
      have bd := B.bd
      have up : ∀ {Hx : Hp}, Same H13 Hx → Same (wo H13 p) Hx := fun s => wo_le.trans s
      have ats : ∀ {Hx : Hp} {z : Addr} {ms : List Int}, Rg D.C_Round Hx z a b ms → ∃ dz l, Hx z = some (.ins D.C_Round dz (rf (.int a) (.int b) (.ref l))) := fun h => by
        obtain ⟨dz, l, h, _⟩ := h.rd
        exact ⟨dz, l, h⟩
      -- what they are
      refine ⟨_, rfl, _, rfl, _, rfl, _, rfl, y, G, a, b, _, rfl, hY13.mono wo_le, wo_le _ _ eG13, bd, fun H14 s14 => ⟨_, rfl, ?_⟩⟩
      refine ⟨_, rfl, _, rfl, _, rfl, _, rfl, x, M, a, b, _, rfl, hX13.mono (up s14), up s14 _ _ eM13, bd, fun H15 s15 => ⟨_, rfl, ?_⟩⟩
      have s1315 := s14.trans s15
      -- moved back, moved by its name
      obtain ⟨dy, ly, hy⟩ := ats (hY13.mono (up s1315))
      refine ⟨_, rfl, y, dy, _, rfl, hy, rfl, _, rfl, _, _, rfl, rfl, y, _, a, b, _, rfl, hY13.mono (up s1315), .int _, fun m' em z H16 s16 hZ => ?_, fun z => nomatch z⟩
      cases em
      rw [mvd_back hb] at hZ
      have s1316 := s1315.trans s16
      refine ⟨_, rfl, _, rfl, _, rfl, z, M, a, b, _, rfl, hZ.mono new_le, up s1316 _ _ eM13, bd, fun H17 s17' => ⟨_, rfl, ?_⟩⟩
      have s1317 := s1316.trans s17'
      obtain ⟨dx2, lx2, hx2⟩ := ats (hX13.mono (up s1317))
      refine ⟨_, rfl, x, dx2, _, rfl, hx2, rfl, _, rfl, x, _, a, b, _, rfl, hX13.mono (up s1317), .int _, fun m' em z2 H18 s18 hZ2 => ?_, fun z => nomatch z⟩
      cases em
      have s1318 := s1317.trans s18
      refine ⟨_, rfl, _, rfl, _, rfl, z2, G, a, b, _, rfl, hZ2.mono new_le, up s1318 _ _ eG13, bd, fun H19 s19 => ⟨_, rfl, ?_⟩⟩
      have s1319 := s1318.trans s19
      -- its begins changed
      obtain ⟨dy3, ly3, hy3⟩ := ats (hY13.mono (up s1319))
      refine ⟨_, rfl, y, dy3, _, rfl, hy3, rfl, y, a, b, _, rfl, hY13.mono (up s1319), fun Lb H20 nLb s20 eLb => ?_⟩
      refine ⟨.inl ⟨rfl, _, SqL.of eLb⟩, Lb, _, _, rfl, rfl, eLb, small1000 (by rw [List.length_map, mvd_len]; omega), ?_⟩
      have s1321 : Same H13 (upd H20 Lb (.lst ((mvd a b m ns).map V.int ++ [V.int 0]))) := same_app (s1319.free nLb) (s1319.trans s20)
      generalize upd H20 Lb (.lst ((mvd a b m ns).map V.int ++ [V.int 0])) = H21 at *
      refine ⟨_, rfl, _, rfl, _, rfl, _, rfl, y, G, a, b, _, rfl, hY13.mono (up s1321), up s1321 _ _ eG13, bd, fun H22 s22 => ⟨_, rfl, ?_⟩⟩
      have s1322 := s1321.trans s22
      refine ⟨_, rfl, _, rfl, _, rfl, G, _, rfl, SqL.of (up s1322 _ _ eG13), fun m1 q1 e1 o1 n1 => ?_⟩
      have s23 := same_upd (o := .lst (m1.map V.int)) n1
      have g1 := upd_same (H := H22) (a := q1) (o := .lst (m1.map V.int))
      generalize upd H22 q1 (.lst (m1.map V.int)) = H23 at *
      refine ⟨_, rfl, M, _, rfl, SqL.of (up (s1322.trans s23) _ _ eM13), fun m2 q2 e2 o2 n2 => ?_⟩
      have s24 := same_upd (o := .lst (m2.map V.int)) n2
      have g2 := upd_same (H := H23) (a := q2) (o := .lst (m2.map V.int))
      generalize upd H23 q2 (.lst (m2.map V.int)) = H24 at *
      have s1324 := s1322.trans (s23.trans s24)
      refine ⟨intsD m1, intsD m2, ints_dp (s24 _ _ g1), ints_dp g2, ints_shaped _, ints_shaped _, ?_⟩
      rw [sorted_eq e1 o1 e2 o2]
      have er : (mvd a b m ns).isPerm ns = eqR a b ns a b (mvd a b m ns) := by
        unfold eqR
        rw [decide_eq_true rfl, decide_eq_true rfl, Bool.true_and, Bool.true_and, Bool.eq_iff_iff, List.isPerm_iff, List.isPerm_iff]
        exact ⟨fun h => h.symm, fun h => h.symm⟩
      rw [er]
      refine ⟨x, .ref y, _, rfl, .rg (hX13.mono (up s1324)) (hY13.mono (up s1324)), fun H25 s25 => ⟨_, rfl, ?_⟩⟩
      have s1325 := s1324.trans s25
      have w1325 : Same (wo H13 p) (wo H25 p) := wo_up (SameB.of s1325)
      -- equal to what it is
      refine ⟨_, rfl, _, rfl, _, rfl, _, rfl, _, rfl, p, x, M, a, b, ns, rfl, hp13.mono s1325, hX13.mono w1325, w1325 _ _ eM13, B, by omega, by omega, fun H26 hp26 sb26 => ⟨_, rfl, ?_⟩⟩
      have w1326 : Same (wo H13 p) (wo H26 p) := w1325.trans (wo_up sb26)
      have hX26 := hX13.mono (w1326.trans wo_le)
      have eM26 := (w1326.trans wo_le) _ _ eM13
      have s1_26 : Same H1 H26 := fun c o e => sb26 c o (ne_of_none e np) ((s1_13.trans s1325) _ _ e)
      obtain ⟨dx4, lx4, hx4⟩ := ats hX26
      refine ⟨_, rfl, x, dx4, _, rfl, hx4, rfl, x, _, a, b, _, rfl, hX26, .int _, fun m' em z3 H27 s27 _ => ?_, fun z => nomatch z⟩
      refine ⟨_, rfl, _, rfl, x, v, a, b, ns, rfl, hX26.mono s27, (ov13.mono (w1326.trans wo_le)).mono s27, hv, fun H28 s28 => ⟨_, rfl, ?_⟩⟩
      refine ⟨_, rfl, x, .bl true, a, b, ns, rfl, hX26.mono (s27.trans s28), .bl _, rfl, fun H29 s29 => ⟨_, rfl, ?_⟩⟩
      have s2629 := s27.trans (s28.trans s29)
      refine ⟨_, rfl, _, rfl, _, rfl, _, rfl, x, M, a, b, ns, rfl, hX26.mono s2629, s2629 _ _ eM26, bd, fun H30 s30 => ⟨_, rfl, ?_⟩⟩
      exact ⟨_, _, _, _, _, _, _, _, _, _, rfl, sm1.trans (s1_26.trans (s2629.trans s30))⟩
    · rintro σ H1 ⟨x1, x2, x3, x4, x5, x6, x7, x8, x9, x10, rfl, sm1⟩
      exact q H1
end
end K44

set_option Elab.async false
set_option linter.all false
set_option maxRecDepth 100000
set_option maxHeartbeats 3200000
namespace K44
open PySem PySem.Spec PyProof.Rows L2 LT NdefX
structure LeftC (K : PySem.W.Frag) (C_LightsError C_Wrong C_Barred C_NoNumber C_NoRound C_NoSlot C_Round : Addr) : Prop where
  n_LightsError : PySem.W.nsIn K mainGlobals "LightsError" = some (some (.ref C_LightsError))
  n_Wrong : PySem.W.nsIn K mainGlobals "Wrong" = some (some (.ref C_Wrong))
  n_Barred : PySem.W.nsIn K mainGlobals "Barred" = some (some (.ref C_Barred))
  n_NoNumber : PySem.W.nsIn K mainGlobals "NoNumber" = some (some (.ref C_NoNumber))
  n_NoRound : PySem.W.nsIn K mainGlobals "NoRound" = some (some (.ref C_NoRound))
  n_NoSlot : PySem.W.nsIn K mainGlobals "NoSlot" = some (some (.ref C_NoSlot))
  n_Round : PySem.W.nsIn K mainGlobals "Round" = some (some (.ref C_Round))
  i_LightsError : PySem.W.isClsIn K C_LightsError = true
  ty_LightsError : PySem.W.typeIn K (.ref C_LightsError) = some (.type "type")
  i_Wrong : PySem.W.isClsIn K C_Wrong = true
  ty_Wrong : PySem.W.typeIn K (.ref C_Wrong) = some (.type "type")
  i_Barred : PySem.W.isClsIn K C_Barred = true
  ty_Barred : PySem.W.typeIn K (.ref C_Barred) = some (.type "type")
  i_NoNumber : PySem.W.isClsIn K C_NoNumber = true
  ty_NoNumber : PySem.W.typeIn K (.ref C_NoNumber) = some (.type "type")
  i_NoRound : PySem.W.isClsIn K C_NoRound = true
  ty_NoRound : PySem.W.typeIn K (.ref C_NoRound) = some (.type "type")
  i_NoSlot : PySem.W.isClsIn K C_NoSlot = true
  ty_NoSlot : PySem.W.typeIn K (.ref C_NoSlot) = some (.type "type")
  sb_LightsError : PySem.W.subIn K (.ref C_LightsError) (.type "BaseException") = some true
  cn : PySem.W.specialIn K (.builtin "object.__class__") "__get__" = some (some (.builtin "getset_descriptor.__get__"))
  ct : PySem.W.takesIn K (.builtin "object.__class__") = some true
  eg_NoRound : PySem.W.findIn K (.ref C_NoRound) "__getattribute__" = some (some (.builtin "BaseException.__getattribute__"))
  ek_NoRound : PySem.W.findIn K (.ref C_NoRound) "__getattr__" = some none
  ed_NoRound : PySem.W.hasDictIn K C_NoRound = true
  ea_NoRound : PySem.W.findIn K (.ref C_NoRound) "__class__" = some (some (.builtin "object.__class__"))
  em_NoRound : PySem.W.mroIn K C_NoRound (.type "object") = some true
  x_NoSlot : PySem.W.excIn K C_NoSlot [.type "ValueError", .type "Exception", .type "BaseException", .type "object"] "ValueError.__new__" = true
  k_NoSlot : PySem.W.keepIn K (.ref C_NoSlot) = true
  b_NoSlot : PySem.W.subIn K (.ref C_NoSlot) (.type "BaseException") = some true
  eg_NoSlot : PySem.W.findIn K (.ref C_NoSlot) "__getattribute__" = some (some (.builtin "BaseException.__getattribute__"))
  ek_NoSlot : PySem.W.findIn K (.ref C_NoSlot) "__getattr__" = some none
  ed_NoSlot : PySem.W.hasDictIn K C_NoSlot = true
  ea_NoSlot : PySem.W.findIn K (.ref C_NoSlot) "__class__" = some (some (.builtin "object.__class__"))
  em_NoSlot : PySem.W.mroIn K C_NoSlot (.type "object") = some true
  sv_NoSlot : PySem.W.subIn K (.ref C_NoSlot) (.type "ValueError") = some true
  x_NoNumber : PySem.W.excIn K C_NoNumber [.type "ValueError", .type "Exception", .type "BaseException", .type "object"] "ValueError.__new__" = true
  k_NoNumber : PySem.W.keepIn K (.ref C_NoNumber) = true
  b_NoNumber : PySem.W.subIn K (.ref C_NoNumber) (.type "BaseException") = some true
  eg_NoNumber : PySem.W.findIn K (.ref C_NoNumber) "__getattribute__" = some (some (.builtin "BaseException.__getattribute__"))
  ek_NoNumber : PySem.W.findIn K (.ref C_NoNumber) "__getattr__" = some none
  ed_NoNumber : PySem.W.hasDictIn K C_NoNumber = true
  ea_NoNumber : PySem.W.findIn K (.ref C_NoNumber) "__class__" = some (some (.builtin "object.__class__"))
  em_NoNumber : PySem.W.mroIn K C_NoNumber (.type "object") = some true
  sv_NoNumber : PySem.W.subIn K (.ref C_NoNumber) (.type "ValueError") = some true
  s_NoRound_Barred : PySem.W.subIn K (.ref C_NoRound) (.ref C_Barred) = some false
  q_NoRound_Barred : ((Value.ref C_NoRound) == (Value.ref C_Barred)) = false
  s_NoRound_NoSlot : PySem.W.subIn K (.ref C_NoRound) (.ref C_NoSlot) = some false
  q_NoRound_NoSlot : ((Value.ref C_NoRound) == (Value.ref C_NoSlot)) = false
  s_NoRound_NoNumber : PySem.W.subIn K (.ref C_NoRound) (.ref C_NoNumber) = some false
  q_NoRound_NoNumber : ((Value.ref C_NoRound) == (Value.ref C_NoNumber)) = false
  s_NoRound_Wrong : PySem.W.subIn K (.ref C_NoRound) (.ref C_Wrong) = some true
  s_NoSlot_Barred : PySem.W.subIn K (.ref C_NoSlot) (.ref C_Barred) = some false
  q_NoSlot_Barred : ((Value.ref C_NoSlot) == (Value.ref C_Barred)) = false
  s_NoSlot_NoRound : PySem.W.subIn K (.ref C_NoSlot) (.ref C_NoRound) = some false
  q_NoSlot_NoRound : ((Value.ref C_NoSlot) == (Value.ref C_NoRound)) = false
  s_NoSlot_NoNumber : PySem.W.subIn K (.ref C_NoSlot) (.ref C_NoNumber) = some false
  q_NoSlot_NoNumber : ((Value.ref C_NoSlot) == (Value.ref C_NoNumber)) = false
  s_NoSlot_Wrong : PySem.W.subIn K (.ref C_NoSlot) (.ref C_Wrong) = some true
  s_NoNumber_Barred : PySem.W.subIn K (.ref C_NoNumber) (.ref C_Barred) = some false
  q_NoNumber_Barred : ((Value.ref C_NoNumber) == (Value.ref C_Barred)) = false
  s_NoNumber_NoRound : PySem.W.subIn K (.ref C_NoNumber) (.ref C_NoRound) = some false
  q_NoNumber_NoRound : ((Value.ref C_NoNumber) == (Value.ref C_NoRound)) = false
  s_NoNumber_NoSlot : PySem.W.subIn K (.ref C_NoNumber) (.ref C_NoSlot) = some false
  q_NoNumber_NoSlot : ((Value.ref C_NoNumber) == (Value.ref C_NoSlot)) = false
  s_NoNumber_Wrong : PySem.W.subIn K (.ref C_NoNumber) (.ref C_Wrong) = some true
  s_NoRound_LightsError : PySem.W.subIn K (.ref C_NoRound) (.ref C_LightsError) = some true
  s_NoSlot_LightsError : PySem.W.subIn K (.ref C_NoSlot) (.ref C_LightsError) = some true
  s_NoNumber_LightsError : PySem.W.subIn K (.ref C_NoNumber) (.ref C_LightsError) = some true
  pg_Round : PySem.W.plainGet K C_Round Str.empty = true
  hd_Round : PySem.W.hasDictIn K C_Round = true
  po_Round : PySem.W.plainOver K C_Round = true
  sa_Round : PySem.W.findIn K (.ref C_Round) "__setattr__" = some (some (.builtin "object.__setattr__"))
  kC_Round : PySem.W.keepIn K (.ref C_Round) = true
  mk_Round : PySem.W.makesIn K C_Round = true
  f_Round_slots_on : PySem.W.findIn K (.ref C_Round) "slots_on" = some none
  f_Round_slots_off : PySem.W.findIn K (.ref C_Round) "slots_off" = some none
  f_Round_first_slots : PySem.W.findIn K (.ref C_Round) "first_slots" = some none
  cm_Round : PySem.W.mroIn K C_Round (.type "object") = some true
  ca_Round : PySem.W.findIn K (.ref C_Round) "__class__" = some (some (.builtin "object.__class__"))
  iC_Round : PySem.W.isClsIn K C_Round = true
  tC_Round : PySem.W.typeIn K (.ref C_Round) = some (.type "type")
  kt_Round_NoneType : PySem.W.subIn K (.type "NoneType") (.ref C_Round) = some false
  kt_Round_bool : PySem.W.subIn K (.type "bool") (.ref C_Round) = some false
  kt_Round_int : PySem.W.subIn K (.type "int") (.ref C_Round) = some false
  kt_Round_str : PySem.W.subIn K (.type "str") (.ref C_Round) = some false
  kt_Round_list : PySem.W.subIn K (.type "list") (.ref C_Round) = some false
  kt_Round_tuple : PySem.W.subIn K (.type "tuple") (.ref C_Round) = some false
  kt_Round_dict : PySem.W.subIn K (.type "dict") (.ref C_Round) = some false
  ne_Round : PySem.W.findIn K (.ref C_Round) "__ne__" = some (some (.builtin "object.__ne__"))
  st_Round_NoneType : PySem.W.subIn K (.ref C_Round) (.type "NoneType") = some false
  st_Round_bool : PySem.W.subIn K (.ref C_Round) (.type "bool") = some false
  st_Round_int : PySem.W.subIn K (.ref C_Round) (.type "int") = some false
  st_Round_str : PySem.W.subIn K (.ref C_Round) (.type "str") = some false
  st_Round_list : PySem.W.subIn K (.ref C_Round) (.type "list") = some false
  st_Round_tuple : PySem.W.subIn K (.ref C_Round) (.type "tuple") = some false
theorem all_mk {l : PySem.W.OpenLaw} {w : World} {K : PySem.W.Frag} {h : Heap} {mg : Str → Option Value} {fa : Addr} (X : K.In h) (G : h.Ns mainGlobals mg) (hfa : mg "law" = some (.ref fa))
    {C_LightsError C_Wrong C_Barred C_NoNumber C_NoRound C_NoSlot C_Round : Addr} (D : LeftC K C_LightsError C_Wrong C_Barred C_NoNumber C_NoRound C_NoSlot C_Round)
    {fENoRound ccENoRound cdENoRound : Addr} {nmENoRound qnENoRound : Str} {NENoRound : Addr} {bsENoRound bmENoRound : List Value} {snENoRound : List Str} {subENoRound : List Value} {abENoRound : Bool} {colENoRound : Option Bool} {ddENoRound : Option Addr} {k0ENoRound k1ENoRound k2ENoRound k3ENoRound k5ENoRound : Option Value} {ocENoRound : Value} {odENoRound : Option Addr} {kVENoRound docENoRound pmENoRound : Value} {anENoRound : Option Addr} {ctENoRound : Value} {oslENoRound : Array (Option Value)} {caENoRound : Value} {cbENoRound : Option Addr} {c3ENoRound : Array (Option Value)} {kaENoRound : Value} {kbENoRound : Option Addr} {kcENoRound : Array (Option Value)} {vsENoRound : Array Value} {flENoRound : Str} {tfENoRound : Tok} (E_NoRound : LeftE K l.prog "field" "NoRound.__init__" s_NoRound___init__ C_NoRound fENoRound ccENoRound cdENoRound nmENoRound qnENoRound NENoRound bsENoRound bmENoRound snENoRound subENoRound abENoRound colENoRound ddENoRound k0ENoRound k1ENoRound k2ENoRound k3ENoRound k5ENoRound ocENoRound odENoRound kVENoRound docENoRound pmENoRound anENoRound ctENoRound oslENoRound caENoRound cbENoRound c3ENoRound kaENoRound kbENoRound kcENoRound vsENoRound flENoRound tfENoRound)
    {fRound___init__ : Addr} {ocRound___init__ : Value} {odRound___init__ anRound___init__ : Option Addr} {kVRound___init__ dcRound___init__ pmRound___init__ cdRound___init__ ctRound___init__ : Value} {slRound___init__ : Array (Option Value)} (F_Round___init__ : LeftM K C_Round "__init__" "Round.__init__" s_Round___init__ fRound___init__ ocRound___init__ odRound___init__ anRound___init__ kVRound___init__ dcRound___init__ pmRound___init__ cdRound___init__ ctRound___init__ slRound___init__)
    {fRound_on : Addr} {ocRound_on : Value} {odRound_on anRound_on : Option Addr} {kVRound_on dcRound_on pmRound_on cdRound_on ctRound_on : Value} {slRound_on : Array (Option Value)} (F_Round_on : LeftM K C_Round "on" "Round.on" s_Round_on fRound_on ocRound_on odRound_on anRound_on kVRound_on dcRound_on pmRound_on cdRound_on ctRound_on slRound_on)
    {fRound_off : Addr} {ocRound_off : Value} {odRound_off anRound_off : Option Addr} {kVRound_off dcRound_off pmRound_off cdRound_off ctRound_off : Value} {slRound_off : Array (Option Value)} (F_Round_off : LeftM K C_Round "off" "Round.off" s_Round_off fRound_off ocRound_off odRound_off anRound_off kVRound_off dcRound_off pmRound_off cdRound_off ctRound_off slRound_off)
    {fRound_begins : Addr} {ocRound_begins : Value} {odRound_begins anRound_begins : Option Addr} {kVRound_begins dcRound_begins pmRound_begins cdRound_begins ctRound_begins : Value} {slRound_begins : Array (Option Value)} (F_Round_begins : LeftM K C_Round "begins" "Round.begins" s_Round_begins fRound_begins ocRound_begins odRound_begins anRound_begins kVRound_begins dcRound_begins pmRound_begins cdRound_begins ctRound_begins slRound_begins)
    {fRound_on_in : Addr} {ocRound_on_in : Value} {odRound_on_in anRound_on_in : Option Addr} {kVRound_on_in dcRound_on_in pmRound_on_in cdRound_on_in ctRound_on_in : Value} {slRound_on_in : Array (Option Value)} (F_Round_on_in : LeftM K C_Round "on_in" "Round.on_in" s_Round_on_in fRound_on_in ocRound_on_in odRound_on_in anRound_on_in kVRound_on_in dcRound_on_in pmRound_on_in cdRound_on_in ctRound_on_in slRound_on_in)
    {fRound_least : Addr} {ocRound_least : Value} {odRound_least anRound_least : Option Addr} {kVRound_least dcRound_least pmRound_least cdRound_least ctRound_least : Value} {slRound_least : Array (Option Value)} (F_Round_least : LeftM K C_Round "least" "Round.least" s_Round_least fRound_least ocRound_least odRound_least anRound_least kVRound_least dcRound_least pmRound_least cdRound_least ctRound_least slRound_least)
    {fRound_moved : Addr} {ocRound_moved : Value} {odRound_moved anRound_moved : Option Addr} {kVRound_moved dcRound_moved pmRound_moved cdRound_moved ctRound_moved : Value} {slRound_moved : Array (Option Value)} (F_Round_moved : LeftM K C_Round "moved" "Round.moved" s_Round_moved fRound_moved ocRound_moved odRound_moved anRound_moved kVRound_moved dcRound_moved pmRound_moved cdRound_moved ctRound_moved slRound_moved)
    {fRound___eq__ : Addr} {ocRound___eq__ : Value} {odRound___eq__ anRound___eq__ : Option Addr} {kVRound___eq__ dcRound___eq__ pmRound___eq__ cdRound___eq__ ctRound___eq__ : Value} {slRound___eq__ : Array (Option Value)} (F_Round___eq__ : LeftM K C_Round "__eq__" "Round.__eq__" s_Round___eq__ fRound___eq__ ocRound___eq__ odRound___eq__ anRound___eq__ kVRound___eq__ dcRound___eq__ pmRound___eq__ cdRound___eq__ ctRound___eq__ slRound___eq__)
    {fRound___len__ : Addr} {ocRound___len__ : Value} {odRound___len__ anRound___len__ : Option Addr} {kVRound___len__ dcRound___len__ pmRound___len__ cdRound___len__ ctRound___len__ : Value} {slRound___len__ : Array (Option Value)} (F_Round___len__ : LeftM K C_Round "__len__" "Round.__len__" s_Round___len__ fRound___len__ ocRound___len__ odRound___len__ anRound___len__ kVRound___len__ dcRound___len__ pmRound___len__ cdRound___len__ ctRound___len__ slRound___len__)
    {fRound___repr__ : Addr} {ocRound___repr__ : Value} {odRound___repr__ anRound___repr__ : Option Addr} {kVRound___repr__ dcRound___repr__ pmRound___repr__ cdRound___repr__ ctRound___repr__ : Value} {slRound___repr__ : Array (Option Value)} (F_Round___repr__ : LeftM K C_Round "__repr__" "Round.__repr__" s_Round___repr__ fRound___repr__ ocRound___repr__ odRound___repr__ anRound___repr__ kVRound___repr__ dcRound___repr__ pmRound___repr__ cdRound___repr__ ctRound___repr__ slRound___repr__)
    {fis_whole : Addr} {ocis_whole : Value} {odis_whole anis_whole : Option Addr} {kVis_whole dcis_whole pmis_whole cdis_whole ctis_whole : Value} {slis_whole : Array (Option Value)} (F_is_whole : Left K "is_whole" s_is_whole fis_whole ocis_whole odis_whole anis_whole kVis_whole dcis_whole pmis_whole cdis_whole ctis_whole slis_whole)
    {fis_from : Addr} {ocis_from : Value} {odis_from anis_from : Option Addr} {kVis_from dcis_from pmis_from cdis_from ctis_from : Value} {slis_from : Array (Option Value)} (F_is_from : Left K "is_from" s_is_from fis_from ocis_from odis_from anis_from kVis_from dcis_from pmis_from cdis_from ctis_from slis_from)
    {fis_within : Addr} {ocis_within : Value} {odis_within anis_within : Option Addr} {kVis_within dcis_within pmis_within cdis_within ctis_within : Value} {slis_within : Array (Option Value)} (F_is_within : Left K "is_within" s_is_within fis_within ocis_within odis_within anis_within kVis_within dcis_within pmis_within cdis_within ctis_within slis_within)
    {fcheck_turns : Addr} {occheck_turns : Value} {odcheck_turns ancheck_turns : Option Addr} {kVcheck_turns dccheck_turns pmcheck_turns cdcheck_turns ctcheck_turns : Value} {slcheck_turns : Array (Option Value)} (F_check_turns : Left K "check_turns" s_check_turns fcheck_turns occheck_turns odcheck_turns ancheck_turns kVcheck_turns dccheck_turns pmcheck_turns cdcheck_turns ctcheck_turns slcheck_turns)
    {fare_begins : Addr} {ocare_begins : Value} {odare_begins anare_begins : Option Addr} {kVare_begins dcare_begins pmare_begins cdare_begins ctare_begins : Value} {slare_begins : Array (Option Value)} (F_are_begins : Left K "are_begins" s_are_begins fare_begins ocare_begins odare_begins anare_begins kVare_begins dcare_begins pmare_begins cdare_begins ctare_begins slare_begins)
    {f_law_cell : Addr} {oc_law_cell : Value} {od_law_cell an_law_cell : Option Addr} {kV_law_cell dc_law_cell pm_law_cell cd_law_cell ct_law_cell : Value} {sl_law_cell : Array (Option Value)} (F__law_cell : Left K "_law_cell" s__law_cell f_law_cell oc_law_cell od_law_cell an_law_cell kV_law_cell dc_law_cell pm_law_cell cd_law_cell ct_law_cell sl_law_cell)
    {f_law_pot : Addr} {oc_law_pot : Value} {od_law_pot an_law_pot : Option Addr} {kV_law_pot dc_law_pot pm_law_pot cd_law_pot ct_law_pot : Value} {sl_law_pot : Array (Option Value)} (F__law_pot : Left K "_law_pot" s__law_pot f_law_pot oc_law_pot od_law_pot an_law_pot kV_law_pot dc_law_pot pm_law_pot cd_law_pot ct_law_pot sl_law_pot)
    {f_law_take : Addr} {oc_law_take : Value} {od_law_take an_law_take : Option Addr} {kV_law_take dc_law_take pm_law_take cd_law_take ct_law_take : Value} {sl_law_take : Array (Option Value)} (F__law_take : Left K "_law_take" s__law_take f_law_take oc_law_take od_law_take an_law_take kV_law_take dc_law_take pm_law_take cd_law_take ct_law_take sl_law_take)
    {f_law_number : Addr} {oc_law_number : Value} {od_law_number an_law_number : Option Addr} {kV_law_number dc_law_number pm_law_number cd_law_number ct_law_number : Value} {sl_law_number : Array (Option Value)} (F__law_number : Left K "_law_number" s__law_number f_law_number oc_law_number od_law_number an_law_number kV_law_number dc_law_number pm_law_number cd_law_number ct_law_number sl_law_number)
    {f_law_begin : Addr} {oc_law_begin : Value} {od_law_begin an_law_begin : Option Addr} {kV_law_begin dc_law_begin pm_law_begin cd_law_begin ct_law_begin : Value} {sl_law_begin : Array (Option Value)} (F__law_begin : Left K "_law_begin" s__law_begin f_law_begin oc_law_begin od_law_begin an_law_begin kV_law_begin dc_law_begin pm_law_begin cd_law_begin ct_law_begin sl_law_begin)
    {f_law_turn : Addr} {oc_law_turn : Value} {od_law_turn an_law_turn : Option Addr} {kV_law_turn dc_law_turn pm_law_turn cd_law_turn ct_law_turn : Value} {sl_law_turn : Array (Option Value)} (F__law_turn : Left K "_law_turn" s__law_turn f_law_turn oc_law_turn od_law_turn an_law_turn kV_law_turn dc_law_turn pm_law_turn cd_law_turn ct_law_turn sl_law_turn)
    {f_law_begins : Addr} {oc_law_begins : Value} {od_law_begins an_law_begins : Option Addr} {kV_law_begins dc_law_begins pm_law_begins cd_law_begins ct_law_begins : Value} {sl_law_begins : Array (Option Value)} (F__law_begins : Left K "_law_begins" s__law_begins f_law_begins oc_law_begins od_law_begins an_law_begins kV_law_begins dc_law_begins pm_law_begins cd_law_begins ct_law_begins sl_law_begins)
    {f_law_by : Addr} {oc_law_by : Value} {od_law_by an_law_by : Option Addr} {kV_law_by dc_law_by pm_law_by cd_law_by ct_law_by : Value} {sl_law_by : Array (Option Value)} (F__law_by : Left K "_law_by" s__law_by f_law_by oc_law_by od_law_by an_law_by kV_law_by dc_law_by pm_law_by cd_law_by ct_law_by sl_law_by)
    {f_law_later : Addr} {oc_law_later : Value} {od_law_later an_law_later : Option Addr} {kV_law_later dc_law_later pm_law_later cd_law_later ct_law_later : Value} {sl_law_later : Array (Option Value)} (F__law_later : Left K "_law_later" s__law_later f_law_later oc_law_later od_law_later an_law_later kV_law_later dc_law_later pm_law_later cd_law_later ct_law_later sl_law_later)
    {f_law_is : Addr} {oc_law_is : Value} {od_law_is an_law_is : Option Addr} {kV_law_is dc_law_is pm_law_is cd_law_is ct_law_is : Value} {sl_law_is : Array (Option Value)} (F__law_is : Left K "_law_is" s__law_is f_law_is oc_law_is od_law_is an_law_is kV_law_is dc_law_is pm_law_is cd_law_is ct_law_is sl_law_is)
    {f_law_same : Addr} {oc_law_same : Value} {od_law_same an_law_same : Option Addr} {kV_law_same dc_law_same pm_law_same cd_law_same ct_law_same : Value} {sl_law_same : Array (Option Value)} (F__law_same : Left K "_law_same" s__law_same f_law_same oc_law_same od_law_same an_law_same kV_law_same dc_law_same pm_law_same cd_law_same ct_law_same sl_law_same)
    {f_law_others : Addr} {oc_law_others : Value} {od_law_others an_law_others : Option Addr} {kV_law_others dc_law_others pm_law_others cd_law_others ct_law_others : Value} {sl_law_others : Array (Option Value)} (F__law_others : Left K "_law_others" s__law_others f_law_others oc_law_others od_law_others an_law_others kV_law_others dc_law_others pm_law_others cd_law_others ct_law_others sl_law_others)
    {f_law_equal_right : Addr} {oc_law_equal_right : Value} {od_law_equal_right an_law_equal_right : Option Addr} {kV_law_equal_right dc_law_equal_right pm_law_equal_right cd_law_equal_right ct_law_equal_right : Value} {sl_law_equal_right : Array (Option Value)} (F__law_equal_right : Left K "_law_equal_right" s__law_equal_right f_law_equal_right oc_law_equal_right od_law_equal_right an_law_equal_right kV_law_equal_right dc_law_equal_right pm_law_equal_right cd_law_equal_right ct_law_equal_right sl_law_equal_right)
    {f_law_refused : Addr} {oc_law_refused : Value} {od_law_refused an_law_refused : Option Addr} {kV_law_refused dc_law_refused pm_law_refused cd_law_refused ct_law_refused : Value} {sl_law_refused : Array (Option Value)} (F__law_refused : Left K "_law_refused" s__law_refused f_law_refused oc_law_refused od_law_refused an_law_refused kV_law_refused dc_law_refused pm_law_refused cd_law_refused ct_law_refused sl_law_refused)
    {flaw : Addr} {oclaw : Value} {odlaw anlaw : Option Addr} {kVlaw dclaw pmlaw cdlaw ctlaw : Value} {sllaw : Array (Option Value)} (F_law : Left K "law" s_law flaw oclaw odlaw anlaw kVlaw dclaw pmlaw cdlaw ctlaw sllaw)
    (pT : (l.prog.main.scope.names.lookup ("super" : Str)).isSome = false)
    {t_MOST_KEEPERS : Tok} (y_MOST_KEEPERS : PySem.W.nsIn K mainGlobals "MOST_KEEPERS" = some (some (.int (40) t_MOST_KEEPERS)))
    (z_isinstance : PySem.W.nsIn K mainGlobals "isinstance" = some none)
    (z_int : PySem.W.nsIn K mainGlobals "int" = some none)
    (z_bool : PySem.W.nsIn K mainGlobals "bool" = some none)
    (z_len : PySem.W.nsIn K mainGlobals "len" = some none)
    (z_abs : PySem.W.nsIn K mainGlobals "abs" = some none)
    (z_max : PySem.W.nsIn K mainGlobals "max" = some none)
    (z_min : PySem.W.nsIn K mainGlobals "min" = some none)
    (z_divmod : PySem.W.nsIn K mainGlobals "divmod" = some none)
    (z_range : PySem.W.nsIn K mainGlobals "range" = some none)
    (z_repr : PySem.W.nsIn K mainGlobals "repr" = some none)
    (z_zip : PySem.W.nsIn K mainGlobals "zip" = some none)
    (z_ValueError : PySem.W.nsIn K mainGlobals "ValueError" = some none)
    (z_all : PySem.W.nsIn K mainGlobals "all" = some none)
    (z_any : PySem.W.nsIn K mainGlobals "any" = some none)
    (z_sum : PySem.W.nsIn K mainGlobals "sum" = some none)
    (z_sorted : PySem.W.nsIn K mainGlobals "sorted" = some none)
    (z_list : PySem.W.nsIn K mainGlobals "list" = some none)
    (z_tuple : PySem.W.nsIn K mainGlobals "tuple" = some none)
    (z_dict : PySem.W.nsIn K mainGlobals "dict" = some none)
    (z_enumerate : PySem.W.nsIn K mainGlobals "enumerate" = some none)
    (z_reversed : PySem.W.nsIn K mainGlobals "reversed" = some none)
    (z_str : PySem.W.nsIn K mainGlobals "str" = some none)
    (z_set : PySem.W.nsIn K mainGlobals "set" = some none)
    (z_super : PySem.W.nsIn K mainGlobals "super" = some none)
    : ∃ fd : FuncData, (∀ (s : Shared) (v : Value), BindsTo s fd ⟨[v], []⟩ [("_law_script", v)]) ∧
      ∀ base : Heap, K.In base → base.Ns mainGlobals mg → FnG l.prog w K mg base CX0 8 fa fd ["_law_script"] (spLaw K) := by
  have e := hfa.symm.trans (PySem.W.mg_of X G F_law.ns)
  cases e
  have N : ∀ {x : Str}, PySem.W.nsIn K mainGlobals x = some none → mg x = none := fun z => PySem.W.mg_none_of X G z
  have S_NoRound : SupC K l.prog mg C_NoRound ccENoRound (nfI s_NoRound___init__ "NoRound.__init__" ccENoRound cdENoRound) (arI s_NoRound___init__) := ⟨⟨⟨nmENoRound, qnENoRound, NENoRound, bsENoRound, bmENoRound, snENoRound, subENoRound, abENoRound, colENoRound, ddENoRound, k0ENoRound, k1ENoRound, k2ENoRound, k3ENoRound, k5ENoRound, E_NoRound.lk, E_NoRound.rv⟩, E_NoRound.sa, E_NoRound.exC, E_NoRound.tyC, E_NoRound.kC⟩, rfl, ⟨_, _, _, E_NoRound.cell⟩, ⟨_, _, _, _, _, _, E_NoRound.code, E_NoRound.v2, E_NoRound.file⟩, E_NoRound.hsub, E_NoRound.sup, E_NoRound.sB, E_NoRound.op, rfl, E_NoRound.cd, rfl, pT, N z_super⟩
  let A : All K l.prog mg := {
    T := ⟨N z_isinstance, N z_int, N z_bool, N z_len, N z_abs, N z_max, N z_min, N z_divmod, N z_range, N z_repr, N z_zip, N z_ValueError, N z_all, N z_any, N z_sum, N z_sorted, N z_list, N z_tuple, N z_dict, N z_enumerate, N z_reversed, N z_str, N z_set⟩
    t_MOST_KEEPERS := t_MOST_KEEPERS
    g_MOST_KEEPERS := PySem.W.mg_of X G y_MOST_KEEPERS
    C_LightsError := C_LightsError
    g_LightsError := PySem.W.mg_of X G D.n_LightsError
    C_Wrong := C_Wrong
    g_Wrong := PySem.W.mg_of X G D.n_Wrong
    C_Barred := C_Barred
    g_Barred := PySem.W.mg_of X G D.n_Barred
    C_NoNumber := C_NoNumber
    g_NoNumber := PySem.W.mg_of X G D.n_NoNumber
    C_NoRound := C_NoRound
    g_NoRound := PySem.W.mg_of X G D.n_NoRound
    C_NoSlot := C_NoSlot
    g_NoSlot := PySem.W.mg_of X G D.n_NoSlot
    f_NoRound := fENoRound
    cc_NoRound := ccENoRound
    cd_NoRound := cdENoRound
    d_NoRound := _
    N_NoRound := ⟨S_NoRound, ⟨_, _, _, _, _, _, _, _, _, rfl, E_NoRound.fn⟩, E_NoRound.hno, E_NoRound.ini, E_NoRound.tI, .all (fun us hl => match us, hl with | [_, _], _ => rfl), PySem.W.mg_of X G D.n_NoRound⟩
    xf_NoRound := ⟨D.eg_NoRound, D.ek_NoRound, E_NoRound.exC, D.ed_NoRound⟩
    x_NoRound := ⟨D.eg_NoRound, D.ek_NoRound, E_NoRound.exC, D.ed_NoRound, D.ea_NoRound, D.cn, D.ct, D.em_NoRound⟩
    kv_NoRound := kit_ve E_NoRound.sB
    E_NoSlot := ⟨PySem.W.mg_of X G D.n_NoSlot, D.x_NoSlot, D.k_NoSlot, D.b_NoSlot, D.ty_NoSlot⟩
    x_NoSlot := ⟨D.eg_NoSlot, D.ek_NoSlot, D.b_NoSlot, D.ed_NoSlot, D.ea_NoSlot, D.cn, D.ct, D.em_NoSlot⟩
    kv_NoSlot := kit_ve D.sv_NoSlot
    E_NoNumber := ⟨PySem.W.mg_of X G D.n_NoNumber, D.x_NoNumber, D.k_NoNumber, D.b_NoNumber, D.ty_NoNumber⟩
    x_NoNumber := ⟨D.eg_NoNumber, D.ek_NoNumber, D.b_NoNumber, D.ed_NoNumber, D.ea_NoNumber, D.cn, D.ct, D.em_NoNumber⟩
    kv_NoNumber := kit_ve D.sv_NoNumber
    kit_NoRound_Barred := kit_no D.i_Barred D.ty_Barred D.s_NoRound_Barred D.q_NoRound_Barred
    kit_NoRound_NoRound := kit_self
    kit_NoRound_NoSlot := kit_no D.i_NoSlot D.ty_NoSlot D.s_NoRound_NoSlot D.q_NoRound_NoSlot
    kit_NoRound_NoNumber := kit_no D.i_NoNumber D.ty_NoNumber D.s_NoRound_NoNumber D.q_NoRound_NoNumber
    kit_NoRound_Wrong := kit_yes D.i_Wrong D.ty_Wrong D.s_NoRound_Wrong
    kit_NoSlot_Barred := kit_no D.i_Barred D.ty_Barred D.s_NoSlot_Barred D.q_NoSlot_Barred
    kit_NoSlot_NoRound := kit_no D.i_NoRound D.ty_NoRound D.s_NoSlot_NoRound D.q_NoSlot_NoRound
    kit_NoSlot_NoSlot := kit_self
    kit_NoSlot_NoNumber := kit_no D.i_NoNumber D.ty_NoNumber D.s_NoSlot_NoNumber D.q_NoSlot_NoNumber
    kit_NoSlot_Wrong := kit_yes D.i_Wrong D.ty_Wrong D.s_NoSlot_Wrong
    kit_NoNumber_Barred := kit_no D.i_Barred D.ty_Barred D.s_NoNumber_Barred D.q_NoNumber_Barred
    kit_NoNumber_NoRound := kit_no D.i_NoRound D.ty_NoRound D.s_NoNumber_NoRound D.q_NoNumber_NoRound
    kit_NoNumber_NoSlot := kit_no D.i_NoSlot D.ty_NoSlot D.s_NoNumber_NoSlot D.q_NoNumber_NoSlot
    kit_NoNumber_NoNumber := kit_self
    kit_NoNumber_Wrong := kit_yes D.i_Wrong D.ty_Wrong D.s_NoNumber_Wrong
    exm_NoRound_LightsError := exm_is D.sb_LightsError D.i_LightsError D.ty_LightsError D.s_NoRound_LightsError
    exm_NoSlot_LightsError := exm_is D.sb_LightsError D.i_LightsError D.ty_LightsError D.s_NoSlot_LightsError
    exm_NoNumber_LightsError := exm_is D.sb_LightsError D.i_LightsError D.ty_LightsError D.s_NoNumber_LightsError
    C_Round := C_Round
    Z_Round := ⟨⟨D.pg_Round, D.hd_Round, D.po_Round, D.sa_Round⟩, PySem.W.mg_of X G D.n_Round, D.kC_Round⟩
    n_Round_slots_on := D.f_Round_slots_on
    n_Round_slots_off := D.f_Round_slots_off
    n_Round_first_slots := D.f_Round_first_slots
    I_Round := ⟨D.ca_Round, D.cn, D.ct, D.cm_Round, kit_self, fun t ht => by
      simp only [List.mem_cons, List.not_mem_nil, or_false] at ht
      rcases ht with rfl | rfl | rfl | rfl | rfl | rfl | rfl
      · exact kit_no D.iC_Round D.tC_Round D.kt_Round_NoneType rfl
      · exact kit_no D.iC_Round D.tC_Round D.kt_Round_bool rfl
      · exact kit_no D.iC_Round D.tC_Round D.kt_Round_int rfl
      · exact kit_no D.iC_Round D.tC_Round D.kt_Round_str rfl
      · exact kit_no D.iC_Round D.tC_Round D.kt_Round_list rfl
      · exact kit_no D.iC_Round D.tC_Round D.kt_Round_tuple rfl
      · exact kit_no D.iC_Round D.tC_Round D.kt_Round_dict rfl⟩
    f_Round___init__ := fRound___init__
    d_Round___init__ := _
    h_Round___init__ := ⟨F_Round___init__.fn, F_Round___init__.fn.binds fun _ _ _ _ _ _ us hl => match us, hl with | [_, _, _, _], _ => rfl, F_Round___init__.me⟩
    M_Round := ⟨D.mk_Round, F_Round___init__.at_, F_Round___init__.isf, D.kC_Round⟩
    f_Round_on := fRound_on
    d_Round_on := _
    h_Round_on := ⟨F_Round_on.fn, F_Round_on.fn.binds fun _ _ _ _ _ _ us hl => match us, hl with | [_], _ => rfl, F_Round_on.me⟩
    f_Round_off := fRound_off
    d_Round_off := _
    h_Round_off := ⟨F_Round_off.fn, F_Round_off.fn.binds fun _ _ _ _ _ _ us hl => match us, hl with | [_], _ => rfl, F_Round_off.me⟩
    f_Round_begins := fRound_begins
    d_Round_begins := _
    h_Round_begins := ⟨F_Round_begins.fn, F_Round_begins.fn.binds fun _ _ _ _ _ _ us hl => match us, hl with | [_], _ => rfl, F_Round_begins.me⟩
    f_Round_on_in := fRound_on_in
    d_Round_on_in := _
    h_Round_on_in := ⟨F_Round_on_in.fn, F_Round_on_in.fn.binds fun _ _ _ _ _ _ us hl => match us, hl with | [_, _], _ => rfl, F_Round_on_in.me⟩
    f_Round_least := fRound_least
    d_Round_least := _
    h_Round_least := ⟨F_Round_least.fn, F_Round_least.fn.binds fun _ _ _ _ _ _ us hl => match us, hl with | [_], _ => rfl, F_Round_least.me⟩
    f_Round_moved := fRound_moved
    d_Round_moved := _
    h_Round_moved := ⟨F_Round_moved.fn, F_Round_moved.fn.binds fun _ _ _ _ _ _ us hl => match us, hl with | [_, _], _ => rfl, F_Round_moved.me⟩
    f_Round___eq__ := fRound___eq__
    d_Round___eq__ := _
    h_Round___eq__ := ⟨F_Round___eq__.fn, F_Round___eq__.fn.binds fun _ _ _ _ _ _ us hl => match us, hl with | [_, _], _ => rfl, F_Round___eq__.me⟩
    Q_Round := ⟨F_Round___eq__.at_, F_Round___eq__.isf, D.ne_Round, D.cm_Round, D.st_Round_NoneType, D.st_Round_bool, D.st_Round_int, D.st_Round_str, D.st_Round_list, D.st_Round_tuple⟩
    f_Round___len__ := fRound___len__
    d_Round___len__ := _
    h_Round___len__ := ⟨F_Round___len__.fn, F_Round___len__.fn.binds fun _ _ _ _ _ _ us hl => match us, hl with | [_], _ => rfl, F_Round___len__.me⟩
    f_Round___repr__ := fRound___repr__
    d_Round___repr__ := _
    h_Round___repr__ := ⟨F_Round___repr__.fn, F_Round___repr__.fn.binds fun _ _ _ _ _ _ us hl => match us, hl with | [_], _ => rfl, F_Round___repr__.me⟩
    f_is_whole := fis_whole
    d_is_whole := _
    h_is_whole := ⟨F_is_whole.fn, F_is_whole.fn.binds fun _ _ _ _ _ _ us hl => match us, hl with | [_], _ => rfl, PySem.W.mg_of X G F_is_whole.ns⟩
    f_is_from := fis_from
    d_is_from := _
    h_is_from := ⟨F_is_from.fn, F_is_from.fn.binds fun _ _ _ _ _ _ us hl => match us, hl with | [_, _], _ => rfl, PySem.W.mg_of X G F_is_from.ns⟩
    f_is_within := fis_within
    d_is_within := _
    h_is_within := ⟨F_is_within.fn, F_is_within.fn.binds fun _ _ _ _ _ _ us hl => match us, hl with | [_, _, _], _ => rfl, PySem.W.mg_of X G F_is_within.ns⟩
    f_check_turns := fcheck_turns
    d_check_turns := _
    h_check_turns := ⟨F_check_turns.fn, F_check_turns.fn.binds fun _ _ _ _ _ _ us hl => match us, hl with | [_, _], _ => rfl, PySem.W.mg_of X G F_check_turns.ns⟩
    f_are_begins := fare_begins
    d_are_begins := _
    h_are_begins := ⟨F_are_begins.fn, F_are_begins.fn.binds fun _ _ _ _ _ _ us hl => match us, hl with | [_, _], _ => rfl, PySem.W.mg_of X G F_are_begins.ns⟩
    f__law_cell := f_law_cell
    d__law_cell := _
    h__law_cell := ⟨F__law_cell.fn, F__law_cell.fn.binds fun _ _ _ _ _ _ us hl => match us, hl with | [_, _], _ => rfl, PySem.W.mg_of X G F__law_cell.ns⟩
    f__law_pot := f_law_pot
    d__law_pot := _
    h__law_pot := ⟨F__law_pot.fn, F__law_pot.fn.binds fun _ _ _ _ _ _ us hl => match us, hl with | [_, _], _ => rfl, PySem.W.mg_of X G F__law_pot.ns⟩
    f__law_take := f_law_take
    d__law_take := _
    h__law_take := ⟨F__law_take.fn, F__law_take.fn.binds fun _ _ _ _ _ _ us hl => match us, hl with | [_, _], _ => rfl, PySem.W.mg_of X G F__law_take.ns⟩
    f__law_number := f_law_number
    d__law_number := _
    h__law_number := ⟨F__law_number.fn, F__law_number.fn.binds fun _ _ _ _ _ _ us hl => match us, hl with | [_, _], _ => rfl, PySem.W.mg_of X G F__law_number.ns⟩
    f__law_begin := f_law_begin
    d__law_begin := _
    h__law_begin := ⟨F__law_begin.fn, F__law_begin.fn.binds fun _ _ _ _ _ _ us hl => match us, hl with | [_, _], _ => rfl, PySem.W.mg_of X G F__law_begin.ns⟩
    f__law_turn := f_law_turn
    d__law_turn := _
    h__law_turn := ⟨F__law_turn.fn, F__law_turn.fn.binds fun _ _ _ _ _ _ us hl => match us, hl with | [_], _ => rfl, PySem.W.mg_of X G F__law_turn.ns⟩
    f__law_begins := f_law_begins
    d__law_begins := _
    h__law_begins := ⟨F__law_begins.fn, F__law_begins.fn.binds fun _ _ _ _ _ _ us hl => match us, hl with | [_, _], _ => rfl, PySem.W.mg_of X G F__law_begins.ns⟩
    f__law_by := f_law_by
    d__law_by := _
    h__law_by := ⟨F__law_by.fn, F__law_by.fn.binds fun _ _ _ _ _ _ us hl => match us, hl with | [_, _], _ => rfl, PySem.W.mg_of X G F__law_by.ns⟩
    f__law_later := f_law_later
    d__law_later := _
    h__law_later := ⟨F__law_later.fn, F__law_later.fn.binds fun _ _ _ _ _ _ us hl => match us, hl with | [_, _, _], _ => rfl, PySem.W.mg_of X G F__law_later.ns⟩
    f__law_is := f_law_is
    d__law_is := _
    h__law_is := ⟨F__law_is.fn, F__law_is.fn.binds fun _ _ _ _ _ _ us hl => match us, hl with | [_, _, _, _], _ => rfl, PySem.W.mg_of X G F__law_is.ns⟩
    f__law_same := f_law_same
    d__law_same := _
    h__law_same := ⟨F__law_same.fn, F__law_same.fn.binds fun _ _ _ _ _ _ us hl => match us, hl with | [_, _, _], _ => rfl, PySem.W.mg_of X G F__law_same.ns⟩
    f__law_others := f_law_others
    d__law_others := _
    h__law_others := ⟨F__law_others.fn, F__law_others.fn.binds fun _ _ _ _ _ _ us hl => match us, hl with | [_, _, _, _], _ => rfl, PySem.W.mg_of X G F__law_others.ns⟩
    f__law_equal_right := f_law_equal_right
    d__law_equal_right := _
    h__law_equal_right := ⟨F__law_equal_right.fn, F__law_equal_right.fn.binds fun _ _ _ _ _ _ us hl => match us, hl with | [_, _, _, _, _], _ => rfl, PySem.W.mg_of X G F__law_equal_right.ns⟩
    f__law_refused := f_law_refused
    d__law_refused := _
    h__law_refused := ⟨F__law_refused.fn, F__law_refused.fn.binds fun _ _ _ _ _ _ us hl => match us, hl with | [_, _], _ => rfl, PySem.W.mg_of X G F__law_refused.ns⟩ }
  exact ⟨_, fun s v => .of_eq rfl, fun base _ _ => ok_law A F_law.fn⟩
end K44
open PySem PySem.W PyProof.Rows
set_option maxHeartbeats 0 in
theorem PySem.Challenge.cw_lightturns_k44_moved_equal_shown_holds : PySem.Challenge.rw_lightturns_k44_moved_equal_shown.Holds := by
  w_on; o_law; k_head; (case hw => w_witness2)
  k_fill
  refine LT.end_of (l := PySem.Challenge.rw_lightturns_k44_moved_equal_shown) (n := 63) (k := 8) (x := "_law_script") (CX := fun _ => L2.CX0) (sp := fun w => K44.spLaw _) rfl (by decide) rfl ⟨rfl, by decide, by decide⟩ (fun w h Y => PySem.W.kIn_of Y) ?F (fun _ _ a ns hl hb _ hS => ⟨a, ns, rfl, hS, hl, fun _ => rfl⟩) (fun _ _ _ _ _ h => h)
  case F =>
    intro w mg fa h KX G hmg
    refine' K44.all_mk (l := PySem.Challenge.rw_lightturns_k44_moved_equal_shown) KX G hmg ⟨?d_n_LightsError, ?d_n_Wrong, ?d_n_Barred, ?d_n_NoNumber, ?d_n_NoRound, ?d_n_NoSlot, ?d_n_Round, ?d_i_LightsError, ?d_ty_LightsError, ?d_i_Wrong, ?d_ty_Wrong, ?d_i_Barred, ?d_ty_Barred, ?d_i_NoNumber, ?d_ty_NoNumber, ?d_i_NoRound, ?d_ty_NoRound, ?d_i_NoSlot, ?d_ty_NoSlot, ?d_sb_LightsError, ?d_cn, ?d_ct, ?d_eg_NoRound, ?d_ek_NoRound, ?d_ed_NoRound, ?d_ea_NoRound, ?d_em_NoRound, ?d_x_NoSlot, ?d_k_NoSlot, ?d_b_NoSlot, ?d_eg_NoSlot, ?d_ek_NoSlot, ?d_ed_NoSlot, ?d_ea_NoSlot, ?d_em_NoSlot, ?d_sv_NoSlot, ?d_x_NoNumber, ?d_k_NoNumber, ?d_b_NoNumber, ?d_eg_NoNumber, ?d_ek_NoNumber, ?d_ed_NoNumber, ?d_ea_NoNumber, ?d_em_NoNumber, ?d_sv_NoNumber, ?d_s_NoRound_Barred, ?d_q_NoRound_Barred, ?d_s_NoRound_NoSlot, ?d_q_NoRound_NoSlot, ?d_s_NoRound_NoNumber, ?d_q_NoRound_NoNumber, ?d_s_NoRound_Wrong, ?d_s_NoSlot_Barred, ?d_q_NoSlot_Barred, ?d_s_NoSlot_NoRound, ?d_q_NoSlot_NoRound, ?d_s_NoSlot_NoNumber, ?d_q_NoSlot_NoNumber, ?d_s_NoSlot_Wrong, ?d_s_NoNumber_Barred, ?d_q_NoNumber_Barred, ?d_s_NoNumber_NoRound, ?d_q_NoNumber_NoRound, ?d_s_NoNumber_NoSlot, ?d_q_NoNumber_NoSlot, ?d_s_NoNumber_Wrong, ?d_s_NoRound_LightsError, ?d_s_NoSlot_LightsError, ?d_s_NoNumber_LightsError, ?d_pg_Round, ?d_hd_Round, ?d_po_Round, ?d_sa_Round, ?d_kC_Round, ?d_mk_Round, ?d_f_Round_slots_on, ?d_f_Round_slots_off, ?d_f_Round_first_slots, ?d_cm_Round, ?d_ca_Round, ?d_iC_Round, ?d_tC_Round, ?d_kt_Round_NoneType, ?d_kt_Round_bool, ?d_kt_Round_int, ?d_kt_Round_str, ?d_kt_Round_list, ?d_kt_Round_tuple, ?d_kt_Round_dict, ?d_ne_Round, ?d_st_Round_NoneType, ?d_st_Round_bool, ?d_st_Round_int, ?d_st_Round_str, ?d_st_Round_list, ?d_st_Round_tuple⟩ ⟨?e_NoRound_lk, ?e_NoRound_rv, ?e_NoRound_sa, ?e_NoRound_exC, ?e_NoRound_tyC, ?e_NoRound_kC, ?e_NoRound_cell, ?e_NoRound_code, ?e_NoRound_v2, ?e_NoRound_file, ?e_NoRound_hsub, ?e_NoRound_sup, ?e_NoRound_sB, ?e_NoRound_op, ?e_NoRound_cd, ?e_NoRound_fn, ?e_NoRound_hno, ?e_NoRound_ini, ?e_NoRound_tI⟩ ⟨?m_Round___init___at, ?m_Round___init___lk, ?m_Round___init___cd, ?m_Round___init___kp, ?m_Round___init___isf⟩ ⟨?m_Round_on_at, ?m_Round_on_lk, ?m_Round_on_cd, ?m_Round_on_kp, ?m_Round_on_isf⟩ ⟨?m_Round_off_at, ?m_Round_off_lk, ?m_Round_off_cd, ?m_Round_off_kp, ?m_Round_off_isf⟩ ⟨?m_Round_begins_at, ?m_Round_begins_lk, ?m_Round_begins_cd, ?m_Round_begins_kp, ?m_Round_begins_isf⟩ ⟨?m_Round_on_in_at, ?m_Round_on_in_lk, ?m_Round_on_in_cd, ?m_Round_on_in_kp, ?m_Round_on_in_isf⟩ ⟨?m_Round_least_at, ?m_Round_least_lk, ?m_Round_least_cd, ?m_Round_least_kp, ?m_Round_least_isf⟩ ⟨?m_Round_moved_at, ?m_Round_moved_lk, ?m_Round_moved_cd, ?m_Round_moved_kp, ?m_Round_moved_isf⟩ ⟨?m_Round___eq___at, ?m_Round___eq___lk, ?m_Round___eq___cd, ?m_Round___eq___kp, ?m_Round___eq___isf⟩ ⟨?m_Round___len___at, ?m_Round___len___lk, ?m_Round___len___cd, ?m_Round___len___kp, ?m_Round___len___isf⟩ ⟨?m_Round___repr___at, ?m_Round___repr___lk, ?m_Round___repr___cd, ?m_Round___repr___kp, ?m_Round___repr___isf⟩ ⟨?f_is_whole_ns, ?f_is_whole_lk, ?f_is_whole_cd, ?f_is_whole_kp⟩ ⟨?f_is_from_ns, ?f_is_from_lk, ?f_is_from_cd, ?f_is_from_kp⟩ ⟨?f_is_within_ns, ?f_is_within_lk, ?f_is_within_cd, ?f_is_within_kp⟩ ⟨?f_check_turns_ns, ?f_check_turns_lk, ?f_check_turns_cd, ?f_check_turns_kp⟩ ⟨?f_are_begins_ns, ?f_are_begins_lk, ?f_are_begins_cd, ?f_are_begins_kp⟩ ⟨?f__law_cell_ns, ?f__law_cell_lk, ?f__law_cell_cd, ?f__law_cell_kp⟩ ⟨?f__law_pot_ns, ?f__law_pot_lk, ?f__law_pot_cd, ?f__law_pot_kp⟩ ⟨?f__law_take_ns, ?f__law_take_lk, ?f__law_take_cd, ?f__law_take_kp⟩ ⟨?f__law_number_ns, ?f__law_number_lk, ?f__law_number_cd, ?f__law_number_kp⟩ ⟨?f__law_begin_ns, ?f__law_begin_lk, ?f__law_begin_cd, ?f__law_begin_kp⟩ ⟨?f__law_turn_ns, ?f__law_turn_lk, ?f__law_turn_cd, ?f__law_turn_kp⟩ ⟨?f__law_begins_ns, ?f__law_begins_lk, ?f__law_begins_cd, ?f__law_begins_kp⟩ ⟨?f__law_by_ns, ?f__law_by_lk, ?f__law_by_cd, ?f__law_by_kp⟩ ⟨?f__law_later_ns, ?f__law_later_lk, ?f__law_later_cd, ?f__law_later_kp⟩ ⟨?f__law_is_ns, ?f__law_is_lk, ?f__law_is_cd, ?f__law_is_kp⟩ ⟨?f__law_same_ns, ?f__law_same_lk, ?f__law_same_cd, ?f__law_same_kp⟩ ⟨?f__law_others_ns, ?f__law_others_lk, ?f__law_others_cd, ?f__law_others_kp⟩ ⟨?f__law_equal_right_ns, ?f__law_equal_right_lk, ?f__law_equal_right_cd, ?f__law_equal_right_kp⟩ ⟨?f__law_refused_ns, ?f__law_refused_lk, ?f__law_refused_cd, ?f__law_refused_kp⟩ ⟨?f_law_ns, ?f_law_lk, ?f_law_cd, ?f_law_kp⟩ ?p_T ?y_MOST_KEEPERS ?z_isinstance ?z_int ?z_bool ?z_len ?z_abs ?z_max ?z_min ?z_divmod ?z_range ?z_repr ?z_zip ?z_ValueError ?z_all ?z_any ?z_sum ?z_sorted ?z_list ?z_tuple ?z_dict ?z_enumerate ?z_reversed ?z_str ?z_set ?z_super
    (case d_n_LightsError => k_is)
    (case d_n_Wrong => k_is)
    (case d_n_Barred => k_is)
    (case d_n_NoNumber => k_is)
    (case d_n_NoRound => k_is)
    (case d_n_NoSlot => k_is)
    (case d_n_Round => k_is)
    (case m_Round___init___at => k_is)
    (case m_Round_on_at => k_is)
    (case m_Round_off_at => k_is)
    (case m_Round_begins_at => k_is)
    (case m_Round_on_in_at => k_is)
    (case m_Round_least_at => k_is)
    (case m_Round_moved_at => k_is)
    (case m_Round___eq___at => k_is)
    (case m_Round___len___at => k_is)
    (case m_Round___repr___at => k_is)
    (case f_is_whole_ns => k_is)
    (case f_is_from_ns => k_is)
    (case f_is_within_ns => k_is)
    (case f_check_turns_ns => k_is)
    (case f_are_begins_ns => k_is)
    (case f__law_cell_ns => k_is)
    (case f__law_pot_ns => k_is)
    (case f__law_take_ns => k_is)
    (case f__law_number_ns => k_is)
    (case f__law_begin_ns => k_is)
    (case f__law_turn_ns => k_is)
    (case f__law_begins_ns => k_is)
    (case f__law_by_ns => k_is)
    (case f__law_later_ns => k_is)
    (case f__law_is_ns => k_is)
    (case f__law_same_ns => k_is)
    (case f__law_others_ns => k_is)
    (case f__law_equal_right_ns => k_is)
    (case f__law_refused_ns => k_is)
    (case f_law_ns => k_is)
    (case y_MOST_KEEPERS => k_is)
    (case e_NoRound_lk => k_is)
    (case e_NoRound_ini => k_is)
    (case e_NoRound_fn => k_is)
    (case m_Round___init___lk => k_is)
    (case m_Round_on_lk => k_is)
    (case m_Round_off_lk => k_is)
    (case m_Round_begins_lk => k_is)
    (case m_Round_on_in_lk => k_is)
    (case m_Round_least_lk => k_is)
    (case m_Round_moved_lk => k_is)
    (case m_Round___eq___lk => k_is)
    (case m_Round___len___lk => k_is)
    (case m_Round___repr___lk => k_is)
    (case f_is_whole_lk => k_is)
    (case f_is_from_lk => k_is)
    (case f_is_within_lk => k_is)
    (case f_check_turns_lk => k_is)
    (case f_are_begins_lk => k_is)
    (case f__law_cell_lk => k_is)
    (case f__law_pot_lk => k_is)
    (case f__law_take_lk => k_is)
    (case f__law_number_lk => k_is)
    (case f__law_begin_lk => k_is)
    (case f__law_turn_lk => k_is)
    (case f__law_begins_lk => k_is)
    (case f__law_by_lk => k_is)
    (case f__law_later_lk => k_is)
    (case f__law_is_lk => k_is)
    (case f__law_same_lk => k_is)
    (case f__law_others_lk => k_is)
    (case f__law_equal_right_lk => k_is)
    (case f__law_refused_lk => k_is)
    (case f_law_lk => k_is)
    (case e_NoRound_cell => k_is)
    (case e_NoRound_code => k_is)
    (case e_NoRound_v2 => rfl)
    (case e_NoRound_rv => kernel_rfl)
    (case e_NoRound_sa => k_is)
    (case e_NoRound_exC => k_is)
    (case e_NoRound_tyC => k_is)
    (case e_NoRound_kC => k_is)
    (case e_NoRound_file => decide +kernel)
    (case e_NoRound_hsub => k_is)
    (case e_NoRound_sup => ks_is)
    (case e_NoRound_sB => k_is)
    (case e_NoRound_op => k_is)
    (case e_NoRound_cd => k_is)
    (case e_NoRound_hno => k_is)
    (case e_NoRound_tI => k_is)
    (case d_i_LightsError => k_is)
    (case d_ty_LightsError => k_is)
    (case d_i_Wrong => k_is)
    (case d_ty_Wrong => k_is)
    (case d_i_Barred => k_is)
    (case d_ty_Barred => k_is)
    (case d_i_NoNumber => k_is)
    (case d_ty_NoNumber => k_is)
    (case d_i_NoRound => k_is)
    (case d_ty_NoRound => k_is)
    (case d_i_NoSlot => k_is)
    (case d_ty_NoSlot => k_is)
    (case d_sb_LightsError => k_is)
    (case d_cn => k_is)
    (case d_ct => k_is)
    (case d_eg_NoRound => k_is)
    (case d_ek_NoRound => k_is)
    (case d_ed_NoRound => k_is)
    (case d_ea_NoRound => k_is)
    (case d_em_NoRound => k_is)
    (case d_x_NoSlot => k_exc)
    (case d_k_NoSlot => k_is)
    (case d_b_NoSlot => k_is)
    (case d_eg_NoSlot => k_is)
    (case d_ek_NoSlot => k_is)
    (case d_ed_NoSlot => k_is)
    (case d_ea_NoSlot => k_is)
    (case d_em_NoSlot => k_is)
    (case d_sv_NoSlot => k_is)
    (case d_x_NoNumber => k_exc)
    (case d_k_NoNumber => k_is)
    (case d_b_NoNumber => k_is)
    (case d_eg_NoNumber => k_is)
    (case d_ek_NoNumber => k_is)
    (case d_ed_NoNumber => k_is)
    (case d_ea_NoNumber => k_is)
    (case d_em_NoNumber => k_is)
    (case d_sv_NoNumber => k_is)
    (case d_s_NoRound_Barred => k_is)
    (case d_q_NoRound_Barred => rfl)
    (case d_s_NoRound_NoSlot => k_is)
    (case d_q_NoRound_NoSlot => rfl)
    (case d_s_NoRound_NoNumber => k_is)
    (case d_q_NoRound_NoNumber => rfl)
    (case d_s_NoRound_Wrong => k_is)
    (case d_s_NoSlot_Barred => k_is)
    (case d_q_NoSlot_Barred => rfl)
    (case d_s_NoSlot_NoRound => k_is)
    (case d_q_NoSlot_NoRound => rfl)
    (case d_s_NoSlot_NoNumber => k_is)
    (case d_q_NoSlot_NoNumber => rfl)
    (case d_s_NoSlot_Wrong => k_is)
    (case d_s_NoNumber_Barred => k_is)
    (case d_q_NoNumber_Barred => rfl)
    (case d_s_NoNumber_NoRound => k_is)
    (case d_q_NoNumber_NoRound => rfl)
    (case d_s_NoNumber_NoSlot => k_is)
    (case d_q_NoNumber_NoSlot => rfl)
    (case d_s_NoNumber_Wrong => k_is)
    (case d_s_NoRound_LightsError => k_is)
    (case d_s_NoSlot_LightsError => k_is)
    (case d_s_NoNumber_LightsError => k_is)
    (case d_pg_Round => k_is)
    (case d_hd_Round => k_is)
    (case d_po_Round => k_is)
    (case d_sa_Round => k_is)
    (case d_kC_Round => k_is)
    (case d_mk_Round => k_is)
    (case d_f_Round_slots_on => k_is)
    (case d_f_Round_slots_off => k_is)
    (case d_f_Round_first_slots => k_is)
    (case d_cm_Round => k_is)
    (case d_ca_Round => k_is)
    (case d_iC_Round => k_is)
    (case d_tC_Round => k_is)
    (case d_kt_Round_NoneType => k_is)
    (case d_kt_Round_bool => k_is)
    (case d_kt_Round_int => k_is)
    (case d_kt_Round_str => k_is)
    (case d_kt_Round_list => k_is)
    (case d_kt_Round_tuple => k_is)
    (case d_kt_Round_dict => k_is)
    (case d_ne_Round => k_is)
    (case d_st_Round_NoneType => k_is)
    (case d_st_Round_bool => k_is)
    (case d_st_Round_int => k_is)
    (case d_st_Round_str => k_is)
    (case d_st_Round_list => k_is)
    (case d_st_Round_tuple => k_is)
    (case m_Round___init___cd => k_is)
    (case m_Round___init___kp => k_is)
    (case m_Round___init___isf => k_is)
    (case m_Round_on_cd => k_is)
    (case m_Round_on_kp => k_is)
    (case m_Round_on_isf => k_is)
    (case m_Round_off_cd => k_is)
    (case m_Round_off_kp => k_is)
    (case m_Round_off_isf => k_is)
    (case m_Round_begins_cd => k_is)
    (case m_Round_begins_kp => k_is)
    (case m_Round_begins_isf => k_is)
    (case m_Round_on_in_cd => k_is)
    (case m_Round_on_in_kp => k_is)
    (case m_Round_on_in_isf => k_is)
    (case m_Round_least_cd => k_is)
    (case m_Round_least_kp => k_is)
    (case m_Round_least_isf => k_is)
    (case m_Round_moved_cd => k_is)
    (case m_Round_moved_kp => k_is)
    (case m_Round_moved_isf => k_is)
    (case m_Round___eq___cd => k_is)
    (case m_Round___eq___kp => k_is)
    (case m_Round___eq___isf => k_is)
    (case m_Round___len___cd => k_is)
    (case m_Round___len___kp => k_is)
    (case m_Round___len___isf => k_is)
    (case m_Round___repr___cd => k_is)
    (case m_Round___repr___kp => k_is)
    (case m_Round___repr___isf => k_is)
    (case f_is_whole_cd => k_is)
    (case f_is_whole_kp => k_is)
    (case f_is_from_cd => k_is)
    (case f_is_from_kp => k_is)
    (case f_is_within_cd => k_is)
    (case f_is_within_kp => k_is)
    (case f_check_turns_cd => k_is)
    (case f_check_turns_kp => k_is)
    (case f_are_begins_cd => k_is)
    (case f_are_begins_kp => k_is)
    (case f__law_cell_cd => k_is)
    (case f__law_cell_kp => k_is)
    (case f__law_pot_cd => k_is)
    (case f__law_pot_kp => k_is)
    (case f__law_take_cd => k_is)
    (case f__law_take_kp => k_is)
    (case f__law_number_cd => k_is)
    (case f__law_number_kp => k_is)
    (case f__law_begin_cd => k_is)
    (case f__law_begin_kp => k_is)
    (case f__law_turn_cd => k_is)
    (case f__law_turn_kp => k_is)
    (case f__law_begins_cd => k_is)
    (case f__law_begins_kp => k_is)
    (case f__law_by_cd => k_is)
    (case f__law_by_kp => k_is)
    (case f__law_later_cd => k_is)
    (case f__law_later_kp => k_is)
    (case f__law_is_cd => k_is)
    (case f__law_is_kp => k_is)
    (case f__law_same_cd => k_is)
    (case f__law_same_kp => k_is)
    (case f__law_others_cd => k_is)
    (case f__law_others_kp => k_is)
    (case f__law_equal_right_cd => k_is)
    (case f__law_equal_right_kp => k_is)
    (case f__law_refused_cd => k_is)
    (case f__law_refused_kp => k_is)
    (case f_law_cd => k_is)
    (case f_law_kp => k_is)
    (case p_T => decide +kernel)
    (case z_isinstance => k_is)
    (case z_int => k_is)
    (case z_bool => k_is)
    (case z_len => k_is)
    (case z_abs => k_is)
    (case z_max => k_is)
    (case z_min => k_is)
    (case z_divmod => k_is)
    (case z_range => k_is)
    (case z_repr => k_is)
    (case z_zip => k_is)
    (case z_ValueError => k_is)
    (case z_all => k_is)
    (case z_any => k_is)
    (case z_sum => k_is)
    (case z_sorted => k_is)
    (case z_list => k_is)
    (case z_tuple => k_is)
    (case z_dict => k_is)
    (case z_enumerate => k_is)
    (case z_reversed => k_is)
    (case z_str => k_is)
    (case z_set => k_is)
    (case z_super => k_is)

