import PyProof.Rows.All
import Wide.All
import OpenK.AllK
import Wide.FinOn
import HandS.ForMost
import HandS.IsInst
import HandS.Wide
import HandS.WideBits
import HandS.EndBits
import HandS.Style
import HandS.RaiseMore
import PyProof.ReprRoads
import PyProof.ListStr
import HandS.ForExc
import HandS.Exc
import HandS.ExcIs
import HandS.CallSlots
import HandS.HotCalls
import HandS.Defaults
import HandS.MakeKw
import HandS.MakeKwOnly
import PyProof.EqKinds
import PyProof.NeKinds
import KE.KFmtOwn
import HandS.OwnEq
import HandS.Lambda
import KE.SortKeyHeap
import PyProof.TupleOfSeq
import HandS.Strs
import HandS.SetFor
import HandS.Walk
import PyProof.Rows.SortShellAny
import PyProof.ReprLen
import HandS.EndTab
import HandS.Star
import HandS.FStr
import HandS.Flow
import PySem.Challenge.RW_lightturns_k14_either_both_only
set_option Elab.async false
set_option linter.all false
set_option maxRecDepth 100000
/-! Own layer: defs called where no repr is under way (FnG), repr of data, the end of a law by such a def. -/
namespace LT
open PySem PySem.Spec PyProof.Rows L2

structure FnG (P : Program) (w : World) (K : PySem.W.Frag) (mg : Str → Option Value) (base : Heap)
    (CX : CXT) (k : Nat) (f : Addr) (fd : FuncData) (ps : List Str) (sp : Sp) : Prop where
  argc : ∀ {vs : List V} {H : Hp} {Q : VK} {E : XK}, sp vs H Q E → vs.length = ps.length
  go : ∀ {A : Around} {outer : List Env} {s : Shared} {H : Hp} {args : Args} {us : List Value} {vs : List V}
    {Q : VK} {E : XK}, A.guards = some [] → Room k A → Env0 P w K mg base A outer s H →
    BindsTo s fd args (ps.zip us) → Vals vs us → sp vs H Q E →
    codeAny (model P w) A (.call (.ref f) args) (CR CX outer P w H s Q E) s

section
variable {P : Program} {w : World} {K : PySem.W.Frag} {mg : Str → Option Value} {base : Heap}
theorem FnG.of {CX : CXT} {k : Nat} {f : Addr} {fd : FuncData} {ps : List Str} {sp : Sp}
    (F : FnOk P w K mg base CX k f fd ps sp) : FnG P w K mg base CX k f fd ps sp :=
  ⟨fun h => F.len _ _ _ _ h, fun _ hr e b v h => F.run _ _ _ _ _ _ _ _ _ hr e b v h⟩

theorem okG {x qual : Str} {st : Stmt} {f : Addr} {fd : FuncData} {N ps : List Str} {k : Nat} {sp : Sp}
    (F : Fun K x qual st f fd) (S : FnScope N ps (defScope st))
    (argc : ∀ {vs : List V} {H : Hp} {Q : VK} {E : XK}, sp vs H Q E → vs.length = ps.length)
    (body : ∀ (cdv : Value) (A : Around) (outer : List Env) (s : Shared) (H : Hp) (vs : List V) (Q : VK) (E : XK),
      A.guards = some [] → Room k (A.deeper (envOfC qual (defScope st) s.heap.objs.size f cdv)) → sp vs H Q E →
      ∃ t, PSs (cxOf CX0 P w K mg base N qual (defScope st) f cdv A outer s H E).nox (defBody st) t ∧
        t { nx := fun _ H' => Q .non H', rt := Q } (start N vs) H) :
    FnG P w K mg base CX0 (k + 1) f fd ps sp := by
  obtain ⟨oc, od, kV, doc, pm, an, cdv, ct, osl, rfl, lk, hcd⟩ := F.ex
  refine ⟨argc, ?_⟩
  intro A outer s H args us vs Q E hg hr e0 hb r hsp
  have inS : ∀ b o, base.get? b = some o → s.heap.get? b = some o := fun b o e => (e0.bs b o e).1
  have KX : K.In s.heap := e0.mod.kin.keeps inS
  have hkind : ∀ y ∈ ps.zip us, (defScope st).names.lookup y.1 = some .local ∨
      ((defScope st).names.lookup y.1 = some .cell ∧
        ((cellsFrom (s.heap.objs.size + 1) (defScope st).names []).lookup y.1).isSome = true) := by
    rintro ⟨n, v⟩ hy
    rcases S.par n (List.of_mem_zip hy).1 with q | q
    · exact Or.inl q
    · exact Or.inr ⟨q, PySem.W.cellsFrom_some _ _ _ (Or.inl q)⟩
  refine codeAny_call_function hr.depth (KX _ _ lk) rfl S.co S.gen rfl (PySem.W.codeRec_of KX hcd)
    (hb _ _ _ _ (wpAny_newFunctionEnv_cells S.kind hkind fun env he s1 x => ?_))
  subst he
  refine ⟨(e0.mod.nolimit.keeps inS).keeps x.toInCall.keep, codeAny_func ?_⟩
  obtain ⟨t, ht, hq⟩ := body cdv A outer s H vs Q E hg (hr.deeper _) hsp
  have I := inv_start (CX := CX0) (N := N) (qual := qual) (f := f) (cd := cdv) (E := E) S hr.hd e0 (argc hsp) r x
  refine wpAny_mono (ht.nox.run [] s1 (start N vs) H _ I hq) (fun fl s' hs => ?_) (fun e s' hs => hs)
  cases fl with
  | brk => obtain ⟨_, _, _, q⟩ := hs; exact q.elim
  | cont => obtain ⟨_, _, _, q⟩ := hs; exact q.elim
  | next =>
    obtain ⟨σ', H', J, q⟩ := hs
    exact ⟨V.non, H', J.os, J.bare, J.base, J.hok, rfl, q⟩
  | ret u =>
    obtain ⟨v, σ', H', J, rv, q⟩ := hs
    exact ⟨v, H', J.os, J.bare, J.base, J.hok, rv, q⟩
end

/-! ### the call of such a def -/
section
variable {X : Cx} {CX : CXT} {k : Nat} {f : Addr} {fd : FuncData} {ps : List Str} {sp : Sp} {dvs : List V}
  {ds : List Value} {E : XK} {x : Str} {p pos : Pos} {e : Expr} {es : List Expr} {t : TA}
theorem runG {pins : List (Addr × Obj)} {σ : L2.St} {H : Hp} {s : Shared} {Q : VK} {us : List Value} {vs : List V}
    (F : FnG X.prog X.w X.K X.mg X.base CX k f fd ps sp) (hg : X.A.guards = some []) (hr : Room k X.A)
    (hb : Binds X.K fd ps ds) (hd : Vals dvs ds) (hx : Passes CX X E)
    (I : Inv X pins σ H s) (r : Vals vs us) (h : sp (vs ++ dvs) H Q E) :
    wpAny (model X.prog X.w) X.A (call (.ref f) us) (EP X pins σ Q) X.xe s := by
  have r2 : Vals (vs ++ dvs) (us ++ ds) := r.append hd
  have hl : (us ++ ds).length = ps.length := r2.length.symm.trans (F.argc h)
  refine wpAny_call (codeAny_mono (F.go hg hr I.env0 (hb s us I.kIn hl) r2 h) fun r s' hq => ?_)
  match r, hq with
  | .error e, hq => exact hx pins σ H s e s' I hq
  | .ok (.ret u), hq => exact I.after hq
  | .ok .next, hq => exact hq.elim
  | .ok .brk, hq => exact hq.elim
  | .ok .cont, hq => exact hq.elim
theorem pe_callG (F : FnG X.prog X.w X.K X.mg X.base CX k f fd ps sp) (hG : X.A.guards = some []) (hr : Room k X.A)
    (hg : Gl X x) (hm : X.mg x = some (.ref f)) (hk : PySem.W.keepIn X.K (.ref f) = true) (hb : Binds X.K fd ps ds)
    (hd : Vals dvs ds) (hx : Passes CX X E) (ha : PA X (e :: es) t)
    (hdb : (x == ("__debug__" : Str)) = false := by decide)
    (he : starEach (e :: es) X.env = (false, eval e X.env) :: starEach es X.env := by rfl)
    (hpl : (backTo pos (starEach es X.env)).any (·.1) = false := by rfl) :
    PE X (.Call (.Name x p) (e :: es) [] pos) (tCall sp dvs E t) := by
  refine ⟨fun pins s σ H Q I h => wpAny_Call_Name_kw (ld_glob I hg hm ?_ hdb)⟩
  refine PySem.W.callWith_K (h₀ := X.base) I.ok.mod.kin hk ?_ he hpl
  exact thn (ha.run pos pins s σ H _ I h) fun us s1 ⟨vs, H1, I1, r, q⟩ => ⟨I1.kIn, runG F hG hr hb hd hx I1 r q⟩

/-- f(k = v, ..), keywords alone -/
theorem pe_callKw {ks : List Str} {kws : List Keyword} {tk : TA} {g : List Value → List Value → List Value} {gV : List V → List V → List V}
    (F : FnOk X.prog X.w X.K X.mg X.base CX k f fd ps sp) (hr : Room k X.A) (hg : Gl X x) (hm : X.mg x = some (.ref f))
    (hk : PySem.W.keepIn X.K (.ref f) = true) (hb : KBinds X.K fd ps ks g gV) (hx : Passes CX X E) (hkw : PK X kws tk)
    (hall : (backToKw pos (keywordEach kws X.env)).all (·.1.isSome) = true := by rfl)
    (hks : (backToKw pos (keywordEach kws X.env)).filterMap (·.1) = ks := by rfl)
    (hdb : (x == ("__debug__" : Str)) = false := by decide)
    (hpl : ((backTo pos (starEach [] X.env)).any (·.1) || (backToKw pos (keywordEach kws X.env)).any (·.1.isNone)) = false := by rfl) :
    PE X (.Call (.Name x p) [] kws pos) (tCallK sp gV E tNil tk) := by
  refine ⟨fun pins s σ H Q I h => wpAny_Call_Name_kw (ld_glob I hg hm ?_ hdb)⟩
  refine PySem.W.callWith_KW0 (h₀ := X.base) I.ok.mod.kin hk hall ?_ hpl
  refine thn (hkw.run pos pins s σ H _ I h) fun ws s2 ⟨zs, H2, I2, rz, q2⟩ => ⟨I2.kIn, ?_⟩
  rw [hks]
  exact run_fnk (us := []) F hr hb hx I2 .nil rz q2
/-- positional values, then those of keywords, in the order of the parameters -/
theorem kb_of {K : PySem.W.Frag} {y qual : Str} {st : Stmt} {f : Addr} {fd : FuncData} {ps ks : List Str} (F : Fun K y qual st f fd)
    (h : ∀ (kV doc pm : Value) (an : Option Addr) (cdv ct : Value) (us ws : List Value), (us ++ ws).length = ps.length →
      bindArgs (PySem.W.fnOf y qual (defArgs st) (defBody st) (defScope st) .none kV doc pm an cdv ct) ⟨us, ks.zip ws⟩ = pure (ps.zip (us ++ ws))) :
    KBinds K fd ps ks (· ++ ·) (· ++ ·) := by
  obtain ⟨oc, od, kV, doc, pm, an, cdv, ct, osl, rfl, lk, hcd⟩ := F.ex
  exact ⟨fun s us ws _ hl => .of_eq (h kV doc pm an cdv ct us ws hl), fun r z => r.append z⟩
end

/-! ### repr of data -/
inductive Sh (K : PySem.W.Frag) (H : Hp) : V → PyData → Prop
  | dp {v : V} {d : PyData} : Dp K H v d → d.hasDict = false → Sh K H v d
  | one {a : Addr} {k : Str} {i : Int} : H a = some (.dK [(.inr k, .int i)]) → Sh K H (.ref a) (.dict [(.str k, .int i)])
section
variable {X : Cx} {pins : List (Addr × Obj)} {σ : L2.St} {H : Hp} {s : Shared}
theorem Sh.reads (I : Inv X pins σ H s) {v : V} {d : PyData} {u : Value} (h : Sh X.K H v d) (r : RelV v u) :
    ∃ as, Reads s.heap u d as ∧ (d.hasDict = true → sysModules ∉ as) := by
  cases h with
  | dp h hd =>
    obtain ⟨as, q⟩ := Dp.reads I d v u h r
    exact ⟨as, q, PyData.noDict_hsm hd⟩
  | one h =>
    rename_i a k i
    cases r
    obtain ⟨_, hs, vs, rel, o, es, ep, ho, hx, hd, hko, hp, hn⟩ := I.hok a _ h
    cases rel with
    | cons r1 r2 =>
      cases r2
      rename_i kv
      obtain ⟨kk, uu⟩ := kv
      obtain ⟨e1, t, e2⟩ := r1
      cases e1
      cases e2
      generalize hes : es.toList = l at hp
      cases hp with
      | cons k1 k2 k3 =>
        cases k3
        rename_i e
        have k0 : keyIs (Sum.inr k) e.key = true := k1
        obtain ⟨_, _, z, _⟩ | ⟨y, t', z, e3⟩ := keyIs_shape k0
        · cases z
        · cases z
          refine ⟨_, Reads.dict (as := []) (bs := []) ho hx.1 hd ?_ ?_, fun _ z => ?_⟩
          · rw [hes, List.map_cons, List.map_nil, e3]
            exact ReadsAll.cons (Reads.str _ _) .nil
          · rw [hes, List.map_cons, List.map_nil, k2]
            exact ReadsAll.cons (Reads.int _ _) .nil
          · have z2 : sysModules = a := by simpa using z
            rw [z2] at hs
            simp at hs
theorem call_reprSh (hG : X.A.guards = some []) (hu : X.A.units + 64 < cLine) : CallR X (.builtin "repr")
    (fun xs H Q => ∃ x d, xs = [x] ∧ Sh X.K H x d ∧ d.showable = true ∧ d.depth ≤ 60 ∧ d.shown.length ≤ sizeLine ∧
      Q (.str d.shown) H) := by
  intro pins s σ H xs us Q I r h
  obtain ⟨x, d, rfl, hs, sh, dp, sz, q⟩ := h
  obtain ⟨u, rfl, ru⟩ := vals1 r
  obtain ⟨as, rd, hm⟩ := hs.reads I ru
  cases rd with
  | none => exact PySem.P.repr_of_none ⟨.str _, H, I.tok _, ⟨_, rfl⟩, q⟩
  | bool b => exact PySem.P.repr_of_bool ⟨.str _, H, I.tok _, ⟨_, rfl⟩, q⟩
  | int i t => exact PySem.P.repr_of_int (of_decide_eq_true sh) ⟨.str _, H, I.tok _, ⟨_, rfl⟩, q⟩
  | str y t => exact PySem.P.repr_of_str ⟨.str _, H, I.tok _, ⟨_, rfl⟩, q⟩ sz
  | list h1 h2 h3 h4 =>
    exact repr_of_reads' (.list h1 h2 h3 h4) sh hm hG (by omega) (fun _ _ e => e) (fun h' u tk hk => ⟨.str _, H, I.kept hk, ⟨_, rfl⟩, q⟩) sz
  | tuple h1 h2 h3 h4 =>
    exact repr_of_reads' (.tuple h1 h2 h3 h4) sh hm hG (by omega) (fun _ _ e => e) (fun h' u tk hk => ⟨.str _, H, I.kept hk, ⟨_, rfl⟩, q⟩) sz
  | dict h1 h2 h3 h4 h5 =>
    exact repr_of_reads' (.dict h1 h2 h3 h4 h5) sh hm hG (by omega) (fun _ _ e => e) (fun h' u tk hk => ⟨.str _, H, I.kept hk, ⟨_, rfl⟩, q⟩) sz
end

/-! ### text * number, list(text) -/
section
variable {X : Cx}
theorem rep_list (a : Array Nat) : ∀ (n : Nat) (acc : Array Nat),
    ((List.replicate n a).foldl (· ++ ·) acc).toList = acc.toList ++ (List.replicate n a.toList).flatten
  | 0, acc => by simp
  | n + 1, acc => by
    rw [List.replicate_succ, List.foldl_cons, rep_list a n, List.replicate_succ, List.flatten_cons, Array.toList_append, List.append_assoc]
theorem rep_len (a : Str) (n : Nat) : (Str.mk ((List.replicate n a.cps).foldl (· ++ ·) #[])).length = n * a.length := by
  show Array.size _ = n * a.cps.size
  rw [← Array.length_toList, rep_list]
  simp [List.sum_replicate_nat]
theorem op_mul_str : OpR X (binaryOp .Mult) (fun x y H Q => ∃ (a : Str) (n : Int), x = .str a ∧ y = .int n ∧ 2 ≤ n ∧ n ≤ 1000 ∧ 1 ≤ a.length ∧ a.length ≤ 1000 ∧
    Q (.str ⟨(List.replicate n.toNat a.cps).foldl (· ++ ·) #[]⟩) H) := by
  intro pins s σ H x y v u Q I rx ry h
  obtain ⟨a, n, rfl, rfl, h2, hn, h1, ha, q⟩ := h
  obtain ⟨t, rfl⟩ := rx
  obtain ⟨t', rfl⟩ := ry
  have hz : a.length * n.toNat ≤ 1000000 := Nat.le_trans (Nat.mul_le_mul ha (show n.toNat ≤ 1000 by omega)) (by decide)
  refine PySem.P.mul_str ?_ (fun _ _ => ?_) (fun _ _ => ?_) ?_
  · rw [decide_eq_false (by omega), decide_eq_false (by omega)]
    rfl
  · have h3 : (1000 : Int) ≤ (2 ^ 63 - 1) / n := by
      rw [Int.le_ediv_iff_mul_le (by omega)]
      omega
    omega
  · exact decide_eq_false (by rw [sizeLine_eq]; omega)
  · rw [if_neg (by omega), if_neg]
    · refine ⟨?_, .str _, H, I.tok _, ⟨_, rfl⟩, q⟩
      rw [rep_len, sizeLine_eq, Nat.mul_comm]
      omega
    · rw [Bool.or_eq_true, beq_iff_eq, beq_iff_eq]
      omega
theorem paired_of {α β : Type} {R : α → β → Prop} : ∀ {xs : List α} {ys : List β}, xs.length = ys.length →
    (∀ (j : Nat) x y, xs[j]? = some x → ys[j]? = some y → R x y) → Paired R xs ys
  | [], [], _, _ => .nil
  | [], _ :: _, h, _ => by cases h
  | _ :: _, [], h, _ => by cases h
  | x :: xs, y :: ys, h, f => .cons (f 0 x y rfl rfl) (paired_of (Nat.succ.inj h) fun j a b h1 h2 => f (j + 1) a b h1 h2)
theorem call_list_txt (hc : X.calm = true) : CallR X (.type "list") (fun xs H Q => ∃ (a : Str), xs = [.str a] ∧ a.length ≤ sizeLine ∧
    ∀ l, H l = none → Q (.ref l) (upd H l (.lst (a.cps.toList.map fun c => V.str ⟨#[c]⟩)))) := by
  intro pins s σ H xs us Q I r h
  obtain ⟨a, rfl, hl, q⟩ := h
  obtain ⟨u, rfl, t, rfl⟩ := vals1 r
  refine call_list_str (I.ok.hd hc) a t (hn := hl) fun h' tk acc c hk ho hit => ?_
  have hn : H s.heap.objs.size = none := I.hok.fresh (Nat.le_refl _)
  refine ⟨.ref s.heap.objs.size, _, I.laid (t' := tk) hk (Nat.le_refl _) ?_, rfl, q _ hn⟩
  refine ⟨?_, acc.toList, c, ?_, by simpa using ho⟩
  · rw [List.length_map, Array.length_toList]
    exact hl
  · refine paired_of (by rw [List.length_map, Array.length_toList, Array.length_toList, hit.1]) fun j v u h1 h2 => ?_
    rw [List.getElem?_map, Array.getElem?_toList] at h1
    obtain ⟨d, t', h3, rfl⟩ := hit.2 j u (by rw [← Array.getElem?_toList]; exact h2)
    rw [h3] at h1
    cases h1
    exact ⟨t', rfl⟩
end

/-! ### the end of a law whose def wants that no repr is under way -/
theorem end_call {P : Program} {w : World} {K : PySem.W.Frag} {mg mb : Str → Option Value} {CX : CXT} {k : Nat} {fa a : Addr}
    {fd : FuncData} {x : Str} {sp : Sp} {s₁ : Shared} {vs : List Value} {ns : List Int}
    (KX : K.In s₁.heap) (hns : s₁.heap.Ns mainGlobals mg) (hb : s₁.heap.Ns builtinsNs mb)
    (hbb : ∀ x : Str, x ≠ "__name__" → mb x = bootBuiltins x) (hlim : s₁.heap.NoLimit) (hg : s₁.gens = #[])
    (ha : s₁.heap.get? a = some { cls := .type "list", data := .seq vs.toArray }) (hi : IntsAre vs ns)
    (hl : ns.length ≤ sizeLine) (hr : Room k callerA)
    (F : ∀ base : Heap, K.In base → base.Ns mainGlobals mg → FnG P w K mg base CX k fa fd [x] sp)
    (hbind : ∀ (s : Shared) (u : Value), BindsTo s fd ⟨[u], []⟩ [(x, u)])
    (hsp : ∀ H : Hp, Only H → SqL K H a (ns.map V.int) → sp [.ref a] H (fun v _ => v = .bl true) fun _ _ _ => False)
    (hCX : ∀ H e s', CX [] H s₁ (fun _ _ _ => False) e s' → False) :
    codeAny (model P w) callerA (.call (.ref fa) ⟨[.ref a], []⟩)
      (fun r s' => r = .ok (.ret (.bool true)) ∧ OldK s₁.heap s'.heap ∧ s'.os = s₁.os ∧ AllBare s'.gens) s₁ := by
  have lenV := hi.length
  have start : ∀ H : Hp, Only H → SqL K H a (ns.map V.int) → HOk P w H s₁.heap → (∀ b, H b ≠ none → b = a) →
      (H a ≠ none → K.lookup a = none) → codeAny (model P w) callerA (.call (.ref fa) ⟨[.ref a], []⟩)
        (fun r s' => r = .ok (.ret (.bool true)) ∧ OldK s₁.heap s'.heap ∧ s'.os = s₁.os ∧ AllBare s'.gens) s₁ := by
    intro H hO hS hok hA hK
    have free : ∀ {b : Addr}, (b = a → False) → H b = none := fun {b} hne => by
      cases q : H b with
      | none => rfl
      | some u => exact (hne (hA b (by rw [q]; exact Option.some_ne_none u))).elim
    have nsK : ∀ {b : Addr} {m : Str → Option Value}, s₁.heap.Ns b m → (hidT s₁.heap H).Ns b m := by
      rintro b m ⟨o, es, ep, e, d, r⟩
      refine ⟨o, es, ep, hidT_get e (free fun z => ?_), d, r⟩
      subst z
      rw [ha] at e
      cases e
      cases d
    have inK : K.In (hidT s₁.heap H) := fun b o e => hidT_get (KX b o e) (by
      cases q : H b with
      | none => rfl
      | some u =>
        obtain rfl : b = a := hA b (by rw [q]; exact Option.some_ne_none u)
        have z := hK (by rw [q]; exact Option.some_ne_none u)
        rw [z] at e
        cases e)
    have hM : Mod K mg (hidT s₁.heap H) := ⟨inK, nsK hns, ⟨mb, nsK hb, hbb⟩, hlim.imp fun _ z => ⟨nsK z.1, z.2⟩⟩
    have e0 : Env0 P w K mg (hidT s₁.heap H) callerA [] s₁ H :=
      ⟨rfl, hM, fun b o e => of_hidT e, Nat.le_of_eq (hidT_size _ _), trivial,
        fun b z => absurd (show b ∈ ([] : List Addr) from z) List.not_mem_nil, hok, .of_eq hg⟩
    refine codeAny_mono ((F _ inK (nsK hns)).go (us := [.ref a]) (vs := [.ref a]) rfl hr e0 (hbind s₁ (.ref a)) (.cons rfl .nil) (hsp H hO hS)) fun r s' h => ?_
    match r, h with
    | .error e, h => exact (hCX H e s' h).elim
    | .ok .next, h => exact h.elim
    | .ok .brk, h => exact h.elim
    | .ok .cont, h => exact h.elim
    | .ok (.ret u), h =>
      obtain ⟨v, H', os, bare, un, hok', r', rfl⟩ := h
      obtain rfl : u = Value.bool true := r'
      refine ⟨rfl, OldK.of_keep fun b o e => ?_, os, bare⟩
      rcases hO b with z | ⟨ob, xs, z⟩
      · exact un.keep b o e z (fun y => absurd (show b ∈ ([] : List Addr) from y) List.not_mem_nil) List.not_mem_nil
      · have z1 := (hok b _ z).1
        rw [e] at z1
        cases z1
        exact (hok' b _ (un.frzs b _ _ z)).1
  cases hk : K.lookup a with
  | some o =>
    have e := KX a o hk
    rw [ha] at e
    cases e
    refine start (fun _ => none) (fun _ => .inl rfl) (.inr ⟨_, vs.toArray, _, hk, rfl, rfl, rfl, ?_, by simpa using vals_ints hi⟩)
      (fun b u z => nomatch z) (fun b z => absurd rfl z) fun z => absurd rfl z
    rw [List.size_toArray, lenV]
    exact hl
  | none =>
    refine start (upd (fun _ => none) a (.frz { cls := .type "list", data := .seq vs.toArray } (.lst (ns.map V.int))))
      (fun b => ?_) (.inl (.inr ⟨_, upd_same⟩)) (fun b u z => ?_) (fun b z => ?_) fun _ => hk
    · by_cases q : b = a
      · exact .inr ⟨_, _, by rw [q]; exact upd_same⟩
      · exact .inl (upd_ne q)
    · by_cases q : b = a
      · subst q
        rw [upd_same] at z
        cases z
        exact ⟨ha, by rw [List.length_map]; exact hl, vs, _, vals_ints hi, ha⟩
      · rw [upd_ne q] at z
        cases z
    · by_cases q : b = a
      · exact q
      · exact absurd (upd_ne q) z

theorem end_of {l : PySem.W.OpenLaw} {n k : Nat} {q : Program} {loose : List Str} {XP : (Str → Option Value) → Heap → Prop}
    {YP : World → Heap → Prop} {d : DefRec} {K : Params → PySem.W.Frag} {CX : World → CXT} {sp : World → Sp} {x : Str}
    (hn : l.most = some n) (hn2 : n ≤ sizeLine) (hdf : d.params.defaults = []) (hr : Room k callerA)
    (hY : ∀ (w : World) (h : Heap), YP w h → (K w.params).In h)
    (F : ∀ (w : World) (mg : Str → Option Value) (fa : Addr) (h : Heap), (K w.params).In h → h.Ns mainGlobals mg →
      mg d.name = some (.ref fa) → ∃ fd : FuncData, (∀ (s : Shared) (u : Value), BindsTo s fd ⟨[u], []⟩ [(x, u)]) ∧
        ∀ base : Heap, (K w.params).In base → base.Ns mainGlobals mg →
          FnG l.prog w (K w.params) mg base (CX w) k fa fd [x] (sp w))
    (hsp : ∀ (w : World) (H : Hp) (a : Addr) (ns : List Int), ns.length ≤ n →
      (∀ z ∈ ns, Builtin.Int.intBits z ≤ 1048576) → Only H → SqL (K w.params) H a (ns.map V.int) →
      sp w [.ref a] H (fun v _ => v = .bl true) fun _ _ _ => False)
    (hCX : ∀ (w : World) (H : Hp) (s : Shared) (e : Value) (s' : Shared), CX w [] H s (fun _ _ _ => False) e s' → False) :
    PySem.W.WalkO q loose XP YP l.row.toRowW d [] (fun f vs => PySem.call f vs) :=
  Att.attach_callB hn hdf fun w _ s₁ mg mb fa o pm cd doc a vs ns G Y ho hd hcd hmg hobj hints hlen hbits hg => by
    obtain ⟨fd, hb, hF⟩ := F w mg fa _ (hY w _ Y) G.T.g hmg
    exact end_call (hY w _ Y) G.T.g G.T.b G.T.builtins G.T.nolimit hg hobj hints (Nat.le_trans hlen hn2) hr hF hb
      (fun H hO hS => hsp w H a ns hlen hbits hO hS) fun H e s' => hCX w H s₁ e s'
end LT

set_option Elab.async false
set_option linter.all false
set_option maxRecDepth 100000
/-! Own layer: a def to which the caught error is handed; isinstance of it there. -/
namespace LT
open PySem PySem.Spec PyProof.Rows L2
/-- as FnOk, called within an except suite; p is the caught error, which the promise may name -/
structure FnE (P : Program) (w : World) (K : PySem.W.Frag) (mg : Str → Option Value) (base : Heap)
    (k : Nat) (f : Addr) (fd : FuncData) (ps : List Str) (sp : Addr × Obj → Sp) : Prop where
  argc : ∀ {p : Addr × Obj} {vs : List V} {H : Hp} {Q : VK} {E : XK}, sp p vs H Q E → vs.length = ps.length
  go : ∀ {A : Around} {outer : List Env} {s : Shared} {H : Hp} {args : Args} {us : List Value} {vs : List V}
    {Q : VK} {E : XK} {p : Addr × Obj}, L2H.RoomH k A → L2H.PinOk outer H s p → Env0 P w K mg base A outer s H →
    BindsTo s fd args (ps.zip us) → Vals vs us → sp p vs H Q E →
    codeAny (model P w) A (.call (.ref f) args) (CR CX0 outer P w H s Q E) s
section
variable {P : Program} {w : World} {K : PySem.W.Frag} {mg : Str → Option Value} {base : Heap}
theorem okE {x qual : Str} {st : Stmt} {f : Addr} {fd : FuncData} {N ps : List Str} {k : Nat} {sp : Addr × Obj → Sp}
    (F : Fun K x qual st f fd) (S : FnScope N ps (defScope st))
    (argc : ∀ {p : Addr × Obj} {vs : List V} {H : Hp} {Q : VK} {E : XK}, sp p vs H Q E → vs.length = ps.length)
    (body : ∀ (cdv : Value) (A : Around) (outer : List Env) (s : Shared) (H : Hp) (vs : List V) (Q : VK) (E : XK) (p : Addr × Obj),
      L2H.RoomH k (A.deeper (envOfC qual (defScope st) s.heap.objs.size f cdv)) → sp p vs H Q E →
      ∃ t, PSs (L2H.cxH CX0 P w K mg base N qual (defScope st) f cdv A outer s H E p).nox (defBody st) t ∧
        t { nx := fun _ H' => Q .non H', rt := Q } (start N vs) H) :
    FnE P w K mg base (k + 1) f fd ps sp := by
  obtain ⟨oc, od, kV, doc, pm, an, cdv, ct, osl, rfl, lk, hcd⟩ := F.ex
  refine ⟨argc, ?_⟩
  intro A outer s H args us vs Q E p hr hpin e0 hb r hsp
  have inS : ∀ b o, base.get? b = some o → s.heap.get? b = some o := fun b o e => (e0.bs b o e).1
  have KX : K.In s.heap := e0.mod.kin.keeps inS
  have hkind : ∀ y ∈ ps.zip us, (defScope st).names.lookup y.1 = some .local ∨
      ((defScope st).names.lookup y.1 = some .cell ∧
        ((cellsFrom (s.heap.objs.size + 1) (defScope st).names []).lookup y.1).isSome = true) := by
    rintro ⟨n, v⟩ hy
    rcases S.par n (List.of_mem_zip hy).1 with q | q
    · exact Or.inl q
    · exact Or.inr ⟨q, PySem.W.cellsFrom_some _ _ _ (Or.inl q)⟩
  refine codeAny_call_function hr.depth (KX _ _ lk) rfl S.co S.gen rfl (PySem.W.codeRec_of KX hcd)
    (hb _ _ _ _ (wpAny_newFunctionEnv_cells S.kind hkind fun env he s1 x => ?_))
  subst he
  refine ⟨(e0.mod.nolimit.keeps inS).keeps x.toInCall.keep, codeAny_func ?_⟩
  obtain ⟨t, ht, hq⟩ := body cdv A outer s H vs Q E p (hr.deeper _) hsp
  have I := L2H.inv_startH (CX := CX0) (N := N) (qual := qual) (f := f) (cd := cdv) (E := E) S hpin e0 (argc hsp) r x
  refine wpAny_mono (ht.nox.run [] s1 (start N vs) H _ I hq) (fun fl s' hs => ?_) (fun e s' hs => hs)
  cases fl with
  | brk => obtain ⟨_, _, _, q⟩ := hs; exact q.elim
  | cont => obtain ⟨_, _, _, q⟩ := hs; exact q.elim
  | next =>
    obtain ⟨σ', H', J, q⟩ := hs
    exact ⟨V.non, H', J.os, J.bare, J.base, J.hok, rfl, q⟩
  | ret u =>
    obtain ⟨v, σ', H', J, rv, q⟩ := hs
    exact ⟨v, H', J.os, J.bare, J.base, J.hok, rv, q⟩
end
section
variable {X : Cx} {k : Nat} {f : Addr} {fd : FuncData} {ps : List Str} {sp : Addr × Obj → Sp} {x : Str} {q pos : Pos} {e : Expr}
  {es : List Expr} {t : TA} {p : Addr × Obj}
/-- the call of such a def, where p is pinned -/
def tCallE (p : Addr × Obj) (sp : Addr × Obj → Sp) (t : TA) : TE := fun σ H Q => t σ H fun vs H1 => sp p vs H1 Q E0
theorem pe_callE (F : FnE X.prog X.w X.K X.mg X.base k f fd ps sp) (hr : L2H.RoomH k X.A) (hp : p ∈ X.pn) (hg : Gl X x)
    (hm : X.mg x = some (.ref f)) (hk : PySem.W.keepIn X.K (.ref f) = true) (hb : L2.Binds X.K fd ps []) (ha : PA X (e :: es) t)
    (hdb : (x == ("__debug__" : Str)) = false := by decide)
    (he : starEach (e :: es) X.env = (false, eval e X.env) :: starEach es X.env := by rfl)
    (hpl : (backTo pos (starEach es X.env)).any (·.1) = false := by rfl) :
    PE X (.Call (.Name x q) (e :: es) [] pos) (tCallE p sp t) := by
  refine ⟨fun pins s σ H Q I h => wpAny_Call_Name_kw (ld_glob I hg hm ?_ hdb)⟩
  refine PySem.W.callWith_K (h₀ := X.base) I.ok.mod.kin hk ?_ he hpl
  refine thn (ha.run pos pins s σ H _ I h) fun us s1 ⟨vs, H1, I1, r, h1⟩ => ⟨I1.kIn, ?_⟩
  have hl : (us ++ []).length = ps.length := by
    rw [List.append_nil, ← r.length]
    exact F.argc h1
  have b := hb s1 us I1.kIn hl
  rw [List.append_nil] at b
  obtain ⟨p1, p2, p3, p4, p5⟩ := I1.pin p (List.mem_append_left _ hp)
  have pin : L2H.PinOk X.stack H1 s1 p := ⟨p1, p2, fun z => (List.mem_cons.mp (I1.stkSub p.1 z)).elim p3 p4, p5⟩
  refine wpAny_call (codeAny_mono (F.go hr pin I1.env0 b r h1) fun r s' hq => ?_)
  match r, hq with
  | .error _, hq => exact hq.elim
  | .ok (.ret u), hq => exact I1.after hq
  | .ok .next, hq => exact hq.elim
  | .ok .brk, hq => exact hq.elim
  | .ok .cont, hq => exact hq.elim
end
section
variable {X : Cx} {k : Nat} {f a : Addr} {oe : Obj} {cls : Value} {d : Option Addr} {fd : FuncData} {ps : List Str} {sp : Addr × Obj → Sp} {x : Str} {q pos : Pos} {e : Expr}
  {es : List Expr} {t : TA} {pn : List (Addr × Obj)}
/-- .. in an except suite; its reading names the error by its class and dict alone -/
def tCallZ (a : Addr) (cls : Value) (d : Option Addr) (sp : Addr × Obj → Sp) (t : TA) : TE := fun σ H Q => t σ H fun vs H1 =>
  ∀ oe : Obj, Zc cls d oe → (∃ vs, oe.data = .fields vs) → sp (a, oe) vs H1 Q E0
theorem pe_callZ (F : FnE X.prog X.w X.K X.mg X.base k f fd ps sp) (hr : Room k X.A) (hz : Zc cls d oe) (hf : ∃ vs, oe.data = .fields vs) (hg : Gl X x)
    (hm : X.mg x = some (.ref f)) (hk : PySem.W.keepIn X.K (.ref f) = true) (hb : L2.Binds X.K fd ps []) (ha : PA (X.suite a ((a, oe) :: pn)) (e :: es) t)
    (hdb : (x == ("__debug__" : Str)) = false := by decide)
    (he : starEach (e :: es) X.env = (false, eval e X.env) :: starEach es X.env := by rfl)
    (hpl : (backTo pos (starEach es X.env)).any (·.1) = false := by rfl) :
    PE (X.suite a ((a, oe) :: pn)) (.Call (.Name x q) (e :: es) [] pos) (tCallZ a cls d sp t) := by
  refine ⟨fun pins s σ H Q I h => ?_⟩
  have h2 : t σ H fun vs H1 => (fun vs H1 => ∀ oe : Obj, Zc cls d oe → (∃ vs, oe.data = .fields vs) → sp (a, oe) vs H1 Q E0) vs H1 := h
  refine (wpAny_Call_Name_kw (ld_glob (X := X.suite a ((a, oe) :: pn)) I hg hm ?_ hdb))
  refine PySem.W.callWith_K (h₀ := X.base) I.ok.mod.kin hk ?_ he hpl
  refine thn (ha.run pos pins s σ H _ I h2) fun us s1 ⟨vs, H1, I1, r, h1⟩ => ⟨I1.kIn, ?_⟩
  have h1 := h1 oe hz hf
  have hl : (us ++ []).length = ps.length := by
    rw [List.append_nil, ← r.length]
    exact F.argc h1
  have b := hb s1 us I1.kIn hl
  rw [List.append_nil] at b
  obtain ⟨p1, p2, p3, p4, p5⟩ := I1.pin (a, oe) (List.mem_append_left _ List.mem_cons_self)
  have pin : L2H.PinOk X.stack H1 s1 (a, oe) := ⟨p1, p2, fun z => (List.mem_cons.mp (I1.stkSub a z)).elim p3 p4, p5⟩
  refine wpAny_call (codeAny_mono (F.go (A := X.A.mark (some (.ref a))) ⟨hr.dp, hr.un⟩ pin I1.env0 b r h1) fun r s' hq => ?_)
  match r, hq with
  | .error _, hq => exact hq.elim
  | .ok (.ret u), hq => exact I1.after hq
  | .ok .next, hq => exact hq.elim
  | .ok .brk, hq => exact hq.elim
  | .ok .cont, hq => exact hq.elim
end
/-! ### isinstance of the pinned error -/
section
variable {X : Cx} {a D : Addr} {oe : Obj}
theorem pinned_at {pins : List (Addr × Obj)} {σ : L2.St} {H : Hp} {s : Shared} (I : Inv X pins σ H s) (hp : (a, oe) ∈ X.pn) (hz : Zc (.ref D) none oe)
    (hf : ∃ vs, oe.data = .fields vs) : PySem.W.InstAt s.heap a oe D none := by
  obtain ⟨hget, _⟩ := I.pin (a, oe) (List.mem_append_left _ hp)
  obtain ⟨vs, hv⟩ := hf
  obtain ⟨oc, od, oda, osl⟩ := oe
  obtain ⟨h1, h2⟩ := hz
  dsimp only at h1 h2 hv
  subst h1 h2 hv
  exact ⟨hget, rfl, rfl, trivial⟩
theorem call_isP (hp : (a, oe) ∈ X.pn) (C : ExcC X.K D) (hz : Zc (.ref D) none oe) (hf : ∃ vs, oe.data = .fields vs) :
    CallR X (.builtin "isinstance") (fun xs H Q => ∃ (c : V) (cv : Value) (b : Bool), xs = [.ref a, c] ∧ ClsV c cv ∧ PySem.W.kitOne X.K (.ref D) cv = some b ∧ Q (.bl b) H) := by
  intro pins s σ H xs us Q I r h
  obtain ⟨c, cv, b, rfl, hc, e, q⟩ := h
  obtain ⟨u1, u2, rfl, r1, r2⟩ := vals2 r
  have e2 := hc.eq r2
  subst e2
  cases r1
  exact PySem.W.kia_one (PySem.W.handS_kitx_exc C.hg C.hk C.hs C.hd C.ha C.hn C.ht C.hm) I.kIn (pinned_at I hp hz hf) e (fun z => nomatch z)
    fun tk => ⟨.bl b, H, I.tok tk, rfl, q⟩
theorem call_isPT (hp : (a, oe) ∈ X.pn) (C : ExcC X.K D) (hz : Zc (.ref D) none oe) (hf : ∃ vs, oe.data = .fields vs) :
    CallR X (.builtin "isinstance") (fun xs H Q => ∃ (tp : Addr) (cs : List V) (us : List Value) (b : Bool), xs = [.ref a, .ref tp] ∧ H tp = some (.tup cs) ∧ Paired ClsV cs us ∧
      PySem.W.kitAny X.K (.ref D) us = some b ∧ Q (.bl b) H) := by
  intro pins s σ H xs us Q I r h
  obtain ⟨tp, cs, ws, b, rfl, hT, k, e, q⟩ := h
  obtain ⟨u1, u2, rfl, r1, r2⟩ := vals2 r
  cases r1
  cases (show u2 = Value.ref tp from r2)
  obtain ⟨_, its, rv, o, h1, h2, n, h3⟩ := (show ObjOk X.prog X.w H s.heap tp (.tup cs) from I.hok tp _ hT)
  have e3 := ClsV.all k rv
  subst e3
  obtain ⟨oc, od, dt, sl⟩ := o
  simp only at h2 h3
  subst h2 h3
  exact PySem.W.kia_tup (PySem.W.handS_kitx_exc C.hg C.hk C.hs C.hd C.ha C.hn C.ht C.hm) I.kIn (pinned_at I hp hz hf) h1 e (fun z => nomatch z)
    fun tk => ⟨.bl b, H, I.tok tk, rfl, q⟩
end
end LT

set_option Elab.async false
set_option linter.all false
set_option maxRecDepth 100000
/-! Own layer: ==, != of instances of a class with its own __eq__; repr, str of such; a method called by keywords. -/
namespace LT
open PySem PySem.Spec PyProof.Rows L2
section
variable {M : Model} {A : Around} {E : Value → Shared → Prop} {s : Shared} {Q : Value → Shared → Prop} {K : PySem.W.Frag} {y C dy : Addr}
open AutoSeq1 (wpAny_loadPart')
theorem int_dec (b : Int) (u : Tok) (y C dy : Addr) :
    Meets (Builtin.«int.__eq__» ⟨[.int b u, .ref y], []⟩) (fun _ R s => s.heap.get? y = some (PySem.W.instObj C dy) ∧ R (.ok (.ret .notImplemented)) s) :=
  .of_wp fun prog w A R s h => by
    obtain ⟨hp, g, d, tk, os⟩ := s
    obtain ⟨hl, h⟩ := h
    wp_walk using wpAny_loadPart' hl, wpAny_load hl
    exact ⟨_, rfl, h⟩
theorem bool_dec (b : Bool) (y C dy : Addr) :
    Meets (Builtin.«int.__eq__» ⟨[.bool b, .ref y], []⟩) (fun _ R s => s.heap.get? y = some (PySem.W.instObj C dy) ∧ R (.ok (.ret .notImplemented)) s) :=
  .of_wp fun prog w A R s h => by
    obtain ⟨hp, g, d, tk, os⟩ := s
    obtain ⟨hl, h⟩ := h
    wp_walk using wpAny_loadPart' hl, wpAny_load hl
    exact ⟨_, rfl, h⟩
theorem str_dec (b : Str) (u : Tok) (y C dy : Addr) :
    Meets (Builtin.«str.__eq__» ⟨[.str b u, .ref y], []⟩) (fun _ R s => s.heap.get? y = some (PySem.W.instObj C dy) ∧ R (.ok (.ret .notImplemented)) s) :=
  .of_wp fun prog w A R s h => by
    obtain ⟨hp, g, d, tk, os⟩ := s
    obtain ⟨hl, h⟩ := h
    wp_walk using wpAny_loadPart' hl, wpAny_load hl
    exact ⟨_, rfl, h⟩
theorem list_dec {K : PySem.W.Frag} (l y C dy : Addr) (hsub : PySem.W.subIn K (.ref C) (.type "list") = some false) :
    Meets (Builtin.«list.__eq__» ⟨[.ref l, .ref y], []⟩) (fun _ R s => K.In s.heap ∧ s.heap.get? y = some (PySem.W.instObj C dy) ∧ (∃ o, s.heap.get? l = some o ∧ o.cls = .type "list") ∧ R (.ok (.ret .notImplemented)) s) :=
  .of_wp fun prog w A R s h => by
    obtain ⟨hp, g, d, tk, os⟩ := s
    obtain ⟨X, hl, ⟨o, ho, hc⟩, h⟩ := h
    have f1 := PySem.W.looks_subIn (M := model prog w) X hsub
    have f2 : ∀ {A' : Around} {Q' : Bool → Shared → Prop} {E' : Value → Shared → Prop}, Q' false ⟨hp, g, d, tk, os⟩ →
        wpAny (model prog w) A' (isInstance (.ref y) (.type "list")) Q' E' ⟨hp, g, d, tk, os⟩ := fun {A' Q' E'} q =>
      wpAny_bind (wpAny_typeOf_ref hl (f1.here q))
    wp_walk using f2
    exact ⟨_, rfl, h⟩
theorem tuple_dec {K : PySem.W.Frag} (l y C dy : Addr) (hsub : PySem.W.subIn K (.ref C) (.type "tuple") = some false) :
    Meets (Builtin.«tuple.__eq__» ⟨[.ref l, .ref y], []⟩) (fun _ R s => K.In s.heap ∧ s.heap.get? y = some (PySem.W.instObj C dy) ∧ (∃ o, s.heap.get? l = some o ∧ o.cls = .type "tuple") ∧ R (.ok (.ret .notImplemented)) s) :=
  .of_wp fun prog w A R s h => by
    obtain ⟨hp, g, d, tk, os⟩ := s
    obtain ⟨X, hl, ⟨o, ho, hc⟩, h⟩ := h
    have f1 := PySem.W.looks_subIn (M := model prog w) X hsub
    have f2 : ∀ {A' : Around} {Q' : Bool → Shared → Prop} {E' : Value → Shared → Prop}, Q' false ⟨hp, g, d, tk, os⟩ →
        wpAny (model prog w) A' (isInstance (.ref y) (.type "tuple")) Q' E' ⟨hp, g, d, tk, os⟩ := fun {A' Q' E'} q =>
      wpAny_bind (wpAny_typeOf_ref hl (f1.here q))
    wp_walk using f2
    exact ⟨_, rfl, h⟩
end
section
variable {prog : Program} {w : World} {A : Around} {E : Value → Shared → Prop} {s : Shared} {Q : Value → Shared → Prop} {K : PySem.W.Frag}
  {y C f : Addr} {oy : Obj} {od : Option Obj} {a : Value} {T id : String}
/-- a thing of a built-in type on the left, which declines; the own __eq__ of the right one is asked -/
theorem rc_eq_refl (X : K.In s.heap) (I : PySem.W.InstAt s.heap y oy C od) (ha : s.TypeIs a T) (hsub : PySem.W.subIn K (.ref C) (.type T) = some false)
    (h1 : Slot T "__eq__" id) (hc1 : ∀ Q' : Value → Shared → Prop, Q' .notImplemented s → wpAny (model prog w) A (call (.builtin id) [a, .ref y]) Q' E s)
    (hs : PySem.W.findIn K (.ref C) "__eq__" = some (some (.ref f))) (hf : PySem.W.isFn K (.ref f) = true) (hu : A.units < cLine)
    (h : wpAny (model prog w) A (call (.ref f) [.ref y, a]) (PySem.W.CmpBack Q) E s) :
    wpAny (model prog w) A (richCompare .Eq a (.ref y)) Q E s := by
  have two : wpAny (model prog w) A (tryCompare (.ref y) "__eq__" a) (fun r s' => ∃ v, r = some v ∧ Q v s') E s := by
    unfold tryCompare
    refine wpAny_bind (PySem.W.ifBound_K X I hs hf (wpAny_mono h (fun v s' hv => ?_) fun _ _ e => e))
    cases v <;> first | exact hv.elim | exact wpAny_pure ⟨_, rfl, hv⟩
  simp only [richCompare, ha.oneThing_none, cmpInfo]
  refine wpAny_holding (wpAny_bind (wpAny_cRoomFor hu ?_))
  refine wpAny_bind (wpAny_typeOf ha (wpAny_bind (I.type.here ?_)))
  rw [if_pos (show (Value.type T != Value.ref C) = true by simp)]
  refine wpAny_bind ((PySem.W.looks_subIn X hsub).here ?_)
  simp only [Bool.false_eq_true, if_false, Bool.not_false, if_true]
  refine wpAny_bind (m := tryCompare a _ (.ref y)) (wpAny_tryCompare_declines ha h1 (hc1 _ ⟨rfl, ?_⟩))
  refine wpAny_bind (m := tryCompare (.ref y) _ a) (wpAny_mono two (fun r s' z => ?_) fun _ _ e => e)
  obtain ⟨v, rfl, hq⟩ := z
  exact wpAny_pure hq
end

/-! ### == by an own __eq__ -/
/-- what the class says of its __eq__ -/
structure EqC (K : PySem.W.Frag) (C f : Addr) : Prop where
  eq : PySem.W.findIn K (.ref C) "__eq__" = some (some (.ref f))
  fn : PySem.W.isFn K (.ref f) = true
  ne : PySem.W.findIn K (.ref C) "__ne__" = some (some (.builtin "object.__ne__"))
  ob : PySem.W.mroIn K C (.type "object") = some true
  sN : PySem.W.subIn K (.ref C) (.type "NoneType") = some false
  sB : PySem.W.subIn K (.ref C) (.type "bool") = some false
  sI : PySem.W.subIn K (.ref C) (.type "int") = some false
  sS : PySem.W.subIn K (.ref C) (.type "str") = some false
  sL : PySem.W.subIn K (.ref C) (.type "list") = some false
  sT : PySem.W.subIn K (.ref C) (.type "tuple") = some false
/-- a thing beside an instance of C -/
inductive Beside (K : PySem.W.Frag) (C : Addr) (H : Hp) : V → Prop
  | non : Beside K C H .non
  | bl (b : Bool) : Beside K C H (.bl b)
  | int (i : Int) : Beside K C H (.int i)
  | str (z : Str) : Beside K C H (.str z)
  | lst {a : Addr} {xs : List V} : H a = some (.lst xs) → Beside K C H (.ref a)
  | tup {a : Addr} {xs : List V} : H a = some (.tup xs) → Beside K C H (.ref a)
  | ins {a dx : Addr} {fs : List (Str × V)} : H a = some (.ins C dx fs) → Beside K C H (.ref a)
section
variable {X : Cx} {C f : Addr} {fd : FuncData} {ps : List Str} {sp : Sp} {n : Nat}
theorem run_eq {A : Around} {pins : List (Addr × Obj)} {σ : L2.St} {H : Hp} {s : Shared} {Q : VK} {v : V} {u : Value} {a : Addr}
    (F : FnOk X.prog X.w X.K X.mg X.base CX0 n f fd ps sp) (sb : L2.Sub X n A) (hb : L2.Binds X.K fd ps []) (I : Inv X pins σ H s) (r : RelV v u)
    (h : sp [.ref a, v] H (fun z H' => ∃ b, z = .bl b ∧ Q z H') E0) :
    wpAny (model X.prog X.w) A (call (.ref f) [.ref a, u]) (fun z s' => ∃ b H', z = .bool b ∧ Inv X pins σ H' s' ∧ Q (.bl b) H') X.xe s := by
  have e0 : Env0 X.prog X.w X.K X.mg X.base A X.stack s H := by
    have e := I.env0
    exact ⟨by rw [sb.fr]; exact e.frames, e.mod, e.bs, e.bsz, e.funs, e.frf, e.hok, e.bare⟩
  have r2 : Vals [V.ref a, v] [Value.ref a, u] := .cons rfl (.cons r .nil)
  have hl := F.len _ _ _ _ h
  have b := hb s [.ref a, u] I.kIn (by simpa using hl)
  rw [List.append_nil] at b
  refine wpAny_call (codeAny_mono (F.run A X.stack s H ⟨[.ref a, u], []⟩ [.ref a, u] [.ref a, v] _ E0 sb.room e0 b r2 h) fun r s' hq => ?_)
  match r, hq with
  | .error _, hq => exact hq.elim
  | .ok .next, hq => exact hq.elim
  | .ok .brk, hq => exact hq.elim
  | .ok .cont, hq => exact hq.elim
  | .ok (.ret z), hq =>
    obtain ⟨z', H', I', rz, b, rfl, q⟩ := I.after hq
    cases rz
    exact ⟨b, H', rfl, I', q⟩
theorem rc_own (EC : EqC X.K C f) {A : Around} {pins : List (Addr × Obj)} {σ : L2.St} {H : Hp} {s : Shared} {Q : VK} {v : V} {u : Value} {a dx : Addr} {fs : List (Str × V)}
    (F : FnOk X.prog X.w X.K X.mg X.base CX0 n f fd ps sp) (sb : L2.Sub X n A) (hb : L2.Binds X.K fd ps []) (I : Inv X pins σ H s) (r : RelV v u)
    (ha : H a = some (.ins C dx fs)) (hv : Beside X.K C H v) (h : sp [.ref a, v] H (fun z H' => ∃ b, z = .bl b ∧ Q z H') E0) :
    wpAny (model X.prog X.w) A (richCompare .Eq (.ref a) u) (fun z s' => ∃ b H', z = .bool b ∧ Inv X pins σ H' s' ∧ Q (.bl b) H') X.xe s := by
  obtain ⟨mA, J, _⟩ := ins_get I.hok ha
  obtain ⟨od, J, _⟩ := J.look
  obtain ⟨m, hF⟩ := I.fr
  have nt : ∀ T : String, (PySem.W.subIn X.K (.type T) (.ref C) == some false) = true → PySem.W.notFirst X.K C (.type T) = true := fun T e => by
    unfold PySem.W.notFirst
    rw [e, Bool.or_true]
  have tyv : ∃ t, PySem.W.Looks (model X.prog X.w) s.heap (typeOf u) t ∧ PySem.W.notFirst X.K C t = true := by
    cases hv with
    | non => obtain ⟨P, Z, p, _⟩ := kit_of I r (.base .non); exact ⟨_, Z.ty _ _ I.kIn p, nt _ (by rfl)⟩
    | bl b => obtain ⟨P, Z, p, _⟩ := kit_of I r (.base (.bl b)); exact ⟨_, Z.ty _ _ I.kIn p, nt _ (by rfl)⟩
    | int i => obtain ⟨P, Z, p, _⟩ := kit_of I r (.base (.int i)); exact ⟨_, Z.ty _ _ I.kIn p, nt _ (by rfl)⟩
    | str z => obtain ⟨P, Z, p, _⟩ := kit_of I r (.base (.str z)); exact ⟨_, Z.ty _ _ I.kIn p, nt _ (by rfl)⟩
    | lst e => obtain ⟨P, Z, p, _⟩ := kit_of I r (.base (.lst e)); exact ⟨_, Z.ty _ _ I.kIn p, nt _ (by rfl)⟩
    | tup e => obtain ⟨P, Z, p, _⟩ := kit_of I r (.base (.tup e)); exact ⟨_, Z.ty _ _ I.kIn p, nt _ (by rfl)⟩
    | ins e =>
      cases r
      obtain ⟨mB, J', _⟩ := ins_get I.hok e
      obtain ⟨od', J', _⟩ := J'.look
      exact ⟨_, J'.type, by simp [PySem.W.notFirst]⟩
  obtain ⟨t, ht, hn⟩ := tyv
  refine PySem.W.cmp_K (op := .Eq) sb.room.units0 hF I.ok.mod.kin J ht hn EC.eq EC.fn (wpAny_mono (run_eq F sb hb I r h) (fun z s' hz => ?_) fun _ _ x => x)
  obtain ⟨b, H', rfl, I', q⟩ := hz
  exact ⟨b, H', rfl, I', q⟩
/-- the other way about -/
theorem rc_own_refl (EC : EqC X.K C f) {A : Around} {pins : List (Addr × Obj)} {σ : L2.St} {H : Hp} {s : Shared} {Q : VK} {v : V} {u : Value} {a dx : Addr} {fs : List (Str × V)}
    (F : FnOk X.prog X.w X.K X.mg X.base CX0 n f fd ps sp) (sb : L2.Sub X n A) (hb : L2.Binds X.K fd ps []) (I : Inv X pins σ H s) (r : RelV v u)
    (ha : H a = some (.ins C dx fs)) (hv : Beside X.K C H v) (hni : ∀ b dy gs, v = .ref b → H b ≠ some (.ins C dy gs)) (h : sp [.ref a, v] H (fun z H' => ∃ b, z = .bl b ∧ Q z H') E0) :
    wpAny (model X.prog X.w) A (richCompare .Eq u (.ref a)) (fun z s' => ∃ b H', z = .bool b ∧ Inv X pins σ H' s' ∧ Q (.bl b) H') X.xe s := by
  obtain ⟨mA, J, _⟩ := ins_get I.hok ha
  have hob := J.obj
  obtain ⟨od, J, _⟩ := J.look
  have fin := wpAny_mono (run_eq (A := A) F sb hb I r h) (Q' := PySem.W.CmpBack fun z s' => ∃ b H', z = .bool b ∧ Inv X pins σ H' s' ∧ Q (.bl b) H') (fun z s' hz => by
    obtain ⟨b, H', rfl, I', q⟩ := hz
    exact ⟨b, H', rfl, I', q⟩) fun _ _ x => x
  cases hv with
  | non =>
    cases r
    exact rc_eq_refl I.kIn J rfl EC.sN PySem.F.slot_NoneType_eq (fun Q' q => call_gives PySem.F.slot_NoneType_eq rfl PySem.F.entry_NoneType_eq (PySem.F.args_NoneType_eq_2 _ _) (SeqAt.NoneType___eq___none_ref_0 _) q) EC.eq EC.fn sb.room.units0 fin
  | bl b =>
    cases r
    exact rc_eq_refl I.kIn J rfl EC.sB PySem.F.slot_bool_eq (fun Q' q => call_meets PySem.F.slot_bool_eq rfl PySem.F.entry_int_eq (PySem.F.args_int_eq_2 _ _) (bool_dec b a C dx) ⟨hob, q⟩) EC.eq EC.fn sb.room.units0 fin
  | int i =>
    obtain ⟨t, rfl⟩ := r
    exact rc_eq_refl I.kIn J (typeIs_int _ _ _) EC.sI PySem.F.slot_int_eq (fun Q' q => call_meets PySem.F.slot_int_eq (typeIs_int _ _ _) PySem.F.entry_int_eq (PySem.F.args_int_eq_2 _ _) (int_dec i t a C dx) ⟨hob, q⟩) EC.eq EC.fn sb.room.units0 fin
  | str z =>
    obtain ⟨t, rfl⟩ := r
    exact rc_eq_refl I.kIn J (typeIs_str _ _ _) EC.sS PySem.F.slot_str_eq (fun Q' q => call_meets PySem.F.slot_str_eq (typeIs_str _ _ _) PySem.F.entry_str_eq (PySem.F.args_str_eq_2 _ _) (str_dec z t a C dx) ⟨hob, q⟩) EC.eq EC.fn sb.room.units0 fin
  | @lst l xs e =>
    cases r
    obtain ⟨_, its, k, _, h1⟩ := (show ObjOk X.prog X.w H s.heap l (.lst xs) from I.hok l _ e)
    exact rc_eq_refl I.kIn J ⟨_, h1, rfl⟩ EC.sL PySem.F.slot_list_eq (fun Q' q => call_meets PySem.F.slot_list_eq ⟨_, h1, rfl⟩ PySem.F.entry_list_eq (PySem.F.args_list_eq_2 _ _) (list_dec l a C dx EC.sL) ⟨I.kIn, hob, ⟨_, h1, rfl⟩, q⟩) EC.eq EC.fn sb.room.units0 fin
  | @tup l xs e =>
    cases r
    obtain ⟨_, its, _, o, h1, h2, _⟩ := (show ObjOk X.prog X.w H s.heap l (.tup xs) from I.hok l _ e)
    exact rc_eq_refl I.kIn J ⟨_, h1, h2⟩ EC.sT PySem.F.slot_tuple_eq (fun Q' q => call_meets PySem.F.slot_tuple_eq ⟨_, h1, h2⟩ PySem.F.entry_tuple_eq (PySem.F.args_tuple_eq_2 _ _) (tuple_dec l a C dx EC.sT) ⟨I.kIn, hob, ⟨_, h1, h2⟩, q⟩) EC.eq EC.fn sb.room.units0 fin
  | ins e => exact absurd e (hni _ _ _ rfl)
/-- x == y, one of them an instance of C -/
def rOwn (K : PySem.W.Frag) (C : Addr) (sp : Sp) : R2 := fun x y H Q =>
  (∃ a dx fs, x = .ref a ∧ H a = some (.ins C dx fs) ∧ Beside K C H y ∧ sp [x, y] H (fun z H' => ∃ b, z = .bl b ∧ Q z H') E0) ∨
  (∃ a dx fs, y = .ref a ∧ H a = some (.ins C dx fs) ∧ Beside K C H x ∧ (∀ b dy gs, x = .ref b → H b ≠ some (.ins C dy gs)) ∧ sp [y, x] H (fun z H' => ∃ b, z = .bl b ∧ Q z H') E0)
theorem op_own (EC : EqC X.K C f) (F : FnOk X.prog X.w X.K X.mg X.base CX0 n f fd ps sp) (hr : Room n X.A) (hb : L2.Binds X.K fd ps []) :
    OpR X (compareOp .Eq) (rOwn X.K C sp) := by
  intro pins s σ H x y v u Q I rx ry h
  rcases h with ⟨a, dx, fs, rfl, ha, hv, h⟩ | ⟨a, dx, fs, rfl, ha, hv, hni, h⟩
  · cases rx
    refine wpAny_mono (rc_own EC F ⟨hr, rfl⟩ hb I ry ha hv h) (fun z s' hz => ?_) fun _ _ x => x
    obtain ⟨b, H', rfl, I', q⟩ := hz
    exact ⟨.bl b, H', I', rfl, q⟩
  · cases ry
    refine wpAny_mono (rc_own_refl EC F ⟨hr, rfl⟩ hb I rx ha hv hni h) (fun z s' hz => ?_) fun _ _ x => x
    obtain ⟨b, H', rfl, I', q⟩ := hz
    exact ⟨.bl b, H', I', rfl, q⟩
/-- == within a list: the same object is equal to itself -/
theorem eqb_own (EC : EqC X.K C f) {A : Around} {pins : List (Addr × Obj)} {σ : L2.St} {H : Hp} {s : Shared} {Q : VK} {a b dx dy : Addr} {fs gs : List (Str × V)}
    (F : FnOk X.prog X.w X.K X.mg X.base CX0 n f fd ps sp) (sb : L2.Sub X n A) (hb : L2.Binds X.K fd ps []) (I : Inv X pins σ H s)
    (ha : H a = some (.ins C dx fs)) (hb' : H b = some (.ins C dy gs)) (hs : a = b → Q (.bl true) H) (h : a ≠ b → sp [.ref a, .ref b] H (fun z H' => ∃ b, z = .bl b ∧ Q z H') E0) :
    wpAny (model X.prog X.w) A (eqBool (.ref a) (.ref b)) (fun r s' => ∃ H', Inv X pins σ H' s' ∧ Q (.bl r) H') X.xe s := by
  by_cases e : a = b
  · subst e
    exact SeqAt.EqAt.same (A := A) (s := s) (.ref a) X.prog X.w X.xe _ ⟨H, I, hs rfl⟩
  · refine GQ.eqBool_refG e (wpAny_mono (rc_own (v := .ref b) EC F sb hb I rfl ha (.ins hb') (h e)) (fun z s' hz => ?_) fun _ _ x => x)
    obtain ⟨r, H', rfl, I', q⟩ := hz
    exact ⟨r, rfl, H', I', q⟩
end
/-! ### x in [y], [y] == [x] -/
section
variable {prog : Program} {w : World} {A : Around} {E : Value → Shared → Prop} {s : Shared}
open AutoSeq1 (wpAny_loadPart')
open MeetsSeq MeetsSeq3
def OneAt (l : Addr) (y : Value) (s : Shared) : Prop := ∃ (items : Array Value) (n : Nat), s.heap.get? l = some { cls := .type "list", data := .seq items n } ∧ items.size = 1 ∧ items[0]? = some y
theorem loop_none {R : Result → Shared → Prop} {l : Addr} {x y : Value} (hl : OneAt l y s) (h : R (.ok (.ret (.bool false))) s) (i : Nat) (h1 : i = 1) :
    wpAny (model prog w) A.in1 (Builtin.«list.__contains__.loop» ⟨[.ref l, x, rawInt i], []⟩) (GQ.FinOf prog w A R) (fun e s' => R (.error e) s') s := by
  obtain ⟨items, n, hl, hz, _⟩ := hl
  obtain ⟨hp, g, d, tk, os⟩ := s
  wp_walk using wpAny_loadPart' hl
  have hi : items[((i : Nat) : Int).toNat]? = none := by simp; omega
  rw [hi]
  wp_walk
  exact h
theorem loop_one {R : Result → Shared → Prop} {l : Addr} {x y : Value} (hl : OneAt l y s)
    (h : wpAny (model prog w) A.in1 (eqBool y x) (fun r s' => OneAt l y s' ∧ R (.ok (.ret (.bool r))) s') (fun e s' => R (.error e) s') s) (i : Nat) (h0 : i = 0) :
    wpAny (model prog w) A.in1 (Builtin.«list.__contains__.loop» ⟨[.ref l, x, rawInt i], []⟩) (GQ.FinOf prog w A R) (fun e s' => R (.error e) s') s := by
  obtain ⟨items, n, hl, hz, hy⟩ := hl
  obtain ⟨hp, g, d, tk, os⟩ := s
  wp_walk using wpAny_loadPart' hl
  have hi : items[((i : Nat) : Int).toNat]? = some y := by
    rw [h0]
    exact hy
  rw [hi]
  refine wpAny_bind (wpAny_mono h (fun r s2 hr => ?_) fun _ _ x => x)
  obtain ⟨h1, h2⟩ := hr
  cases r with
  | true =>
    obtain ⟨hp2, g2, d2, tk2, os2⟩ := s2
    wp_walk
    exact h2
  | false =>
    have last := loop_none (prog := prog) (w := w) (A := A) (x := x) h1 h2 (i + 1) (by omega)
    have hc : ((i : Int) + 1) = ((i + 1 : Nat) : Int) := by omega
    obtain ⟨hp2, g2, d2, tk2, os2⟩ := s2
    wp_walk
    rw [hc]
    exact ⟨plainId_quiet plain_contains_loop _, codeAny_builtin entry_contains_loop (by
      rw [Around.under_plainId plain_contains_loop _]
      exact last)⟩
theorem in_one {Q : Value → Shared → Prop} {l : Addr} {x y : Value} (hl : OneAt l y s)
    (h : wpAny (model prog w) A.in1 (eqBool y x) (fun r s' => OneAt l y s' ∧ Q (.bool r) s') E s) : wpAny (model prog w) A (compareOp .In x (.ref l)) Q E s := by
  obtain ⟨items, n, ho, _, _⟩ := id hl
  show wpAny _ A (do return .bool (← contains (.ref l) x)) Q E s
  refine wpAny_bind (wpAny_contains_slot ⟨_, ho, rfl⟩ PySem.F.slot_list_contains (GQ.call_here PySem.F.slot_list_contains ⟨_, ho, rfl⟩ PySem.F.entry_list_contains (PySem.F.args_list_contains_2 _ _) ?_))
  have first := loop_one (prog := prog) (w := w) (A := A) (R := wants (fun r s' => wpAny (model prog w) A (truthy r) (fun a s' => wpAny (model prog w) A (pure (Value.bool a)) Q E s') E s') E) hl
    (wpAny_mono h (fun r s' hr => ⟨hr.1, wpAny_truthy_bool (wpAny_pure hr.2)⟩) fun _ _ x => x) 0 rfl
  obtain ⟨hp, g, d, tk, os⟩ := s
  wp_walk using wpAny_loadPart' ho
  exact ⟨plainId_quiet plain_contains_loop _, codeAny_builtin entry_contains_loop (by
    rw [Around.under_plainId plain_contains_loop _]
    exact first)⟩
theorem eqloop_end {R : Result → Shared → Prop} {l b : Addr} {x y : Value} (hl : OneAt l y s) (hb : OneAt b x s) (h : R (.ok (.ret (.bool true))) s) (i : Nat) (h1 : i = 1) :
    wpAny (model prog w) A.in1 (Builtin.«list.__eq__.loop» ⟨[.ref l, .ref b, rawInt i, rawInt 2], []⟩) (GQ.FinOf prog w A R) (fun e s' => R (.error e) s') s := by
  obtain ⟨items, n, hl, hz, _⟩ := hl
  obtain ⟨items2, n2, hb, hz2, _⟩ := hb
  obtain ⟨hp, g, d, tk, os⟩ := s
  wp_walk using wpAny_loadPart' hl, wpAny_loadPart' hb
  have hi1 : items[((i : Nat) : Int).toNat]? = none := by simp; omega
  have hi2 : items2[((i : Nat) : Int).toNat]? = none := by simp; omega
  rw [hi1, hi2]
  wp_walk using wpAny_loadPart' hl, wpAny_loadPart' hb
  show R (.ok (.ret (.bool (items.size == items2.size)))) _
  rw [hz, hz2]
  exact h
theorem eqloop_one {R : Result → Shared → Prop} {l b : Addr} {x y : Value} (hl : OneAt l y s) (hb : OneAt b x s)
    (h : wpAny (model prog w) A.in1 (eqBool y x) (fun r s' => OneAt l y s' ∧ OneAt b x s' ∧ R (.ok (.ret (.bool r))) s') (fun e s' => R (.error e) s') s) (i : Nat) (h0 : i = 0) :
    wpAny (model prog w) A.in1 (Builtin.«list.__eq__.loop» ⟨[.ref l, .ref b, rawInt i, rawInt 2], []⟩) (GQ.FinOf prog w A R) (fun e s' => R (.error e) s') s := by
  obtain ⟨items, n, hl, hz, hy⟩ := hl
  obtain ⟨items2, n2, hb, hz2, hy2⟩ := hb
  obtain ⟨hp, g, d, tk, os⟩ := s
  wp_walk using wpAny_loadPart' hl, wpAny_loadPart' hb
  have hi1 : items[((i : Nat) : Int).toNat]? = some y := by
    rw [h0]
    exact hy
  have hi2 : items2[((i : Nat) : Int).toNat]? = some x := by
    rw [h0]
    exact hy2
  rw [hi1, hi2]
  refine wpAny_bind (wpAny_mono h (fun r s2 hr => ?_) fun _ _ x => x)
  obtain ⟨h1, h2, h3⟩ := hr
  cases r with
  | true =>
    have last := eqloop_end (prog := prog) (w := w) (A := A) h1 h2 h3 (i + 1) (by omega)
    have hc : ((i : Int) + 1) = ((i + 1 : Nat) : Int) := by omega
    obtain ⟨hp2, g2, d2, tk2, os2⟩ := s2
    wp_walk
    rw [hc]
    exact ⟨plainId_quiet plain_eq_loop _, codeAny_builtin entry_eq_loop (by
      rw [Around.under_plainId plain_eq_loop _]
      exact last)⟩
  | false =>
    obtain ⟨items3, n3, hl3, hz3, hy3⟩ := h1
    obtain ⟨items4, n4, hb4, hz4, hy4⟩ := h2
    obtain ⟨hp2, g2, d2, tk2, os2⟩ := s2
    wp_walk using wpAny_loadPart' hl3, wpAny_loadPart' hb4
    have hi3 : items3[((i : Nat) : Int).toNat]? = some y := by
      rw [h0]
      exact hy3
    have hi4 : items4[((i : Nat) : Int).toNat]? = some x := by
      rw [h0]
      exact hy4
    rw [hi3, hi4]
    wp_walk
    exact h3
/-- two lists of one thing each -/
theorem eq_one {Q : Value → Shared → Prop} {l b : Addr} {x y : Value} (hu : A.units < cLine) (hl : OneAt l y s) (hb : OneAt b x s)
    (h : wpAny (model prog w) A.in1 (eqBool y x) (fun r s' => OneAt l y s' ∧ OneAt b x s' ∧ Q (.bool r) s') E s) : wpAny (model prog w) A (richCompare .Eq (.ref l) (.ref b)) Q E s := by
  obtain ⟨items, n, ho, hz, hy⟩ := id hl
  obtain ⟨items2, n2, ho2, hz2, hy2⟩ := id hb
  refine wpAny_richCompare_same_room (op := .Eq) ⟨_, ho, rfl⟩ ⟨_, ho2, rfl⟩ PySem.F.slot_list_eq (GQ.call_here PySem.F.slot_list_eq ⟨_, ho, rfl⟩ PySem.F.entry_list_eq (PySem.F.args_list_eq_2 _ _) ?_) hu
  have first := eqloop_one (prog := prog) (w := w) (A := A) (R := wants (fun v s' => v ≠ .notImplemented ∧ Q v s') E) hl hb
    (wpAny_mono h (fun r s' hr => ⟨hr.1, hr.2.1, (fun z => nomatch z), hr.2.2⟩) fun _ _ x => x) 0 rfl
  have f3 := AutoSeq1.sub_list_list
  have hne : ¬ (items.size != items2.size) = true := by simp [hz, hz2]
  obtain ⟨hp, g, d, tk, os⟩ := s
  wp_walk using wpAny_loadPart' ho, wpAny_loadPart' ho2
  exact ⟨plainId_quiet plain_eq_loop _, codeAny_builtin entry_eq_loop (by
    rw [Around.under_plainId plain_eq_loop _]
    exact first)⟩
end
/-! ### the same over the layer -/
section
variable {X : Cx} {C f : Addr} {fd : FuncData} {ps : List Str} {sp : Sp} {n : Nat}
theorem one_at {pins : List (Addr × Obj)} {σ : L2.St} {H : Hp} {s : Shared} {l a : Addr} (I : Inv X pins σ H s) (h : H l = some (.lst [.ref a])) : OneAt l (.ref a) s := by
  obtain ⟨_, its, k, rv, h1⟩ := (show ObjOk X.prog X.w H s.heap l (.lst [.ref a]) from I.hok l _ h)
  cases rv with
  | cons r1 r2 =>
    cases r2
    cases r1
    exact ⟨_, _, h1, rfl, rfl⟩
/-- x in [y] -/
theorem op_in_one (EC : EqC X.K C f) (F : FnOk X.prog X.w X.K X.mg X.base CX0 n f fd ps sp) (hr : Room (n + 1) X.A) (hb : L2.Binds X.K fd ps []) :
    OpR X (compareOp .In) (fun x y H Q => ∃ (l a b dx dy : Addr) (fs gs : List (Str × V)), x = .ref a ∧ y = .ref l ∧ H l = some (.lst [.ref b]) ∧ H a = some (.ins C dx fs) ∧ H b = some (.ins C dy gs) ∧
      (b = a → Q (.bl true) H) ∧ (b ≠ a → sp [.ref b, .ref a] H (fun z H' => ∃ r, z = .bl r ∧ H' l = some (.lst [.ref b]) ∧ Q z H') E0)) := by
  intro pins s σ H x y v u Q I rx ry h
  obtain ⟨l, a, b, dx, dy, fs, gs, rfl, rfl, hl, ha, hb', h1, h2⟩ := h
  cases rx
  cases ry
  refine in_one (one_at I hl) (wpAny_mono (eqb_own (Q := fun z H' => H' l = some (.lst [.ref b]) ∧ Q z H') EC F ⟨hr.in1, rfl⟩ hb I hb' ha (fun e => ⟨hl, h1 e⟩) h2) (fun r s' hz => ?_) fun _ _ x => x)
  obtain ⟨H', I', q1, q2⟩ := hz
  exact ⟨one_at I' q1, .bl r, H', I', rfl, q2⟩
/-- [x] == [y] -/
theorem op_eq_one (EC : EqC X.K C f) (F : FnOk X.prog X.w X.K X.mg X.base CX0 n f fd ps sp) (hr : Room (n + 1) X.A) (hb : L2.Binds X.K fd ps []) :
    OpR X (compareOp .Eq) (fun x y H Q => ∃ (l k a b dx dy : Addr) (fs gs : List (Str × V)), x = .ref l ∧ y = .ref k ∧ H l = some (.lst [.ref b]) ∧ H k = some (.lst [.ref a]) ∧ H a = some (.ins C dx fs) ∧ H b = some (.ins C dy gs) ∧
      (b = a → Q (.bl true) H) ∧ (b ≠ a → sp [.ref b, .ref a] H (fun z H' => ∃ r, z = .bl r ∧ H' l = some (.lst [.ref b]) ∧ H' k = some (.lst [.ref a]) ∧ Q z H') E0)) := by
  intro pins s σ H x y v u Q I rx ry h
  obtain ⟨l, k, a, b, dx, dy, fs, gs, rfl, rfl, hl, hk, ha, hb', h1, h2⟩ := h
  cases rx
  cases ry
  refine eq_one hr.units0 (one_at I hl) (one_at I hk) (wpAny_mono (eqb_own (Q := fun z H' => H' l = some (.lst [.ref b]) ∧ H' k = some (.lst [.ref a]) ∧ Q z H') EC F ⟨hr.in1, rfl⟩ hb I hb' ha (fun e => ⟨hl, hk, h1 e⟩) h2) (fun r s' hz => ?_) fun _ _ x => x)
  obtain ⟨H', I', q1, q2, q3⟩ := hz
  exact ⟨one_at I' q1, one_at I' q2, .bl r, H', I', rfl, q3⟩
end
/-! ### the same, the answer told ahead, the heap as it was -/
section
variable {X : Cx} {C f : Addr} {fd : FuncData} {ps : List Str} {sp : Sp} {n : Nat}
theorem op_in_r (EC : EqC X.K C f) (F : FnOk X.prog X.w X.K X.mg X.base CX0 n f fd ps sp) (hr : Room (n + 1) X.A) (hb : L2.Binds X.K fd ps []) :
    OpR X (compareOp .In) (fun x y H Q => ∃ (r : Bool) (l a b dx dy : Addr) (fs gs : List (Str × V)), x = .ref a ∧ y = .ref l ∧ H l = some (.lst [.ref b]) ∧ H a = some (.ins C dx fs) ∧ H b = some (.ins C dy gs) ∧
      (b = a → r = true) ∧ sp [.ref b, .ref a] H (fun z H' => ∃ k, z = .bl k ∧ z = .bl r ∧ H' = H) E0 ∧ Q (.bl r) H) := by
  intro pins s σ H x y v u Q I rx ry h
  obtain ⟨r, l, a, b, dx, dy, fs, gs, rfl, rfl, hl, ha, hb', h1, h2, q⟩ := h
  cases rx
  cases ry
  refine in_one (one_at I hl) (wpAny_mono (eqb_own (Q := fun z H' => z = .bl r ∧ H' = H) EC F ⟨hr.in1, rfl⟩ hb I hb' ha (fun e => ⟨by rw [h1 e], rfl⟩) fun _ => h2) (fun k s' hz => ?_) fun _ _ x => x)
  obtain ⟨H', I', e, rfl⟩ := hz
  cases e
  exact ⟨one_at I' hl, .bl _, _, I', rfl, q⟩
theorem op_eq_r (EC : EqC X.K C f) (F : FnOk X.prog X.w X.K X.mg X.base CX0 n f fd ps sp) (hr : Room (n + 1) X.A) (hb : L2.Binds X.K fd ps []) :
    OpR X (compareOp .Eq) (fun x y H Q => ∃ (r : Bool) (l k a b dx dy : Addr) (fs gs : List (Str × V)), x = .ref l ∧ y = .ref k ∧ H l = some (.lst [.ref b]) ∧ H k = some (.lst [.ref a]) ∧ H a = some (.ins C dx fs) ∧ H b = some (.ins C dy gs) ∧
      (b = a → r = true) ∧ sp [.ref b, .ref a] H (fun z H' => ∃ k, z = .bl k ∧ z = .bl r ∧ H' = H) E0 ∧ Q (.bl r) H) := by
  intro pins s σ H x y v u Q I rx ry h
  obtain ⟨r, l, k, a, b, dx, dy, fs, gs, rfl, rfl, hl, hk, ha, hb', h1, h2, q⟩ := h
  cases rx
  cases ry
  refine eq_one hr.units0 (one_at I hl) (one_at I hk) (wpAny_mono (eqb_own (Q := fun z H' => z = .bl r ∧ H' = H) EC F ⟨hr.in1, rfl⟩ hb I hb' ha (fun e => ⟨by rw [h1 e], rfl⟩) fun _ => h2) (fun c s' hz => ?_) fun _ _ x => x)
  obtain ⟨H', I', e, rfl⟩ := hz
  cases e
  exact ⟨one_at I' hl, one_at I' hk, .bl _, _, I', rfl, q⟩
end
/-! ### != by an own __eq__ -/
section
variable {prog : Program} {w : World} {A : Around} {E : Value → Shared → Prop} {s : Shared} {K : PySem.W.Frag} {x C f : Addr} {ox : Obj} {od : Option Obj}
theorem ifBound_B {M : Model} {name : Str} {id : String} {args : List Value} {Q : Option Value → Shared → Prop} (X : K.In s.heap) (I : PySem.W.InstAt s.heap x ox C od)
    (hs : PySem.W.findIn K (.ref C) name = some (some (.builtin id))) (hb : ∀ self, bindSpecial (.builtin id) self = pure (.builtin id, [self]))
    (h : wpAny M A (call (.builtin id) (.ref x :: args)) (fun v => Q (some v)) E s) : wpAny M A (callSpecialIfBound? (.ref x) name args) Q E s := by
  simp only [callSpecialIfBound?, bindSpecialIfBound?]
  refine wpAny_holding (wpAny_bind (wpAny_bind (wpAny_bind (I.type.here ((PySem.W.looks_findIn X hs).here ?_)))))
  refine wpAny_bind (wpAny_askSetting (wpAny_ite ?_))
  have fin : wpAny M A (call (.builtin id) ([.ref x] ++ args) >>= fun v => pure (some v)) Q E s := wpAny_bind (wpAny_mono h (fun v s' h' => wpAny_pure h') fun _ _ h' => h')
  have bd : PySem.W.Looks M s.heap (bindSpecial (.builtin id) (.ref x)) (.builtin id, [.ref x]) := PySem.W.Looks.of_pure (hb _)
  split
  · exact wpAny_bind (bd.here (wpAny_pure (by exact fin)))
  · exact wpAny_tryCatch (wpAny_bind (bd.here (wpAny_pure (by exact fin))))
theorem ne_own {Q : Value → Shared → Prop} {y : Addr} {oy : Obj} {oe : Option Obj} (hu : A.units + 1 < cLine) (EC : EqC K C f) (X : K.In s.heap) (I : PySem.W.InstAt s.heap x ox C od) (J : PySem.W.InstAt s.heap y oy C oe)
    (h : wpAny (model prog w) A.in1 (call (.ref f) [.ref x, .ref y]) (fun v s' => ∃ b, v = .bool b ∧ Q (.bool (!b)) s') E s) : wpAny (model prog w) A (richCompare .NotEq (.ref x) (.ref y)) Q E s := by
  have one : wpAny (model prog w) A (tryCompare (.ref x) "__ne__" (.ref y)) (fun r s' => ∃ v, r = some v ∧ Q v s') E s := by
    unfold tryCompare
    refine wpAny_bind (ifBound_B X I EC.ne PySem.F.slot_object_ne.bind ?_)
    refine wpAny_call (codeAny_call_builtin PySem.F.slot_object_ne.plain PySem.F.cmpEntry_ne (PySem.W.check_slot PySem.F.cmpKind_ne PySem.F.cmpSplit_ne (I.type.andThen (PySem.W.looks_mroIn X EC.ob)) (PySem.F.cmpArgs_ne _ _) ?_))
    unfold Builtin.«object.__ne__»
    refine wpAny_bind (m := slotArgs "__ne__" 1 _) (wpAny_pure ?_)
    refine wpAny_bind (m := cRoomFor _ _) (wpAny_cRoomFor (by show A.units + 1 < cLine; exact hu) ?_)
    refine wpAny_bind (m := callSpecialIfBound? (.ref x) (Str.ofString "__eq__") _) (PySem.W.ifBound_K X I EC.eq EC.fn (wpAny_mono h (fun v s' hv => ?_) fun _ _ e => e))
    obtain ⟨b, rfl, q⟩ := hv
    refine wpAny_bind (m := truthy (.bool b)) (wpAny_truthy_bool ?_)
    exact wpAny_pure (wpAny_pure ⟨_, rfl, q⟩)
  unfold richCompare
  simp only [oneThing_ref, cmpInfo]
  refine wpAny_holding (wpAny_bind (wpAny_cRoomFor (by omega) ?_))
  refine wpAny_bind (I.type.here (wpAny_bind (J.type.here ?_)))
  rw [if_neg (by simp)]
  refine wpAny_bind (wpAny_pure ?_)
  simp only [Bool.false_eq_true, if_false]
  refine wpAny_bind (m := tryCompare (.ref x) _ (.ref y)) (wpAny_mono one (fun r s' z => ?_) fun _ _ e => e)
  obtain ⟨v, rfl, hq⟩ := z
  exact wpAny_pure hq
end
section
variable {X : Cx} {C f : Addr} {fd : FuncData} {ps : List Str} {sp : Sp} {n : Nat}
theorem op_ne_own (EC : EqC X.K C f) (F : FnOk X.prog X.w X.K X.mg X.base CX0 n f fd ps sp) (hr : Room (n + 1) X.A) (hb : L2.Binds X.K fd ps []) :
    OpR X (compareOp .NotEq) (fun x y H Q => ∃ (a b dx dy : Addr) (fs gs : List (Str × V)), x = .ref a ∧ y = .ref b ∧ H a = some (.ins C dx fs) ∧ H b = some (.ins C dy gs) ∧
      sp [.ref a, .ref b] H (fun z H' => ∃ k, z = .bl k ∧ ∃ r, z = .bl r ∧ Q (.bl (!r)) H') E0) := by
  intro pins s σ H x y v u Q I rx ry h
  obtain ⟨a, b, dx, dy, fs, gs, rfl, rfl, ha, hb', h1⟩ := h
  cases rx
  cases ry
  obtain ⟨mA, J, _⟩ := ins_get I.hok ha
  obtain ⟨od, J, _⟩ := J.look
  obtain ⟨mB, J', _⟩ := ins_get I.hok hb'
  obtain ⟨od', J', _⟩ := J'.look
  refine ne_own (by have := hr.units; omega) EC I.kIn J J' (wpAny_mono (run_eq (v := .ref b) (Q := fun z H' => ∃ r, z = .bl r ∧ Q (.bl (!r)) H') F ⟨hr.in1, rfl⟩ hb I rfl h1) (fun z s' hz => ?_) fun _ _ x => x)
  · obtain ⟨r, H', rfl, I', r', e, q⟩ := hz
    cases e
    exact ⟨r, rfl, .bl (!r), H', I', rfl, q⟩
/-! ### repr, str of an instance -/
theorem run_str {A : Around} {pins : List (Addr × Obj)} {σ : L2.St} {H : Hp} {s : Shared} {Q : VK} {a : Addr}
    (F : FnOk X.prog X.w X.K X.mg X.base CX0 n f fd ps sp) (sb : L2.Sub X n A) (hb : L2.Binds X.K fd ps []) (I : Inv X pins σ H s)
    (h : sp [.ref a] H (fun z H' => ∃ t, z = .str t ∧ Q z H') E0) :
    wpAny (model X.prog X.w) A (call (.ref f) [.ref a]) (PySem.W.StrBack (EP X pins σ Q)) X.xe s := by
  have e0 : Env0 X.prog X.w X.K X.mg X.base A X.stack s H := by
    have e := I.env0
    exact ⟨by rw [sb.fr]; exact e.frames, e.mod, e.bs, e.bsz, e.funs, e.frf, e.hok, e.bare⟩
  have r2 : Vals [V.ref a] [Value.ref a] := .cons rfl .nil
  have hl := F.len _ _ _ _ h
  have b := hb s [.ref a] I.kIn (by simpa using hl)
  rw [List.append_nil] at b
  refine wpAny_call (codeAny_mono (F.run A X.stack s H ⟨[.ref a], []⟩ [.ref a] [.ref a] _ E0 sb.room e0 b r2 h) fun r s' hq => ?_)
  match r, hq with
  | .error _, hq => exact hq.elim
  | .ok .next, hq => exact hq.elim
  | .ok .brk, hq => exact hq.elim
  | .ok .cont, hq => exact hq.elim
  | .ok (.ret z), hq =>
    obtain ⟨z', H', I', rz, t, rfl, q⟩ := I.after hq
    obtain ⟨tk, rfl⟩ := rz
    exact ⟨.str t, H', I', ⟨tk, rfl⟩, q⟩
theorem call_repr_own (hs : PySem.W.findIn X.K (.ref C) "__repr__" = some (some (.ref f))) (hf : PySem.W.isFn X.K (.ref f) = true) (F : FnOk X.prog X.w X.K X.mg X.base CX0 n f fd ps sp) (hr : Room (n + 1) X.A) (hb : L2.Binds X.K fd ps []) :
    CallR X (.builtin "repr") (fun xs H Q => ∃ a dx fs, xs = [.ref a] ∧ H a = some (.ins C dx fs) ∧ sp [.ref a] H (fun z H' => ∃ t, z = .str t ∧ Q z H') E0) := by
  intro pins s σ H xs us Q I r h
  obtain ⟨a, dx, fs, rfl, ha, h⟩ := h
  rw [Vals.ref1 r]
  obtain ⟨mA, J, _⟩ := ins_get I.hok ha
  obtain ⟨od, J, _⟩ := J.look
  obtain ⟨m, hF⟩ := I.fr
  exact PySem.W.repr_K hr.in1.units0 hF I.ok.mod.kin J hs hf (run_str F ⟨hr.in1, rfl⟩ hb I h)
theorem call_str_own (hs : PySem.W.findIn X.K (.ref C) "__str__" = some (some (.ref f))) (hf : PySem.W.isFn X.K (.ref f) = true) (F : FnOk X.prog X.w X.K X.mg X.base CX0 n f fd ps sp) (hr : Room (n + 2) X.A) (hb : L2.Binds X.K fd ps []) :
    CallR X (.type "str") (fun xs H Q => ∃ a dx fs, xs = [.ref a] ∧ H a = some (.ins C dx fs) ∧ sp [.ref a] H (fun z H' => ∃ t, z = .str t ∧ Q z H') E0) := by
  intro pins s σ H xs us Q I r h
  obtain ⟨a, dx, fs, rfl, ha, h⟩ := h
  rw [Vals.ref1 r]
  obtain ⟨mA, J, _⟩ := ins_get I.hok ha
  obtain ⟨od, J, _⟩ := J.look
  exact PySem.W.kso_call hr.in1.in1.units0 I.kIn J hs hf (run_str F ⟨hr.in1.in1, rfl⟩ hb I h)
end
/-! ### o.m(k = v): a method by keywords alone, what is raised wished for at the slots -/
section
variable {X : Cx} {CX : CXT} {k : Nat} {f C : Addr} {fd : FuncData} {ps ks : List Str} {sp : Sp} {E : L2.St → XK} {m : Str} {apos pos : Pos} {o : Expr} {kws : List Keyword} {ta : TE} {tk : TA}
  {g : List Value → List Value → List Value} {gV : List V → List V → List V}
def tMethKw (C : Addr) (m : Str) (sp : Sp) (gV : List V → List V → List V) (E : L2.St → XK) (ta : TE) (tk : TA) : TE := fun σ H Q => ta σ H fun x H1 => ∃ a dx fs, x = .ref a ∧ H1 a = some (.ins C dx fs) ∧ fs.lookup m = none ∧
  tk σ H1 fun zs H2 => sp (gV [x] zs) H2 Q (E σ)
theorem pe_methKw {pl : Sem Bool} (he : PE X o ta) (c : Cls X.K C) (hm : Meth X.K C m f) (F : FnOk X.prog X.w X.K X.mg X.base CX k f fd ps sp) (hr : Room k X.A) (hb : KBinds X.K fd ps ks g gV) (hx : ∀ σ, PassesAt CX X σ (E σ)) (hkw : PK X kws tk)
    (hall : (backToKw pos (keywordEach kws X.env)).all (·.1.isSome) = true := by rfl)
    (hks : (backToKw pos (keywordEach kws X.env)).filterMap (·.1) = ks := by rfl)
    (hpl : ((backTo pos (starEach [] X.env)).any (·.1) || (backToKw pos (keywordEach kws X.env)).any (·.1.isNone)) = false := by rfl)
    (ht : eval (.Call (.Attribute o m apos) [] kws pos) X.env = (do
      let ov ← eval o X.env
      standAt apos.atName
      let (f, first) ← holding [ov] (getMethod ov m pl)
      callWith pos f first (backTo pos (starEach [] X.env)) (backToKw pos (keywordEach kws X.env))) := by rfl) :
    PE X (.Call (.Attribute o m apos) [] kws pos) (tMethKw C m sp gV E ta tk) := by
  refine ⟨fun pins s σ H Q I h => ?_⟩
  refine PySem.W.methodCall_KW (pl := pl) (thn (he.run pins s σ H _ I h) fun u s1 ⟨x, H1, I1, rx, a, dx, fs, ex, ea, l, q⟩ => ?_) ht
  subst ex
  obtain rfl : u = Value.ref a := rx
  refine getmeth_ok I1 ea c hm l ?_
  refine PySem.W.callWith_KW0 (first := [.ref a]) (h₀ := X.base) I.ok.mod.kin hm.kp hall ?_ hpl
  refine thn (hkw.run pos pins s1 σ H1 _ I1 q) fun ws s2 ⟨zs, H2, I2, rz, q2⟩ => ⟨I2.kIn, ?_⟩
  rw [hks]
  have r1 : Vals [V.ref a] [Value.ref a] := .cons rfl .nil
  have r2 := hb.rel r1 rz
  have hl : (g [Value.ref a] ws).length = ps.length := r2.length.symm.trans (F.len _ _ _ _ q2)
  refine wpAny_call (codeAny_mono (F.run X.A X.stack s2 H2 ⟨[.ref a], ks.zip ws⟩ (g [.ref a] ws) (gV [.ref a] zs) Q (E σ) hr I2.env0 (hb.to s2 [.ref a] ws I2.kIn hl) r2 q2) fun r s' hq => ?_)
  match r, hq with
  | .error e, hq => exact hx σ pins H2 s2 e s' I2 hq
  | .ok (.ret u), hq => exact I2.after hq
  | .ok .next, hq => exact hq.elim
  | .ok .brk, hq => exact hq.elim
  | .ok .cont, hq => exact hq.elim
end
end LT

set_option Elab.async false
set_option linter.all false
set_option maxRecDepth 100000
set_option maxHeartbeats 1000000
namespace LT
open PySem PySem.Spec PyProof.Rows L2 LamX
abbrev noX : CXT := fun _ _ _ _ _ _ => False
abbrev noE : XK := fun _ _ _ => False
/-! ### a lambda of one parameter -/
/-- x is the parameter; every other name is captured or global -/
structure LamP (sc scope : Scope) (x : Str) : Prop where
  kind : scope.kind = .function
  co : scope.isCoroutine = false
  gen : scope.isGenerator = false
  par : scope.names.lookup x = some .local
  nc : ∀ y ∈ scope.names, y.2 ≠ .cell
  own : ∀ y, scope.names.lookup y = some .local → y = x
  free : ∀ y ∈ scope.names, y.2 = .free → sc.names.lookup y.1 = some .cell ∨ sc.names.lookup y.1 = some .free
def lamPB (sc scope : Scope) (x : Str) : Bool :=
  decide (scope.kind = .function) && (!scope.isCoroutine && (!scope.isGenerator && (decide (scope.names.lookup x = some .local) && (scope.names.all (fun y => !decide (y.2 = .cell)) && (scope.names.all (fun y => !decide (y.2 = .local) || decide (y.1 = x)) &&
    scope.names.all (fun y => !decide (y.2 = .free) || (decide (sc.names.lookup y.1 = some .cell) || decide (sc.names.lookup y.1 = some .free))))))))
theorem lamP_by {sc scope : Scope} {x : Str} (h : lamPB sc scope x = true) : LamP sc scope x := by
  unfold lamPB at h
  simp only [Bool.and_eq_true, Bool.or_eq_true, Bool.not_eq_true', decide_eq_true_eq, decide_eq_false_iff_not, List.all_eq_true] at h
  obtain ⟨h1, h2, h3, h4, h5, h6, h7⟩ := h
  refine ⟨h1, h2, h3, h4, h5, fun y hy => ?_, fun y hy e => ?_⟩
  · rcases h6 (y, .local) (PySem.mem_of_lookup hy) with z | z
    · exact absurd rfl z
    · exact z
  · rcases h7 y hy with z | z
    · exact absurd e z
    · exact z
theorem LamP.has {X : Cx} {scope : Scope} {x : Str} (L : LamP X.env.scope scope x) (ok : X.Ok) : ∀ y ∈ scope.names, y.2 = .free → ∃ c, X.env.cells.lookup y.1 = some c :=
  fun y hy e => (L.free y hy e).elim (fun k => ok.has _ (.inl k)) (fun k => ok.has _ (.inr k))
/-- where the body of the lambda runs: slot 0 is the parameter, behind it the maker's slots -/
def lamCxP (CX : CXT) (X : Cx) (A : Around) (outer : List Env) (s : Shared) (H : Hp) (E : XK) (scope : Scope) (f c' : Addr) (x : Str) : Cx where
  prog := X.prog
  w := X.w
  K := X.K
  mg := X.mg
  base := X.base
  A := A.deeper (lamEnv X scope s.heap.objs.size f c')
  N := x :: X.N
  s_0 := s
  H_0 := H
  env := lamEnv X scope s.heap.objs.size f c'
  outer := outer
  stack := lamEnv X scope s.heap.objs.size f c' :: outer
  ex := []
  fn := fun _ => false
  calm := true
  pn := []
  xe := fun e s' => wpAny (model X.prog X.w) (A.deeper (lamEnv X scope s.heap.objs.size f c')) (leaving (lamEnv X scope s.heap.objs.size f c') e) (fun _ z => CX outer H s E e z) (fun e' z => CX outer H s E e' z) s'
section
variable {X : Cx} {pins : List (Addr × Obj)} {σ : L2.St} {H HZ : Hp} {s s1 : Shared} {CX : CXT}
theorem lam_startP {A : Around} {outer : List Env} {E : XK} {scope : Scope} {f c' : Addr} {x : Str} {v : V} {u : Value} {h₁ : Heap} {tk : Nat} (I : Inv X pins σ H s) (L : LamP X.env.scope scope x) (hx : x ∉ X.N)
    (e0 : Env0 X.prog X.w X.K X.mg X.base A outer s1 HZ) (hd : A.handled = none) (un : Un (frs X.stack) [] H HZ s.heap s1.heap) (r : RelV v u)
    (hns : h₁.Ns s1.heap.objs.size fun y => [(x, u)].reverse.lookup y) (kp : ∀ b o, s1.heap.get? b = some o → h₁.get? b = some o) :
    Inv (lamCxP CX X A outer s1 HZ E scope f c' x) [] (some v :: σ) HZ { s1 with heap := h₁, toks := tk } := by
  have hfree := L.has I.ok
  have cm : ∀ {y c}, (cloFrom X.env.cells scope.names []).lookup y = some c → X.env.cells.lookup y = some c := fun {y c} e => by
    rcases cloFrom_mem (PySem.mem_of_lookup e) with hm | ⟨g1, g2⟩
    · cases hm
    · obtain ⟨c1, hc⟩ := hfree _ g1 rfl
      have hc : X.env.cells.lookup y = some c1 := hc
      have e2 : c = c1 := by rw [g2, hc] <;> rfl
      rw [e2, hc]
  have look : ∀ {y}, scope.names.lookup y = some .free → ∃ c, (cloFrom X.env.cells scope.names []).lookup y = some c := fun {y} hl =>
    mem_lookup (cloFrom_has (cells := X.env.cells) (acc := []) (show (y, NameKind.free) ∈ scope.names from PySem.mem_of_lookup hl))
  have cellK : ∀ {c : Addr} {z : Option Value}, H c = none → s.heap.IsCell c z → h₁.IsCell c z := fun {c z} n ⟨o, ho, hd⟩ =>
    let ⟨_, q⟩ := un.any ho n (by simp)
    ⟨_, kp _ _ q, hd⟩
  have noA : ∀ b : Addr, b ∉ (lamCxP CX X A outer s1 HZ E scope f c' x).ex := fun b z => nomatch (show b ∈ ([] : List Addr) from z)
  refine ⟨⟨e0.mod, L.kind, rfl, rfl, Nat.le_refl _, fun y z c e1 e2 => I.ok.inj y z c (cm e1) (cm e2), fun y hy => ?has, fun y c z _ => (nomatch (show false = true from z)), fun _ => hd, Around.frames_deeper e0.frames, .inr ⟨rfl, rfl⟩, fun b z => absurd z (noA b),
      e0.bs, e0.bsz, fun b _ _ => noA b, fun b z => absurd z (noA b), e0.funs, e0.frf⟩,
    rfl, e0.bare, Un.kept kp, ⟨_, hns, fun i y z e1 e2 e3 => ?loc⟩, fun y c e => ?cell, e0.hok.fresh (Nat.le_refl _), fun y c e => ?freeC, fun q hq => (nomatch (show q ∈ ([] : List (Addr × Obj)) from hq)), e0.hok.kept kp, ?len⟩
  case has =>
    have hy : scope.names.lookup y = some .cell ∨ scope.names.lookup y = some .free := hy
    rcases hy with hy | hy
    · exact absurd rfl (L.nc _ (PySem.mem_of_lookup hy))
    · exact look hy
  case loc =>
    have e3 : Vis scope y := e3
    cases i with
    | zero =>
      have a1 : x = y := Option.some.inj e1
      have a2 : v = z := Option.some.inj (Option.some.inj e2)
      subst a1 a2
      refine ⟨u, r, .inl ⟨L.par, ?_⟩⟩
      show List.lookup x [(x, u)] = some u
      rw [List.lookup_cons, beq_self_eq_true]
    | succ i =>
      have n1 : X.N[i]? = some y := e1
      have n2 : σ[i]? = some (some z) := e2
      rcases e3 with k | k | k
      · exact absurd (L.own _ k ▸ List.mem_of_getElem? n1) hx
      · exact absurd rfl (L.nc _ (PySem.mem_of_lookup k))
      · obtain ⟨m, hn, hl⟩ := I.loc
        have kf := L.free _ (PySem.mem_of_lookup k) rfl
        obtain ⟨w', r', q⟩ := hl i y z n1 n2 (kf.elim (fun k => .inr (.inl k)) (fun k => .inr (.inr k)))
        obtain ⟨c2, h2⟩ := look k
        refine ⟨w', r', .inr ⟨.inr k, c2, h2, ?_⟩⟩
        have c1 := cm h2
        rcases q with ⟨k', _⟩ | ⟨_, c3, e', zz⟩
        · have k' : X.env.scope.names.lookup y = some .local := k'
          rcases kf with k2 | k2 <;> rw [show X.env.scope.names.lookup y = _ from k2] at k' <;> cases k'
        · rw [c1] at e'
          cases e'
          exact cellK (I.freeC y _ c1) zz
  case cell =>
    obtain ⟨w', z⟩ := I.cell y c (cm e)
    exact ⟨w', cellK (I.freeC y c (cm e)) z⟩
  case freeC =>
    obtain ⟨w', o, ho, _⟩ := I.cell y c (cm e)
    exact un.free c o ho (I.freeC y c (cm e)) (by simp)
  case len =>
    show σ.length + 1 = X.N.length + 1
    rw [I.len]
/-- the lambda called with one value -/
theorem lam_run {A : Around} {outer : List Env} {E : XK} {scope : Scope} {f c' : Addr} {x : Str} {v : V} {u pm ctv : Value} {params : Arguments} {body : Expr} {k : Nat} {Q : VK} {tb : TE} (I : Inv X pins σ H s) (L : LamP X.env.scope scope x) (hx : x ∉ X.N)
    (e0 : Env0 X.prog X.w X.K X.mg X.base A outer s1 HZ) (un : Un (frs X.stack) [] H HZ s.heap s1.heap)
    (hf : s1.heap.get? f = some (PySem.W.kla_obj "<lambda>" (X.env.qual ++ "<lambda>") params body scope (cloFrom X.env.cells scope.names []) pm c' ctv)) (hc : HZ c' = some (CodeO c' (X.env.qual ++ "<lambda>")))
    (hbind : bindArgs (PySem.W.kla_fn "<lambda>" (X.env.qual ++ "<lambda>") params body scope (cloFrom X.env.cells scope.names []) pm (.ref c') ctv) ⟨[u], []⟩ = pure [(x, u)]) (r : RelV v u) (hr : Room (k + 1) A)
    (hbody : Room k (A.deeper (lamEnv X scope s1.heap.objs.size f c')) → PE (lamCxP CX X A outer s1 HZ E scope f c' x) body tb) (ht : tb (some v :: σ) HZ Q) :
    codeAny (model X.prog X.w) A (.call (.ref f) ⟨[u], []⟩) (CR CX outer X.prog X.w HZ s1 Q E) s1 := by
  obtain ⟨⟨oc, vs, t, hoc, hdc, hvc⟩, _, _⟩ := e0.hok c' _ hc
  have lim : s1.heap.NoLimit := e0.mod.nolimit.keeps fun b o e => (e0.bs b o e).1
  refine PySem.W.kla_callFunE hr.depth hf rfl L.co L.gen rfl ⟨c', oc, vs, t, rfl, hoc, hdc, hvc⟩ ?_
  rw [hbind]
  refine wpAny_pure (wpAny_newFunctionEnv L.nc (fun y hy => ?_) (fun h₁ hns hsb => ⟨lim.fresh _ hsb, ?_⟩) L.kind)
  · rw [List.mem_singleton.mp hy]
    exact L.par
  show codeAny _ _ (.expr body (lamEnv X scope s1.heap.objs.size f c')) _ _
  have kp : ∀ b o, s1.heap.get? b = some o → h₁.get? b = some o := fun b o e => hsb.extBut b o (Nat.ne_of_lt (Heap.lt_size e)) (Heap.get?_push_of_some _ e)
  have J : Inv (lamCxP CX X A outer s1 HZ E scope f c' x) [] (some v :: σ) HZ { s1 with heap := h₁, toks := s1.toks + [(x, u)].length } := lam_startP I L hx e0 hr.hd un r hns kp
  refine PySem.W.kla_codeExpr (wpAny_mono ((hbody (hr.deeper _)).run [] _ _ HZ Q J ht) (fun z s' hq => ?_) fun e s' hq => hq)
  obtain ⟨w', H', J', rv, q⟩ := hq
  exact ⟨w', H', J'.os, J'.bare, J'.base, J'.hok, rv, q⟩
end
end LT

set_option Elab.async false
set_option linter.all false
set_option maxRecDepth 100000
set_option maxHeartbeats 1000000
namespace LT
open PySem PySem.Spec PyProof.Rows L2 LamX
/-! ### sorted(list or tuple, key=f) -/
theorem freed_get {h : Heap} {a : Addr} : (h.update a fun o => { o with data := .freed }).get? a = none := by
  obtain ⟨objs, l⟩ := h
  show Heap.get? ⟨objs.modify a (fun o => { o with data := .freed }), l⟩ a = none
  unfold Heap.get?
  show (match (objs.modify a (fun o => { o with data := .freed }))[a]? with
    | some ⟨_, _, .freed, _⟩ => none
    | r => r) = none
  rw [Array.getElem?_modify, if_pos rfl]
  cases objs[a]? <;> rfl
theorem vals_at : ∀ {xs : List V} {us : List Value}, Vals xs us → ∀ (j : Nat) {v : V} {u : Value}, xs[j]? = some v → us[j]? = some u → RelV v u
  | _, _, .cons h _, 0, _, _, e1, e2 => by
    cases e1
    cases e2
    exact h
  | _, _, .cons _ t, j + 1, _, _, e1, e2 => vals_at t j e1 e2
theorem dataLe_int {β : Type} (k : β → Int) : PySem.W.dataLe false (fun v => PyData.int (k v)) = fun a b => decide (k a ≤ k b) := by
  funext a b
  have e : PySem.W.dataLe false (fun v => PyData.int (k v)) a b = !(PyProof.Rows.lexLt itemOrd [.inl (k b)] [.inl (k a)]) := rfl
  rw [e]
  have e2 : PyProof.Rows.lexLt itemOrd [.inl (k b)] [.inl (k a)] = decide (k b < k a) := by
    show (decide (k b < k a) || (!decide (k a < k b) && false)) = _
    rw [Bool.and_false, Bool.or_false]
  rw [e2, Bool.eq_iff_iff]
  simp
section
variable {prog : Program} {w : World} {A : Around} {E : Value → Shared → Prop} {s : Shared}
theorem sorted_seq {it : Addr} {T : String} {o : Obj} {vs : List Value} {n : Nat} {kw : List (Str × Value)} {Q : Value → Shared → Prop} (hT : T = "list" ∨ T = "tuple") (ho : s.heap.get? it = some o) (hc : o.cls = .type T) (hd : o.data = .seq vs.toArray n) (hL : vs.length ≤ sizeLine)
    (ha1 : argsOk "sorted" ⟨[.ref it], kw⟩) (ha2 : ∀ x, argsOk "list.sort" ⟨[.ref x], kw⟩)
    (go : ∀ (E' : Value → Shared → Prop) (g : Heap), (∀ b u, s.heap.get? b = some u → g.get? b = some u) →
      wpAny (model prog w) A.in1.in1 (Builtin.«list.sort» ⟨[.ref g.objs.size], kw⟩) (fun f s' => f = .done (.ret .none) ∧ Q (.ref g.objs.size) s') E' { s with heap := g.push (seqObj "list" vs.toArray 0) }) :
    wpAny (model prog w) A (call (.builtin "sorted") [.ref it] kw) Q E s := by
  refine call_function_entry_kw kind_sorted plain_sorted entry_sorted ha1 ?_
  unfold Builtin.«sorted»
  refine wpAny_bind (m := checkCount "sorted" 1 1 _) (wpAny_pure ?_)
  refine wpAny_bind (wpAny_collect_seq it hT ho hc hd (fun g hg => ?_) (by rw [List.size_toArray]; exact hL))
  refine wpAny_bind (wpAny_newList ?_ hL)
  refine wpAny_bind (wpAny_holding (wpAny_call_entry_kw slot_list_sort ⟨_, Heap.get?_push_size _ rfl, rfl⟩ entry_list_sort ?body (ha2 _)))
  case body =>
    refine wpAny_mono (go _ g hg) (fun f s' hf => ?_) fun _ _ e => e
    obtain ⟨rfl, hq⟩ := hf
    exact ⟨_, rfl, wpAny_pure ⟨_, rfl, hq⟩⟩
end
section
variable {X : Cx} {pins : List (Addr × Obj)} {σ : L2.St} {H : Hp} {s : Shared}
/-- an object that was not looked at is looked at as a list from now on -/
theorem inv_track {a : Addr} {ys : List V} {out : List Value} {c : Nat} (I : Inv X pins σ H s) (fp : FpOk X pins H a) (hv : Vals ys out) (hz : ys.length ≤ sizeLine) (ho : s.heap.get? a = some (seqObj "list" out.toArray c)) :
    Inv X pins σ (upd H a (.lst ys)) s := by
  have ne : ∀ b u, H b = some u → b ≠ a := fun b u e => ne_of_none e fp.1
  have at_ : ∀ b u, H b = some u → upd H a (.lst ys) b = some u := fun b u e => by rw [upd_ne (ne b u e)]; exact e
  refine I.step (h' := s.heap) (g' := s.gens) (d' := s.drawn) (t' := s.toks) (ch := [a]) (fun b hb => ?_) (fun _ _ _ _ _ e _ => e) (fun b o _ _ _ e _ => ⟨o.slots, e⟩) (fun b o hb e n => ?_) (fun b o _ e => ⟨o, e⟩) (fun b xs e => at_ _ _ e) (fun b o u e => at_ _ _ e) (fun b ps e => ⟨#[], by rw [at_ _ _ e]; simp⟩) (fun _ h => h) (fun b u e => ?_) I.bare
  · rw [List.mem_singleton.mp hb]
    exact ⟨fp.2.2.2.1, fp.2.1, fp.2.2.2.2.1, fp.2.2.2.2.2⟩
  · rw [upd_ne (fun z => hb (by rw [z]; exact List.mem_singleton.mpr rfl))]
    exact n
  · by_cases hb : b = a
    · subst hb
      rw [upd_same] at e
      cases e
      exact ⟨hz, out, c, hv, ho⟩
    · rw [upd_ne hb] at e
      exact (I.hok b u e).stay (fun _ _ _ q => q) (fun d q => at_ _ _ q) fun d xs q => at_ _ _ q
/-- the calls of the key, the sorting, the new list -/
theorem sort_keyed {xs : List V} {us : List Value} {k : V → Int} {f : Value} {g : Heap} {E' : Value → Shared → Prop} {A : Around} {R : PySem.Fin → Shared → Prop} (I : Inv X pins σ H { s with heap := g }) (hv : Vals xs us) (hz : us.length ≤ sizeLine) (hu : A.units < cLine)
    (turn : ∀ (pins' : List (Addr × Obj)) (s' : Shared) (v : V) (u : Value), (∀ p ∈ pins, p ∈ pins') → Inv X pins' σ H s' → v ∈ xs → RelV v u →
      wpAny (model X.prog X.w) A (call f [u]) (fun z s'' => ∃ t, z = .int (k v) t ∧ Inv X pins' σ H s'') (fun _ _ => False) s')
    (fin : ∀ s', H g.objs.size = none → Inv X pins σ (upd H g.objs.size (.lst (xs.mergeSort fun a b => decide (k a ≤ k b)))) s' → R (.done (.ret .none)) s') :
    wpAny (model X.prog X.w) A (ksk_tree g.objs.size f false) R E' { s with heap := g.push (seqObj "list" us.toArray 0) } := by
  have ho : (g.push (seqObj "list" us.toArray 0)).get? g.objs.size = some (seqObj "list" us.toArray 0) := Heap.get?_push_size _ rfl
  obtain ⟨e1, ho1⟩ : ∃ e1, ((g.push (seqObj "list" us.toArray 0)).update g.objs.size (Obj.mapSeq fun _ => (#[] : Array Value))).get? g.objs.size = some (seqObj "list" #[] e1) := ⟨_, get?_update_seq ho fun _ => #[]⟩
  have fa0 : FpOk X pins H g.objs.size := I.fpOk (Nat.le_refl _) (I.hok.fresh (Nat.le_refl _))
  generalize ea : g.objs.size = a at *
  have old : ∀ b u, g.get? b = some u → ((g.push (seqObj "list" us.toArray 0)).update a (Obj.mapSeq fun _ => (#[] : Array Value))).get? b = some u := fun b u e => by
    rw [Heap.get?_update_ne _ _ _ _ (by rw [← ea]; exact Nat.ne_of_lt (Heap.lt_size e))]
    exact Heap.get?_push_of_some _ e
  have hs1 : ((g.push (seqObj "list" us.toArray 0)).update a (Obj.mapSeq fun _ => (#[] : Array Value))).objs.size = a + 1 := by rw [Heap.size_update, size_push', ea]
  unfold ksk_tree
  refine wpAny_bind (listItems_at ho rfl ?_)
  refine wpAny_bind (listUpdate_at ho rfl ?_ (by rw [List.size_toArray]; exact hz) (Nat.zero_le _))
  refine wpAny_bind (seqEpoch_at ho1 rfl ?_)
  refine wpAny_bind (wpAny_newTuple ?_ (by show us.length ≤ _; exact hz))
  refine wpAny_bind (wpAny_newList ?_ (Nat.zero_le _))
  refine wpAny_holding ?_
  generalize eg1 : (g.push (seqObj "list" us.toArray 0)).update a (Obj.mapSeq fun _ => (#[] : Array Value)) = g1 at *
  have hs2 : (g1.push (seqObj "tuple" us.toArray 0)).objs.size = a + 2 := by rw [size_push', hs1]
  have nk : ((g1.push (seqObj "tuple" us.toArray 0)).push (seqObj "list" #[] 0)).get? (a + 2) = some (seqObj "list" #[] 0) := by
    rw [← hs2]
    exact Heap.get?_push_size _ rfl
  have na : ((g1.push (seqObj "tuple" us.toArray 0)).push (seqObj "list" #[] 0)).get? a = some (seqObj "list" #[] e1) := Heap.get?_push_of_some _ (Heap.get?_push_of_some _ ho1)
  have old2 : ∀ b u, g.get? b = some u → ((g1.push (seqObj "tuple" us.toArray 0)).push (seqObj "list" #[] 0)).get? b = some u := fun b u e => Heap.get?_push_of_some _ (Heap.get?_push_of_some _ (old b u e))
  show wpAny (model X.prog X.w) A (ksk_rest a f false us.toArray _ (.ref (g1.push (seqObj "tuple" us.toArray 0)).objs.size)) _ _ _
  rw [hs2]
  generalize (g1.push (seqObj "tuple" us.toArray 0)).push (seqObj "list" #[] 0) = g2 at *
  have I2 : Inv X pins σ H { s with heap := g2 } := by
    have := I.kept (h' := g2) (t' := s.toks) old2
    exact this
  have fk0 : FpOk X pins H (a + 2) := I.fpOk (by show g.objs.size ≤ a + 2; omega) (I.hok.fresh (by show g.objs.size ≤ a + 2; omega))
  have pinA : ∀ {s' : Shared}, Inv X pins σ H s' → s'.heap.get? a = some (seqObj "list" #[] e1) → Inv X ((a, seqObj "list" #[] e1) :: pins) σ H s' := fun {s'} J e => J.pins_of fun p hp => by
    rcases List.mem_cons.mp hp with rfl | hp
    · exact ⟨e, fa0.1, fa0.2.1, fa0.2.2.1, fun v z => nomatch z⟩
    · exact J.pin p (List.mem_append_right _ hp)
  have fk : FpOk X ((a, seqObj "list" #[] e1) :: pins) H (a + 2) := ⟨fk0.1, fk0.2.1, fk0.2.2.1, fk0.2.2.2.1, fk0.2.2.2.2.1, fun p hp => by
    rcases List.mem_append.mp hp with h | h
    · exact fk0.2.2.2.2.2 p (List.mem_append_left _ h)
    · rcases List.mem_cons.mp h with rfl | h
      · show a ≠ a + 2
        omega
      · exact fk0.2.2.2.2.2 p (List.mem_append_right _ h)⟩
  have hlen : us.length = xs.length := hv.length.symm
  unfold ksk_rest
  refine wpAny_bind (wpAny_rule ?_)
  rw [List.forIn_toArray]
  refine wpAny_bind (ksk_fold (fun i s' => ∃ (kA : Array Value) (e : Nat), Inv X ((a, seqObj "list" #[] e1) :: pins) σ H s' ∧ s'.heap.get? (a + 2) = some (seqObj "list" kA e) ∧ PySem.W.EachIs (fun u n => ∃ t, u = Value.int n t) kA.toList ((xs.map k).take i)) us 0 _
    ⟨#[], 0, pinA I2 na, nk, by rw [List.take_zero]; exact .nil⟩ ?step ?done)
  case step =>
    rintro j u s' hj ⟨kA, e, J, nk', hk⟩
    simp only [Nat.zero_add] at hk ⊢
    have hjl : j < us.length := (List.getElem?_eq_some_iff.mp hj).1
    obtain ⟨v, hvj⟩ : ∃ v, xs[j]? = some v := ⟨_, List.getElem?_eq_getElem (by omega)⟩
    have r : RelV v u := vals_at hv j hvj hj
    have hzA : kA.size ≤ us.length := by
      have h1 := hk.length
      rw [Array.length_toList, List.length_take, List.length_map] at h1
      omega
    have J2 : Inv X ((a + 2, seqObj "list" kA e) :: (a, seqObj "list" #[] e1) :: pins) σ H s' := J.pins_of fun p hp => by
      rcases List.mem_cons.mp hp with rfl | hp
      · exact ⟨nk', fk.1, fk.2.1, fk.2.2.1, fun v z => nomatch z⟩
      · exact J.pin p (List.mem_append_right _ hp)
    refine wpAny_bind (wpAny_attempt (wpAny_mono (turn _ s' v u (fun p hp => .tail _ (.tail _ hp)) J2 (List.mem_of_getElem? hvj) r) (fun z s'' hq => ?_) fun _ _ hF => hF.elim))
    obtain ⟨t, rfl, J3⟩ := hq
    have nk3 := (J3.pin (a + 2, seqObj "list" kA e) (List.mem_append_right _ (.head _))).1
    have J4 : Inv X ((a, seqObj "list" #[] e1) :: pins) σ H s'' := J3.pins_of fun p hp => J3.pin p (List.mem_append_right _ (.tail _ hp))
    obtain ⟨c2, hc2⟩ : ∃ c2, (s''.heap.update (a + 2) (Obj.mapSeq (·.push (.int (k v) t)))).get? (a + 2) = some (seqObj "list" (kA.push (.int (k v) t)) c2) := ⟨_, get?_update_seq nk3 (·.push (.int (k v) t))⟩
    have sb := Heap.SameBut.update s''.heap (a + 2) (Obj.mapSeq (·.push (.int (k v) t)))
    try dsimp only
    refine wpAny_bind (listUpdate_at nk3 rfl ?_ (Nat.le_trans hzA hz) (Nat.le_trans (Nat.le_of_eq (Array.size_push ..)) (Nat.succ_le_succ (Nat.le_trans hzA hz))))
    have J5 : Inv X ((a, seqObj "list" #[] e1) :: pins) σ H { s'' with heap := s''.heap.update (a + 2) (Obj.mapSeq (·.push (.int (k v) t))) } := by
      have := J4.turnedL (h' := s''.heap.update (a + 2) (Obj.mapSeq (·.push (.int (k v) t)))) (t' := s''.toks) (ch := [a + 2]) (fun b o hb q => (sb.2 b fun z => hb (by rw [z]; exact List.mem_singleton.mpr rfl)).trans q) (fun b hb => by rw [List.mem_singleton.mp hb]; exact fk)
      exact this
    refine wpAny_pure ⟨rfl, kA.push (.int (k v) t), c2, J5, hc2, ?_⟩
    have ek : (xs.map k).take (j + 1) = (xs.map k).take j ++ [k v] := by rw [List.take_add_one, List.getElem?_map, hvj]; rfl
    rw [Array.toList_push, ek]
    exact PySem.W.each_snoc (R := fun (u : Value) (n : Int) => ∃ t, u = Value.int n t) ⟨t, rfl⟩ hk
  case done =>
    rintro s' ⟨kA, e, J, nk', hk⟩
    have hk1 : PySem.W.EachIs (fun u n => ∃ t, u = Value.int n t) kA.toList (xs.map k) := by
      have e3 : (xs.map k).take (0 + us.length) = xs.map k := List.take_of_length_le (by rw [List.length_map]; omega)
      rw [e3] at hk
      exact hk
    have hsz : kA.size = us.length := by
      have h1 := hk1.length
      rw [Array.length_toList, List.length_map] at h1
      omega
    have na' := (J.pin (a, seqObj "list" #[] e1) (List.mem_append_right _ (.head _))).1
    have hk2 : PySem.W.EachIs (fun v d => ∃ as, Reads s'.heap v d as) kA.toList (xs.map fun v => PyData.int (k v)) := by
      have h2 : ∀ (us : List Value) (ys : List V), PySem.W.EachIs (fun u n => ∃ t, u = Value.int n t) us (ys.map k) → PySem.W.EachIs (fun v d => ∃ as, Reads s'.heap v d as) us (ys.map fun v => PyData.int (k v)) := by
        intro us ys h
        induction ys generalizing us with
        | nil => cases h; exact .nil
        | cons y ys ih =>
          cases h with
          | cons h t =>
            obtain ⟨tt, rfl⟩ := h
            exact .cons ⟨[], .int _ _⟩ (ih _ t)
      exact h2 _ _ hk1
    have hal : PySem.W.AllAlike (xs.map fun v => PyData.int (k v)) := fun d hd d' hd' => by
      obtain ⟨_, _, rfl⟩ := List.mem_map.mp hd
      obtain ⟨_, _, rfl⟩ := List.mem_map.mp hd'
      simp [PySem.W.alike]
    have hso : PySem.W.Sortable (xs.map fun v => PyData.int (k v)) := .inr fun d hd => by
      obtain ⟨_, _, rfl⟩ := List.mem_map.mp hd
      exact ⟨nofun, nofun⟩
    have hdp : ∀ d, d ∈ (xs.map fun v => PyData.int (k v)) → A.units + d.depth < cLine := fun d hd => by
      obtain ⟨_, _, rfl⟩ := List.mem_map.mp hd
      simpa [PyData.depth] using hu
    have sb := Heap.SameBut.update s'.heap (a + 2) fun o => { o with data := .freed }
    have kp : PySem.W.KeepsBut a (s'.heap.update (a + 2) fun o => { o with data := .freed }) s'.heap := fun b o hb q => by
      by_cases hb2 : b = a + 2
      · rw [hb2, freed_get] at q
        cases q
      · exact ((sb.2 b hb2).symm.trans q)
    try dsimp only
    refine wpAny_bind (listItems_at nk' rfl ?_)
    refine PySem.W.keyH_end (κ := PySem.W.dataKind s'.heap (xs.map fun v => PyData.int (k v))) (h₁ := s'.heap.update (a + 2) fun o => { o with data := .freed }) kp freed_get nk' na' (show a + 2 ≠ a by omega) (PySem.W.SortsAt.data (s := s') hk2 hal hso hdp) hsz hz fun h3 tk3 c k3 n3 => ?_
    have ko : PySem.W.KeyedOut false (xs.map fun v => PyData.int (k v)) us (PySem.W.sortVals (PySem.W.dataKind s'.heap (xs.map fun v => PyData.int (k v))) false kA.toList us) := ⟨s'.heap, kA.toList, hal, rfl, hk2⟩
    have hR : PySem.W.EachIs (fun (u : Value) (v : V) => RelV v u) us xs := by
      have h2 : ∀ (xs : List V) (us : List Value), Vals xs us → PySem.W.EachIs (fun (u : Value) (v : V) => RelV v u) us xs := by
        intro xs us h
        induction h with
        | nil => exact .nil
        | cons a _ ih => exact .cons a ih
      exact h2 _ _ hv
    have hO := PySem.W.keyedOut_each (fun v => PyData.int (k v)) ko hR
    rw [dataLe_int] at hO
    have hV : Vals (xs.mergeSort fun a b => decide (k a ≤ k b)) (PySem.W.sortVals (PySem.W.dataKind s'.heap (xs.map fun v => PyData.int (k v))) false kA.toList us) := by
      have h2 : ∀ (us : List Value) (xs : List V), PySem.W.EachIs (fun (u : Value) (v : V) => RelV v u) us xs → Vals xs us := by
        intro us xs h
        induction h with
        | nil => exact .nil
        | cons a _ ih => exact .cons a ih
      exact h2 _ _ hO
    have J1 : Inv X pins σ H s' := J.pins_of fun p hp => J.pin p (List.mem_append_right _ (.tail _ hp))
    have J6 := J1.turnedL (h' := h3) (t' := tk3) (ch := [a, a + 2]) (fun b o hb q => by
      have n1 : b ≠ a := fun z => hb (by rw [z]; exact .head _)
      have n2 : b ≠ a + 2 := fun z => hb (by rw [z]; exact .tail _ (.head _))
      exact k3 b o n1 ((sb.2 b n2).trans q)) (fun b hb => by
      rcases List.mem_cons.mp hb with rfl | hb
      · exact fa0
      · rw [List.mem_singleton.mp hb]
        exact fk0)
    refine fin _ fa0.1 (inv_track J6 fa0 hV ?_ n3)
    rw [List.length_mergeSort]
    omega
end
end LT

set_option Elab.async false
set_option linter.all false
set_option maxRecDepth 100000
set_option maxHeartbeats 1000000
namespace LT
open PySem PySem.Spec PyProof.Rows L2 LamX
theorem extN_seqL {K : PySem.W.Frag} {H H' : Hp} {a : Addr} {xs : List V} (e : ExtN H H') (h : SqL K H a xs) : SqL K H' a xs := by
  rcases h with (h | ⟨o, h⟩) | h
  · exact .inl (.inl (e _ _ h nofun))
  · exact .inl (.inr ⟨o, e _ _ h nofun⟩)
  · exact .inr h
theorem extN_seqT {K : PySem.W.Frag} {H H' : Hp} {a : Addr} {xs : List V} (e : ExtN H H') (h : SqT K H a xs) : SqT K H' a xs := by
  rcases h with (h | ⟨o, h⟩) | h
  · exact .inl (.inl (e _ _ h nofun))
  · exact .inl (.inr ⟨o, e _ _ h nofun⟩)
  · exact .inr h
def oneOf (R : V → Hp → Prop) : List V → Hp → Prop
  | [z], H => R z H
  | _, _ => False
def tSortLam (K : PySem.W.Frag) (T : List (Addr × Str)) (ta : TA) (tb : TE) : TE := fun σ H Q => ta σ H (oneOf fun z H1 => Tabs T H1 ∧ ∃ (q : Addr) (xs : List V) (k : V → Int), z = .ref q ∧ (SqL K H1 q xs ∨ SqT K H1 q xs) ∧
  ∀ H2, ExtN H1 H2 → Tabs T H2 → (∀ v ∈ xs, ∀ Q' : VK, Q' (.int (k v)) H2 → tb (some v :: σ) H2 Q') ∧ ∀ l, H2 l = none → Q (.ref l) (upd H2 l (.lst (xs.mergeSort fun a b => decide (k a ≤ k b)))))
section
variable {X : Cx}
theorem stk_free {f : Addr} (hst : X.stack = X.env :: X.outer) (hfr : X.env.frame = some X.env.locals) (h : f ∉ frs X.stack) : f ≠ X.env.locals ∧ f ∉ X.fs := by
  rw [hst] at h
  have e : frs (X.env :: X.outer) = X.env.locals :: frs X.outer := by
    unfold frs
    rw [List.filterMap_cons, hfr]
  rw [e] at h
  exact ⟨fun z => h (by rw [z]; exact .head _), fun z => h (.tail _ z)⟩
theorem in1_env0 {pins : List (Addr × Obj)} {σ : L2.St} {H : Hp} {s : Shared} (I : Inv X pins σ H s) : Env0 X.prog X.w X.K X.mg X.base X.A.in1.in1 X.stack s H := by
  have e := I.env0
  exact ⟨e.frames, e.mod, e.bs, e.bsz, e.funs, e.frf, e.hok, e.bare⟩
/-- sorted(e, key=lambda x: body) -/
theorem pe_sortedLam {T : List (Addr × Str)} {c P : Addr} {x : Str} {k : Nat} {params : Arguments} {body e : Expr} {scope : Scope} {ta : TA} {tb : TE} {p lpos kpos pos : Pos} (hg : Gl X "sorted") (hm : X.mg "sorted" = none) (ha : PA X [e] ta)
    (hst : X.stack = X.env :: X.outer) (hfr : X.env.frame = some X.env.locals) (TB : TabB X.base X.mg c P) (hcode : X.env.code = .ref c) (hmT : (P, X.env.qual ++ "<lambda>") ∈ T) (hu : ∀ p ∈ T, p.1 = P → p.2 = X.env.qual ++ "<lambda>")
    (L : LamP X.env.scope scope x) (hx : x ∉ X.N) (hdef : defaultsOf params X.env = ([], [])) (hbind : ∀ (q : Str) (cl : List (Str × Addr)) (pm cv ctv u : Value), bindArgs (PySem.W.kla_fn "<lambda>" q params body scope cl pm cv ctv) ⟨[u], []⟩ = pure [(x, u)]) (hr : Room (k + 3) X.A)
    (hbody : ∀ (A : Around) (outer : List Env) (s : Shared) (H : Hp) (f c' : Addr), Room k (A.deeper (lamEnv X scope s.heap.objs.size f c')) → PE (lamCxP noX X A outer s H noE scope f c' x) body tb)
    (hv : bootBuiltins "sorted" = some (.builtin "sorted"))
    (he : backTo pos (starEach [e] X.env) = (false, eval e X.env) :: backTo pos (starEach [] X.env) := by rfl) (hpl : (backTo pos (starEach [e] X.env)).any (·.1) = false := by rfl)  :
    PE X (.Call (.Name "sorted" p) [e] [⟨some "key", .Lambda params body scope lpos, kpos⟩] pos) (tSortLam X.K T ta tb) := by
  refine ⟨fun pins s σ H Q I h => ?_⟩
  refine wpAny_Call_Name_kw (ld_blt I hg hm hv ?_)
  refine PyProof.Rows.callWith_kw (thn (ha.run pos pins s σ H (oneOf fun z H1 => Tabs T H1 ∧ ∃ (q : Addr) (xs : List V) (k : V → Int), z = .ref q ∧ (SqL X.K H1 q xs ∨ SqT X.K H1 q xs) ∧
    ∀ H2, ExtN H1 H2 → Tabs T H2 → (∀ v ∈ xs, ∀ Q' : VK, Q' (.int (k v)) H2 → tb (some v :: σ) H2 Q') ∧ ∀ l, H2 l = none → Q (.ref l) (upd H2 l (.lst (xs.mergeSort fun a b => decide (k a ≤ k b))))) I h) fun us s1 ⟨vs, H1, I1, r1, q1⟩ => ?_) he hpl (by rfl) (by rfl)
  match vs, q1 with
  | [z], q1 =>
  have q1 : Tabs T H1 ∧ ∃ (q : Addr) (xs : List V) (k : V → Int), z = .ref q ∧ (SqL X.K H1 q xs ∨ SqT X.K H1 q xs) ∧
    ∀ H2, ExtN H1 H2 → Tabs T H2 → (∀ v ∈ xs, ∀ Q' : VK, Q' (.int (k v)) H2 → tb (some v :: σ) H2 Q') ∧ ∀ l, H2 l = none → Q (.ref l) (upd H2 l (.lst (xs.mergeSort fun a b => decide (k a ≤ k b)))) := q1
  show wpAny _ _ (evalAll ((do let v ← eval (.Lambda params body scope lpos) X.env; standAt pos; pure v) :: (backToKw pos (keywordEach [] X.env)).map (·.2))) _ _ s1
  obtain ⟨hT, q, xs, kf, rfl, hq, h2⟩ := q1
  refine wpAny_evalAll_cons (wpAny_bind (lam_make2 I1 TB hcode hmT hu hT hdef (L.has I1.ok) fun f c' pm ctv H2 s2 I2 eN T2 hf hfn hfs hco => wpAny_bind (wpAny_standAt (wpAny_pure ?_))))
  refine wpAny_evalAll_nil ?_
  obtain ⟨hb, hQ⟩ := h2 H2 eN T2
  obtain ⟨n1, n2⟩ := stk_free hst hfr hfs
  have I3 : Inv X ((f, PySem.W.kla_obj "<lambda>" (X.env.qual ++ "<lambda>") params body scope (cloFrom X.env.cells scope.names []) pm c' ctv) :: pins) σ H2 s2 := I2.pins_of fun p hp => by
    rcases List.mem_cons.mp hp with rfl | hp
    · exact ⟨hf, hfn, n1, n2, fun v z => nomatch z⟩
    · exact I2.pin p (List.mem_append_right _ hp)
  cases r1 with
  | cons r1 r0 =>
    cases r0
    cases r1
    show wpAny (model X.prog X.w) X.A (call (.builtin "sorted") [.ref q] [(Str.ofString "key", .ref f)]) _ _ s2
    have seq : ∃ (T : String) (o : Obj) (its : List Value) (n : Nat), (T = "list" ∨ T = "tuple") ∧ s2.heap.get? q = some o ∧ o.cls = .type T ∧ o.data = .seq its.toArray n ∧ Vals xs its ∧ its.length ≤ sizeLine := by
      rcases hq with hq | hq
      · obtain ⟨its, hv, ⟨o, n, e1, e2, _, e4⟩, hl⟩ := I2.list (extN_seqL eN hq)
        exact ⟨"list", o, its, n, .inl rfl, e1, e2, e4, hv, by rw [← hv.length]; exact hl⟩
      · obtain ⟨its, hv, ⟨o, e1, e2, n, e4⟩, hl⟩ := I2.tuple (extN_seqT eN hq)
        exact ⟨"tuple", o, its, n, .inr rfl, e1, e2, e4, hv, by rw [← hv.length]; exact hl⟩
    obtain ⟨T', o, its, n, hT', e1, e2, e3, hvs, hl⟩ := seq
    refine sorted_seq hT' e1 e2 e3 hl (ksk_s1 _ _) (fun _ => ksk_l1 _ _) fun E' g hg => ?_
    rw [ksk_t1]
    have I4 : Inv X ((f, PySem.W.kla_obj "<lambda>" (X.env.qual ++ "<lambda>") params body scope (cloFrom X.env.cells scope.names []) pm c' ctv) :: pins) σ H2 { s2 with heap := g } := by
      have := I3.kept (h' := g) (t' := s2.toks) hg
      exact this
    have hr2 : Room (k + 1) X.A.in1.in1 := hr.in1.in1
    refine sort_keyed (k := kf) I4 hvs hl hr2.units0 (fun pins' s' v u hp J hv r => ?_) fun s' hn J => ⟨rfl, .ref g.objs.size, _, J.pins_of fun p hp => J.pin p (List.mem_append_right _ (.tail _ hp)), rfl, hQ _ hn⟩
    have hf' := (J.pin _ (List.mem_append_right _ (hp _ (.head _)))).1
    refine wpAny_call (codeAny_mono (lam_run (CX := noX) (E := noE) (Q := fun z H' => z = .int (kf v) ∧ H' = H2) (k := k) J L hx (in1_env0 J) Un.refl hf' hco (hbind _ _ _ _ _ _) r hr2 (fun hr3 => hbody _ _ _ _ _ _ hr3) (hb v hv _ ⟨rfl, rfl⟩)) fun res s'' hq => ?_)
    match res, hq with
    | .error _, hq => exact hq.elim
    | .ok .next, hq => exact hq.elim
    | .ok .brk, hq => exact hq.elim
    | .ok .cont, hq => exact hq.elim
    | .ok (.ret z), hq =>
      obtain ⟨z', H', J', rz, rfl, rfl⟩ := J.after hq
      obtain ⟨t, rfl⟩ := rz
      exact ⟨t, rfl, J'⟩
/-- a(ea), in the def that got the lambda in its i-th slot; that def was entered at s -/
theorem pe_actP {pins : List (Addr × Obj)} {σ : L2.St} {H : Hp} {s : Shared} {Ng : List Str} {qg : Str} {sg : Scope} {g f c' : Addr} {cdg pm ctv : Value} {params : Arguments} {body ea : Expr} {scope : Scope} {k i : Nat} {a x : Str} {ta : TA} {tb : TE} {p1 p2 : Pos}
    (I : Inv X pins σ H s) (L : LamP X.env.scope scope x) (hx : x ∉ X.N) (hf : s.heap.get? f = some (PySem.W.kla_obj "<lambda>" (X.env.qual ++ "<lambda>") params body scope (cloFrom X.env.cells scope.names []) pm c' ctv)) (hfn : H f = none) (hfs : f ∉ frs X.stack)
    (hbind : ∀ u : Value, bindArgs (PySem.W.kla_fn "<lambda>" (X.env.qual ++ "<lambda>") params body scope (cloFrom X.env.cells scope.names []) pm (.ref c') ctv) ⟨[u], []⟩ = pure [(x, u)]) (hr : Room (k + 1) (X.A.deeper (envOfC qg sg s.heap.objs.size g cdg)))
    (hbody : ∀ (A : Around) (outer : List Env) (s : Shared) (H : Hp), Room k (A.deeper (lamEnv X scope s.heap.objs.size f c')) → PE (lamCxP noX X A outer s H noE scope f c' x) body tb)
    (hN : Ng[i]? = some a) (hv : Vis sg a) (ha : PA (cxOf noX X.prog X.w X.K X.mg X.base Ng qg sg g cdg X.A X.stack s H noE).nox [ea] ta)
    (he : starEach [ea] (envOfC qg sg s.heap.objs.size g cdg) = (false, eval ea (envOfC qg sg s.heap.objs.size g cdg)) :: starEach [] (envOfC qg sg s.heap.objs.size g cdg))
    (hd : (a == ("__debug__" : Str)) = false := by decide) (hcd : (a == ("__classdict__" : Str)) = false := by decide) :
    PE (cxOf noX X.prog X.w X.K X.mg X.base Ng qg sg g cdg X.A X.stack s H noE).nox (.Call (.Name a p1) [ea] [] p2)
      (fun σZ HZ Q => σZ[i]? = some (some (.ref f)) ∧ ta σZ HZ (oneOf fun v H1 => H1 c' = some (CodeO c' (X.env.qual ++ "<lambda>")) ∧ tb (some v :: σ) H1 Q)) := by
  refine ⟨fun pZ sZ σZ HZ Q IZ h => ?_⟩
  obtain ⟨hs, ht⟩ := h
  refine wpAny_Call_Name_kw (thn ((pe_var (pos := p1) (i := i) hN hv hd hcd).run pZ sZ σZ HZ (fun v H1 => v = .ref f ∧ H1 = HZ) IZ ⟨.ref f, hs, rfl, rfl⟩) fun u s1 ⟨v, H1, I1, r1, q1⟩ => ?_)
  obtain ⟨rfl, rfl⟩ := q1
  cases r1
  have kf : ∀ {s' : Shared} {H' : Hp} {σ' : L2.St} {pp : List (Addr × Obj)}, Inv (cxOf noX X.prog X.w X.K X.mg X.base Ng qg sg g cdg X.A X.stack s H noE).nox pp σ' H' s' → s'.heap.get? f = some (PySem.W.kla_obj "<lambda>" (X.env.qual ++ "<lambda>") params body scope (cloFrom X.env.cells scope.names []) pm c' ctv) :=
    fun J => J.base.keep f _ hf hfn hfs (fun z => nomatch (show f ∈ ([] : List Addr) from z))
  refine PySem.W.callWith_F ⟨_, _, _, _, kf I1⟩ (thn (ha.run p2 pZ s1 σZ _ _ I1 ht) fun us s2 ⟨vs, H2, I2, r2, q2⟩ => ⟨⟨_, _, _, _, kf I2⟩, ?_⟩) he (by rfl)
  match vs, q2 with
  | [v], q2 =>
  have q2 : H2 c' = some (CodeO c' (X.env.qual ++ "<lambda>")) ∧ tb (some v :: σ) H2 Q := q2
  cases r2 with
  | cons r2 r0 =>
    cases r0
    have un : Un (frs X.stack) [] H H2 s.heap s2.heap := I2.base
    have e0 : Env0 X.prog X.w X.K X.mg X.base (X.A.deeper (envOfC qg sg s.heap.objs.size g cdg)) (envOfC qg sg s.heap.objs.size g cdg :: X.stack) s2 H2 := I2.env0
    have rc := lam_run (X := X) (CX := noX) (E := noE) (Q := Q) (k := k) I L hx e0 un (kf I2) q2.1 (hbind _) r2 hr (fun hr3 => hbody _ _ _ _ hr3) q2.2
    refine wpAny_call (codeAny_mono rc fun res s'' hq => ?_)
    match res, hq with
    | .error _, hq => exact hq.elim
    | .ok .next, hq => exact hq.elim
    | .ok .brk, hq => exact hq.elim
    | .ok .cont, hq => exact hq.elim
    | .ok (.ret z), hq => exact I2.after hq
/-- what the def makes of (a value, a lambda): TT -/
def Takes2 (X : Cx) (Ng : List Str) (x : Str) (sg : Scope) (g : Addr) (cdg : Value) (bg : List Stmt) (a : Str) (q : Str) (TT : V → (V → Hp → VK → Prop) → Hp → VK → Prop) : Prop :=
  ∀ (f c' : Addr) (s : Shared) (H : Hp) (Q : VK) (z : V) (tl : V → Hp → VK → Prop),
    (∀ (ea : Expr) (ta : TA) (p1 p2 : Pos), PA (cxOf noX X.prog X.w X.K X.mg X.base Ng x sg g cdg X.A X.stack s H noE).nox [ea] ta →
      starEach [ea] (envOfC x sg s.heap.objs.size g cdg) = (false, eval ea (envOfC x sg s.heap.objs.size g cdg)) :: starEach [] (envOfC x sg s.heap.objs.size g cdg) →
      PE (cxOf noX X.prog X.w X.K X.mg X.base Ng x sg g cdg X.A X.stack s H noE).nox (.Call (.Name a p1) [ea] [] p2) (fun σZ HZ Q => σZ[1]? = some (some (.ref f)) ∧ ta σZ HZ (oneOf fun v H1 => H1 c' = some (CodeO c' q) ∧ tl v H1 Q))) →
    H c' = some (CodeO c' q) → H f = none → TT z tl H Q →
    ∃ t, PSs (cxOf noX X.prog X.w X.K X.mg X.base Ng x sg g cdg X.A X.stack s H noE).nox bg t ∧ t { nx := fun _ H' => Q .non H', rt := Q } (L2.start Ng [z, .ref f]) H
def tLam2 (T : List (Addr × Str)) (TT : V → (V → Hp → VK → Prop) → Hp → VK → Prop) (te tb : TE) : TE := fun σ H Q => te σ H fun z H1 => Tabs T H1 ∧ ∀ H2, ExtN H1 H2 → Tabs T H2 → TT z (fun v H' Q' => tb (some v :: σ) H' Q') H2 Q
/-- x(e, lambda y: body) -/
theorem pe_lamArg {T : List (Addr × Str)} {TT : V → (V → Hp → VK → Prop) → Hp → VK → Prop} {x a1 a y : Str} {g c P : Addr} {k : Nat} {pg : Arguments} {bg : List Stmt} {sg : Scope} {dV kV doc pm cdv ct oc : Value} {an od : Option Addr} {osl : Array (Option Value)} {Ng : List Str}
    {params : Arguments} {body e : Expr} {scope : Scope} {te tb : TE} {p lpos pos : Pos} (hg : Gl X x) (hm : X.mg x = some (.ref g)) (hk : PySem.W.keepIn X.K (.ref g) = true)
    (lk : X.K.lookup g = some ⟨oc, od, .func (PySem.W.fnOf x x pg bg sg dV kV doc pm an cdv ct), osl⟩) (hcg : PySem.W.codeIn X.K cdv x = true) (hb : L2.Binds X.K (PySem.W.fnOf x x pg bg sg dV kV doc pm an cdv ct) [a1, a] []) (Sg : FnScope Ng [a1, a] sg) (hNg : Ng[1]? = some a) (hva : Vis sg a)
    (hG : Takes2 X Ng x sg g cdv bg a (X.env.qual ++ "<lambda>") TT) (ha : PE X e te)
    (TB : TabB X.base X.mg c P) (hcode : X.env.code = .ref c) (hmT : (P, X.env.qual ++ "<lambda>") ∈ T) (hu : ∀ p ∈ T, p.1 = P → p.2 = X.env.qual ++ "<lambda>") (hr : Room (k + 2) X.A) (L : LamP X.env.scope scope y) (hy : y ∉ X.N) (hdef : defaultsOf params X.env = ([], []))
    (hbind : ∀ (q : Str) (cl : List (Str × Addr)) (pm cv ctv u : Value), bindArgs (PySem.W.kla_fn "<lambda>" q params body scope cl pm cv ctv) ⟨[u], []⟩ = pure [(y, u)])
    (hbody : ∀ (A : Around) (outer : List Env) (s : Shared) (H : Hp) (f c' : Addr), Room k (A.deeper (lamEnv X scope s.heap.objs.size f c')) → PE (lamCxP noX X A outer s H noE scope f c' y) body tb)
    (he : starEach [e, .Lambda params body scope lpos] X.env = (false, eval e X.env) :: starEach [.Lambda params body scope lpos] X.env := by rfl)
    (hdb : (x == ("__debug__" : Str)) = false := by decide) (hd : (a == ("__debug__" : Str)) = false := by decide) (hcd : (a == ("__classdict__" : Str)) = false := by decide) :
    PE X (.Call (.Name x p) [e, .Lambda params body scope lpos] [] pos) (tLam2 T TT te tb) := by
  refine ⟨fun pins s σ H Q I h => ?_⟩
  refine wpAny_Call_Name_kw (ld_glob I hg hm ?_ hdb)
  refine PySem.W.callWith_K (h₀ := X.base) I.ok.mod.kin hk ?_ he (by rfl)
  rw [he]
  show wpAny _ _ (spliced ((false, eval e X.env) :: backTo pos (starEach [.Lambda params body scope lpos] X.env))) _ _ s
  refine Calls.spliced_cons (thn (ha.run pins s σ H _ I h) fun u s1 ⟨z, H1, I1, r1, q1⟩ => ?_)
  obtain ⟨hT, h2⟩ := q1
  show wpAny _ _ (spliced ((false, eval (.Lambda params body scope lpos) X.env) :: backTo pos (starEach [] X.env))) _ _ s1
  refine Calls.spliced_cons (lam_make2 I1 TB hcode hmT hu hT hdef (L.has I1.ok) fun f c' pm' ctv H2 s2 I2 eN T2 hf hfn hfs hco => ?_)
  refine Calls.spliced_nil ⟨I2.kIn, ?_⟩
  have rc : codeAny (model X.prog X.w) X.A (.call (.ref g) ⟨[u, .ref f], []⟩) (CR noX X.stack X.prog X.w H2 s2 Q noE) s2 := by
    refine run_ofS (k := k + 1) (N := Ng) (ps := [a1, a]) (us := [u, .ref f]) (vs := [z, .ref f]) lk hcg Sg hr I2.env0 (hb s2 [u, .ref f] I2.kIn rfl) (.cons r1 (.cons rfl .nil)) rfl fun hr' => ?_
    obtain ⟨t', ht', hq'⟩ := hG f c' s2 H2 Q z (fun v H' Q' => tb (some v :: σ) H' Q')
      (fun ea ta p1 p2 hta hea => pe_actP (i := 1) I2 L hy hf hfn hfs (fun u => hbind _ _ _ _ _ u) hr' (fun A outer s H hr3 => hbody A outer s H f c' hr3) hNg hva hta hea hd hcd) hco hfn (h2 H2 eN T2)
    exact ⟨t', ht'.nox, hq'⟩
  refine wpAny_call (codeAny_mono rc fun r s3 hq => ?_)
  match r, hq with
  | .error _, hq => exact hq.elim
  | .ok .next, hq => exact hq.elim
  | .ok .brk, hq => exact hq.elim
  | .ok .cont, hq => exact hq.elim
  | .ok (.ret z), hq => exact I2.after hq
end
end LT

set_option Elab.async false
set_option linter.all false
namespace LD
abbrev Row := Int × Option Int
def In (r : Row) (d : Int) : Prop := r.1 ≤ d ∧ ∀ j, r.2 = some j → d ≤ j
def Ins (L : List Row) (d : Int) : Prop := ∃ r, r ∈ L ∧ In r d
def Ok (r : Row) : Prop := 0 ≤ r.1 ∧ ∀ j, r.2 = some j → r.1 ≤ j
theorem Ok.self {r : Row} (h : Ok r) : In r r.1 := ⟨Int.le_refl _, h.2⟩
/-- told in one way alone, the last row ahead -/
def Can : List Row → Prop
  | [] => True
  | [r] => Ok r
  | r :: s :: t => Ok r ∧ (∃ j, s.2 = some j ∧ j + 1 < r.1) ∧ Can (s :: t)
theorem Can.tail {r : Row} : ∀ {t : List Row}, Can (r :: t) → Can t
  | [], _ => trivial
  | _ :: _, h => h.2.2
theorem Can.hd {r : Row} : ∀ {t : List Row}, Can (r :: t) → Ok r
  | [], h => h
  | _ :: _, h => h.1
/-- the rows behind the head end two days ahead of it -/
theorem Can.under : ∀ {t : List Row} {r : Row}, Can (r :: t) → ∀ s ∈ t, ∃ j, s.2 = some j ∧ j + 1 < r.1
  | [], _, _, s, hs => nomatch hs
  | u :: t, r, h, s, hs => by
    obtain ⟨j, e, hj⟩ := h.2.1
    rcases List.mem_cons.mp hs with rfl | hs
    · exact ⟨j, e, hj⟩
    · obtain ⟨i, e2, hi⟩ := Can.under h.2.2 s hs
      have := h.2.2.hd.2 j e
      exact ⟨i, e2, by omega⟩
theorem Can.ok : ∀ {L : List Row}, Can L → ∀ s ∈ L, Ok s
  | [], _, s, hs => nomatch hs
  | r :: t, h, s, hs => by
    rcases List.mem_cons.mp hs with rfl | hs
    · exact h.hd
    · exact h.tail.ok s hs
theorem ins_cons {r : Row} {t : List Row} {d : Int} : Ins (r :: t) d ↔ In r d ∨ Ins t d := by
  constructor
  · rintro ⟨s, hs, h⟩
    rcases List.mem_cons.mp hs with rfl | hs
    · exact .inl h
    · exact .inr ⟨s, hs, h⟩
  · rintro (h | ⟨s, hs, h⟩)
    · exact ⟨r, .head _, h⟩
    · exact ⟨s, .tail _ hs, h⟩
theorem not_nil {d : Int} : ¬ Ins [] d := fun ⟨_, h, _⟩ => nomatch h
/-- what is of the tail is two days ahead of the head -/
theorem Can.below {r : Row} {t : List Row} (h : Can (r :: t)) {d : Int} (hd : Ins t d) : d + 1 < r.1 := by
  obtain ⟨s, hs, hi⟩ := hd
  obtain ⟨j, e, hj⟩ := h.under s hs
  have := hi.2 j e
  omega
/-- the same days, told in one way -/
theorem uniq : ∀ {L L' : List Row}, Can L → Can L' → (∀ d, Ins L d ↔ Ins L' d) → L = L'
  | [], [], _, _, _ => rfl
  | [], r :: t, _, h', e => absurd ((e r.1).mpr (ins_cons.mpr (.inl h'.hd.self))) not_nil
  | r :: t, [], h, _, e => absurd ((e r.1).mp (ins_cons.mpr (.inl h.hd.self))) not_nil
  | (a, x) :: t, (b, y) :: t', h, h', e => by
    have ha := h.hd
    have hb := h'.hd
    have lo : ∀ {a b : Int} {x y : Option Int} {t t' : List Row}, Can ((a, x) :: t) → Can ((b, y) :: t') → (∀ d, Ins ((a, x) :: t) d ↔ Ins ((b, y) :: t') d) → y = x → b ≤ a := by
      intro a b x y t t' h h' e exy
      by_cases hlt : a < b
      · exfalso
        have hin : In (a, x) (b - 1) := ⟨by show a ≤ b - 1; omega, fun j ej => by
          have := h'.hd.2 j (by show y = some j; rw [exy]; exact ej)
          show b - 1 ≤ j
          have : b ≤ j := this
          omega⟩
        rcases ins_cons.mp ((e (b - 1)).mp (ins_cons.mpr (.inl hin))) with z | z
        · have := z.1
          have : b ≤ b - 1 := this
          omega
        · have := h'.below z
          have : b - 1 + 1 < b := this
          omega
      · omega
    have hi : ∀ {a b : Int} {x y : Option Int} {t t' : List Row}, Can ((a, x) :: t) → Can ((b, y) :: t') → (∀ d, Ins ((a, x) :: t) d ↔ Ins ((b, y) :: t') d) → ∀ j, y = some j → ∃ i, x = some i ∧ i ≤ j := by
      intro a b x y t t' h h' e j ej
      have top : ∀ d, Ins ((b, y) :: t') d → d ≤ j := fun d hd => by
        rcases ins_cons.mp hd with z | z
        · exact z.2 j ej
        · have := h'.below z
          have h2 := h'.hd.2 j ej
          have : d + 1 < b := this
          have : b ≤ j := h2
          omega
      cases x with
      | none =>
        exfalso
        by_cases hc : a ≤ j + 1
        · have := top (j + 1) ((e _).mp (ins_cons.mpr (.inl ⟨hc, nofun⟩)))
          omega
        · have := top a ((e _).mp (ins_cons.mpr (.inl h.hd.self)))
          omega
      | some i =>
        refine ⟨i, rfl, ?_⟩
        exact top i ((e _).mp (ins_cons.mpr (.inl ⟨h.hd.2 i rfl, fun k ek => by cases ek; exact Int.le_refl _⟩)))
    have exy : x = y := by
      cases y with
      | some j =>
        obtain ⟨i, rfl, hij⟩ := hi h h' e j rfl
        obtain ⟨k, ek, hk⟩ := hi h' h (fun d => (e d).symm) i rfl
        cases ek
        exact congrArg some (by omega)
      | none =>
        cases x with
        | none => rfl
        | some i =>
          obtain ⟨k, ek, _⟩ := hi h' h (fun d => (e d).symm) i rfl
          cases ek
    subst exy
    have eab : a = b := by
      have h1 := lo h h' e rfl
      have h2 := lo h' h (fun d => (e d).symm) rfl
      omega
    subst eab
    have et : t = t' := uniq h.tail h'.tail fun d => by
      constructor
      · intro hd
        have lt := h.below hd
        rcases ins_cons.mp ((e d).mp (ins_cons.mpr (.inr hd))) with z | z
        · have := z.1
          have : a ≤ d := this
          have : d + 1 < a := lt
          omega
        · exact z
      · intro hd
        have lt := h'.below hd
        rcases ins_cons.mp ((e d).mpr (ins_cons.mpr (.inr hd))) with z | z
        · have := z.1
          have : a ≤ d := this
          have : d + 1 < a := lt
          omega
        · exact z
    rw [et]
/-! ### merging -/
def laterO : Option Int → Option Int → Option Int
  | some i, some j => some (if j > i then j else i)
  | _, _ => none
def meetsB (h r : Row) : Bool := match h.2 with
  | none => true
  | some j => decide (r.1 ≤ j + 1)
def stepM : List Row → Row → List Row
  | [], r => [r]
  | h :: t, r => if meetsB h r = true then (h.1, laterO h.2 r.2) :: t else r :: h :: t
theorem laterO_le {x y : Option Int} {k : Int} (h : laterO x y = some k) : ∃ i j, x = some i ∧ y = some j ∧ i ≤ k ∧ j ≤ k ∧ (k = i ∨ k = j) := by
  cases x with
  | none => cases h
  | some i =>
    cases y with
    | none => cases h
    | some j =>
      have h' : (if j > i then j else i) = k := Option.some.inj h
      refine ⟨i, j, rfl, rfl, ?_, ?_, ?_⟩ <;> split at h' <;> omega
/-- a row put to a list whose last row begins no later -/
theorem stepM_ok {R : List Row} {r : Row} (h : Can R) (ok : Ok r) (hd : ∀ u t, R = u :: t → u.1 ≤ r.1) :
    Can (stepM R r) ∧ (∀ d, Ins (stepM R r) d ↔ Ins R d ∨ In r d) ∧ (∀ u t, stepM R r = u :: t → u.1 ≤ r.1) ∧ stepM R r ≠ [] := by
  cases R with
  | nil => exact ⟨ok, fun d => by rw [show stepM [] r = [r] from rfl, ins_cons, or_comm], fun u t e => by cases e; exact Int.le_refl _, nofun⟩
  | cons u t =>
    obtain ⟨a, x⟩ := u
    obtain ⟨b, y⟩ := r
    have hab : a ≤ b := hd (a, x) t rfl
    have ha := h.hd
    have es : stepM ((a, x) :: t) (b, y) = if meetsB (a, x) (b, y) = true then (a, laterO x y) :: t else (b, y) :: (a, x) :: t := rfl
    rw [es]
    split
    · rename_i hm
      have okn : Ok (a, laterO x y) := ⟨ha.1, fun k ek => by
        obtain ⟨i, j, ei, _, h1, _⟩ := laterO_le ek
        have := ha.2 i ei
        show a ≤ k
        have : a ≤ i := this
        omega⟩
      refine ⟨?_, fun d => ?_, fun v s e => by cases e; exact hab, nofun⟩
      · cases t with
        | nil => exact okn
        | cons s t => exact ⟨okn, h.2.1, h.2.2⟩
      · rw [ins_cons, ins_cons]
        have key : In (a, laterO x y) d ↔ In (a, x) d ∨ In (b, y) d := by
          constructor
          · rintro ⟨h1, h2⟩
            have h1 : a ≤ d := h1
            cases x with
            | none => exact .inl ⟨h1, nofun⟩
            | some i =>
              by_cases hdi : d ≤ i
              · exact .inl ⟨h1, fun k ek => by cases ek; exact hdi⟩
              · have hm' : b ≤ i + 1 := of_decide_eq_true hm
                refine .inr ⟨by show b ≤ d; omega, fun k ek => ?_⟩
                have ek : y = some k := ek
                subst ek
                have := h2 (if k > i then k else i) rfl
                split at this <;> omega
          · rintro (⟨h1, h2⟩ | ⟨h1, h2⟩)
            · refine ⟨h1, fun k ek => ?_⟩
              obtain ⟨i, j, ei, _, hk, _⟩ := laterO_le ek
              have := h2 i ei
              omega
            · have h1 : b ≤ d := h1
              refine ⟨by show a ≤ d; omega, fun k ek => ?_⟩
              obtain ⟨i, j, _, ej, _, hk, _⟩ := laterO_le ek
              have := h2 j ej
              omega
        rw [key]
        constructor
        · rintro ((z | z) | z)
          · exact .inl (.inl z)
          · exact .inr z
          · exact .inl (.inr z)
        · rintro ((z | z) | z)
          · exact .inl (.inl z)
          · exact .inr z
          · exact .inl (.inr z)
    · rename_i hm
      refine ⟨⟨ok, ?_, h⟩, fun d => by rw [ins_cons, or_comm], fun v s e => by cases e; exact Int.le_refl _, nofun⟩
      cases x with
      | none => exact absurd rfl hm
      | some j =>
        refine ⟨j, rfl, ?_⟩
        have hm' : ¬ b ≤ j + 1 := fun z => hm (decide_eq_true z)
        show j + 1 < b
        omega
def mergeR (rs : List Row) : List Row := rs.foldl stepM []
theorem foldM_ok : ∀ (rs : List Row) (R : List Row), Can R → (∀ r ∈ rs, Ok r) → rs.Pairwise (fun a b => a.1 ≤ b.1) → (∀ u t, R = u :: t → ∀ r ∈ rs, u.1 ≤ r.1) →
    Can (rs.foldl stepM R) ∧ ∀ d, Ins (rs.foldl stepM R) d ↔ Ins R d ∨ Ins rs d
  | [], R, h, _, _, _ => ⟨h, fun d => ⟨fun z => .inl z, fun z => z.elim id fun q => absurd q not_nil⟩⟩
  | r :: rs, R, h, ok, pw, hd => by
    obtain ⟨h1, h2, h3, _⟩ := stepM_ok (r := r) h (ok r (.head _)) fun u t e => hd u t e r (.head _)
    have pw' := List.pairwise_cons.mp pw
    obtain ⟨g1, g2⟩ := foldM_ok rs (stepM R r) h1 (fun s hs => ok s (.tail _ hs)) pw'.2 fun u t e s hs => Int.le_trans (h3 u t e) (pw'.1 s hs)
    refine ⟨g1, fun d => ?_⟩
    rw [List.foldl_cons, g2, h2, ins_cons, or_assoc]
/-! ### the walk over the marks -/
def stepD (w : Int → Bool) (R : List Row) (d : Int) : List Row := match R with
  | [] => if w d = true then [(d, none)] else []
  | (f, none) :: t => if w d = true then (f, none) :: t else (f, some (d - 1)) :: t
  | (f, some j) :: t => if w d = true then (d, none) :: (f, some j) :: t else (f, some j) :: t
structure Till (w : Int → Bool) (R : List Row) (m : Int) : Prop where
  can : Can R
  up : ∀ d, d ≤ m → (Ins R d ↔ w d = true)
  on : ∀ d, m < d → (Ins R d ↔ w m = true)
  fs : ∀ r ∈ R, r.1 ≤ m
theorem Till.step {w : Int → Bool} {R : List Row} {m n : Int} (h : Till w R m) (hn : m < n) (n0 : 0 ≤ n) (cst : ∀ d, m ≤ d → d < n → w d = w m) : Till w (stepD w R n) n := by
  have mid : ∀ d, d < n → (Ins R d ↔ w d = true) := fun d hd => by
    by_cases hm : d ≤ m
    · exact h.up d hm
    · rw [h.on d (by omega), cst d (by omega) hd]
  have keep : Ins R n → w m = true := fun z => (h.on n hn).mp z
  have noN : w m = false → ∀ d, m ≤ d → ¬ Ins R d := fun e d hd z => by
    by_cases hm : d ≤ m
    · have : d = m := by omega
      subst this
      have := (h.up d (Int.le_refl _)).mp z
      rw [e] at this
      cases this
    · have := (h.on d (by omega)).mp z
      rw [e] at this
      cases this
  have same : ∀ b, w m = b → w n = b → Till w R n := fun b e1 e2 => ⟨h.can, fun d hd => by
    by_cases hdn : d < n
    · exact mid d hdn
    · have : d = n := by omega
      subst this
      rw [h.on d hn, e1, e2], fun d hd => by rw [h.on d (by omega), e1, e2], fun r hr => by have := h.fs r hr; omega⟩
  have open_ : w m = false → w n = true → Till w ((n, none) :: R) n := fun e1 e2 => by
    refine ⟨?_, fun d hd => ?_, fun d hd => ?_, fun r hr => ?_⟩
    · cases hR : R with
      | nil => exact ⟨n0, nofun⟩
      | cons r t =>
        rw [hR] at h noN
        refine ⟨⟨n0, nofun⟩, ?_, h.can⟩
        obtain ⟨f, x⟩ := r
        cases x with
        | none => exact absurd (ins_cons.mpr (.inl (show In (f, none) m from ⟨h.fs (f, none) (.head _), fun j ej => by cases ej⟩))) (noN e1 m (Int.le_refl _))
        | some j =>
          refine ⟨j, rfl, ?_⟩
          show j + 1 < n
          by_cases hj : j < m
          · omega
          · exact absurd (ins_cons.mpr (.inl ⟨h.can.hd.2 j rfl, fun k ek => by cases ek; exact Int.le_refl _⟩)) (noN e1 j (by omega))
    · rw [ins_cons]
      by_cases hdn : d < n
      · rw [← mid d hdn]
        exact ⟨fun z => z.elim (fun q => by have := q.1; have : n ≤ d := this; omega) id, .inr⟩
      · have : d = n := by omega
        subst this
        exact ⟨fun _ => e2, fun _ => .inl ⟨Int.le_refl _, nofun⟩⟩
    · rw [ins_cons]
      exact ⟨fun _ => e2, fun _ => .inl ⟨by show n ≤ d; omega, nofun⟩⟩
    · rcases List.mem_cons.mp hr with rfl | hr
      · exact Int.le_refl _
      · have := h.fs r hr
        omega
  unfold stepD
  split
  · have e1 : w m = false := by
      cases hw : w m with
      | false => rfl
      | true => exact absurd ((h.on n hn).mpr hw) not_nil
    split
    · rename_i e2
      exact open_ e1 e2
    · rename_i e2
      exact same false e1 (by cases hw : w n <;> first | rfl | exact absurd hw e2)
  · rename_i f t
    have e1 : w m = true := (h.on n hn).mp (ins_cons.mpr (.inl ⟨by have := h.fs (f, none) (.head _); have : f ≤ m := this; show f ≤ n; omega, nofun⟩))
    have hf : f ≤ m := h.fs (f, none) (.head _)
    split
    · rename_i e2
      exact same true e1 e2
    · rename_i e2
      have e2 : w n = false := by cases hw : w n <;> first | rfl | exact absurd hw e2
      refine ⟨?_, fun d hd => ?_, fun d hd => ?_, fun r hr => ?_⟩
      · have okn : Ok (f, some (n - 1)) := ⟨h.can.hd.1, fun j ej => by cases ej; show f ≤ n - 1; omega⟩
        cases t with
        | nil => exact okn
        | cons s t => exact ⟨okn, h.can.2.1, h.can.2.2⟩
      · rw [ins_cons]
        by_cases hdn : d < n
        · rw [← mid d hdn, ins_cons]
          constructor
          · rintro (z | z)
            · exact .inl ⟨z.1, nofun⟩
            · exact .inr z
          · rintro (z | z)
            · exact .inl ⟨z.1, fun j ej => by cases ej; omega⟩
            · exact .inr z
        · have : d = n := by omega
          subst this
          rw [e2]
          refine ⟨fun z => ?_, nofun⟩
          rcases z with z | z
          · have := z.2 (d - 1) rfl
            omega
          · have := h.can.below z
            have : d + 1 < f := this
            omega
      · rw [ins_cons, e2]
        refine ⟨fun z => ?_, nofun⟩
        rcases z with z | z
        · have := z.2 (n - 1) rfl
          omega
        · have := h.can.below z
          have : d + 1 < f := this
          omega
      · rcases List.mem_cons.mp hr with rfl | hr
        · show f ≤ n
          omega
        · have := h.fs r (.tail _ hr)
          omega
  · rename_i f j t
    have e1 : w m = false := by
      cases hw : w m with
      | false => rfl
      | true =>
        have big : ∀ d, m < d → d ≤ j := fun d hd => by
          rcases ins_cons.mp ((h.on d hd).mpr hw) with z | z
          · exact z.2 j rfl
          · have := h.can.below z
            have h2 : f ≤ m := h.fs (f, some j) (.head _)
            have : d + 1 < f := this
            omega
        have b1 := big (m + 1) (by omega)
        have b2 := big (j + 1) (by omega)
        omega
    split
    · rename_i e2
      exact open_ e1 e2
    · rename_i e2
      exact same false e1 (by cases hw : w n <;> first | rfl | exact absurd hw e2)
/-- marks that rise, none of w's changes between them -/
theorem foldD_ok {w : Int → Bool} : ∀ (ms : List Int) (R : List Row) (m : Int), Till w R m → ms.Pairwise (· < ·) → (∀ n ∈ ms, m < n ∧ 0 ≤ n) → (∀ d, m < d → w d ≠ w (d - 1) → d ∈ ms) → Can (ms.foldl (stepD w) R) ∧ ∀ d, Ins (ms.foldl (stepD w) R) d ↔ w d = true
  | [], R, m, h, _, _, hc => by
    refine ⟨h.can, fun d => ?_⟩
    by_cases hd : d ≤ m
    · exact h.up d hd
    · rw [List.foldl_nil, h.on d (by omega)]
      have all : ∀ k : Nat, w (m + k) = w m := fun k => by
        induction k with
        | zero => rw [show m + ((0 : Nat) : Int) = m by omega]
        | succ k ih =>
          by_cases e : w (m + (k + 1 : Nat)) = w (m + (k + 1 : Nat) - 1)
          · rw [e, show m + ((k + 1 : Nat) : Int) - 1 = m + (k : Nat) by omega, ih]
          · exact nomatch hc _ (by omega) e
      have := all (d - m).toNat
      rw [show m + (((d - m).toNat : Nat) : Int) = d by omega] at this
      rw [this]
  | n :: ms, R, m, h, pw, hb, hc => by
    have pw' := List.pairwise_cons.mp pw
    have hn := hb n (.head _)
    have cst : ∀ d, m ≤ d → d < n → w d = w m := fun d h1 h2 => by
      have all : ∀ k : Nat, m + k < n → w (m + k) = w m := fun k => by
        induction k with
        | zero => intro _; rw [show m + ((0 : Nat) : Int) = m by omega]
        | succ k ih =>
          intro hk
          by_cases e : w (m + (k + 1 : Nat)) = w (m + (k + 1 : Nat) - 1)
          · rw [e, show m + ((k + 1 : Nat) : Int) - 1 = m + (k : Nat) by omega]
            exact ih (by omega)
          · rcases List.mem_cons.mp (hc _ (by omega) e) with z | z
            · omega
            · have := pw'.1 _ z
              omega
      have := all (d - m).toNat (by omega)
      rw [show m + (((d - m).toNat : Nat) : Int) = d by omega] at this
      exact this
    exact foldD_ok ms (stepD w R n) n (h.step hn.1 hn.2 cst) pw'.2 (fun k hk => ⟨pw'.1 k hk, (hb k (.tail _ hk)).2⟩) fun d hd e => by
      rcases List.mem_cons.mp (hc d (by omega) e) with z | z
      · omega
      · exact z
/-! ### the rows' own look -/
def inB (r : Row) (d : Int) : Bool := decide (r.1 ≤ d) && (match r.2 with
  | none => true
  | some j => decide (d ≤ j))
def insB (rs : List Row) (d : Int) : Bool := rs.any fun r => inB r d
theorem inB_iff {r : Row} {d : Int} : inB r d = true ↔ In r d := by
  obtain ⟨a, x⟩ := r
  unfold inB In
  cases x with
  | none => simp
  | some j => simp
theorem insB_iff {rs : List Row} {d : Int} : insB rs d = true ↔ Ins rs d := by
  unfold insB Ins
  rw [List.any_eq_true]
  constructor
  · rintro ⟨r, hr, h⟩
    exact ⟨r, hr, inB_iff.mp h⟩
  · rintro ⟨r, hr, h⟩
    exact ⟨r, hr, inB_iff.mpr h⟩
/-- THE CORE: rows sorted by their first days and merged are what the walk over the marks finds -/
theorem core {rs ss : List Row} {ms : List Int} (ok : ∀ r ∈ rs, Ok r) (hp : ∀ r, r ∈ ss ↔ r ∈ rs) (srt : ss.Pairwise (fun a b => a.1 ≤ b.1)) (pw : ms.Pairwise (· < ·)) (m0 : ∀ n ∈ ms, 0 ≤ n)
    (hf : ∀ r ∈ rs, r.1 ∈ ms) (hl : ∀ r ∈ rs, ∀ j, r.2 = some j → j + 1 ∈ ms) : ms.foldl (stepD (insB rs)) [] = ss.foldl stepM [] := by
  have oks : ∀ r ∈ ss, Ok r := fun r hr => ok r ((hp r).mp hr)
  obtain ⟨c1, e1⟩ := foldM_ok ss [] trivial oks srt fun u t e => by cases e
  have neg : ∀ d, d < 0 → insB rs d = false := fun d hd => by
    cases h : insB rs d with
    | false => rfl
    | true =>
      obtain ⟨r, hr, hi⟩ := insB_iff.mp h
      have := (ok r hr).1
      have := hi.1
      omega
  have t0 : Till (insB rs) [] (-1) := ⟨trivial, fun d hd => by rw [neg d (by omega)]; exact ⟨fun z => absurd z not_nil, nofun⟩, fun d _ => by rw [neg (-1) (by omega)]; exact ⟨fun z => absurd z not_nil, nofun⟩, nofun⟩
  obtain ⟨c2, e2⟩ := foldD_ok ms [] (-1) t0 pw (fun n hn => ⟨by have := m0 n hn; omega, m0 n hn⟩) fun d hd hne => by
    have : (insB rs d = true ∧ insB rs (d - 1) = false) ∨ (insB rs d = false ∧ insB rs (d - 1) = true) := by
      cases h1 : insB rs d <;> cases h2 : insB rs (d - 1)
      · exact absurd (h1.trans h2.symm) hne
      · exact .inr ⟨rfl, rfl⟩
      · exact .inl ⟨rfl, rfl⟩
      · exact absurd (h1.trans h2.symm) hne
    rcases this with ⟨h1, h2⟩ | ⟨h1, h2⟩
    · obtain ⟨r, hr, hi⟩ := insB_iff.mp h1
      have hno : ¬ In r (d - 1) := fun z => by
        have := insB_iff.mpr ⟨r, hr, z⟩
        rw [h2] at this
        cases this
      have : r.1 = d := by
        by_cases e : r.1 = d
        · exact e
        · exact absurd (show In r (d - 1) from ⟨by have := hi.1; omega, fun j ej => by have := hi.2 j ej; omega⟩) hno
      rw [← this]
      exact hf r hr
    · obtain ⟨r, hr, hi⟩ := insB_iff.mp h2
      have hno : ¬ In r d := fun z => by
        have := insB_iff.mpr ⟨r, hr, z⟩
        rw [h1] at this
        cases this
      cases hx : r.2 with
      | none => exact absurd (show In r d from ⟨by have := hi.1; omega, fun j ej => by rw [hx] at ej; cases ej⟩) hno
      | some j =>
        have hj := hi.2 j hx
        have : j + 1 = d := by
          by_cases e : j + 1 = d
          · exact e
          · exact absurd (show In r d from ⟨by have := hi.1; omega, fun k ek => by rw [hx] at ek; cases ek; omega⟩) hno
        rw [← this]
        exact hl r hr j hx
  refine uniq c2 c1 fun d => ?_
  rw [e2, e1, insB_iff]
  constructor
  · rintro ⟨r, hr, h⟩
    exact .inr ⟨r, (hp r).mpr hr, h⟩
  · rintro (z | ⟨r, hr, h⟩)
    · exact absurd z not_nil
    · exact ⟨r, (hp r).mp hr, h⟩
end LD

set_option Elab.async false
set_option linter.all false
set_option maxRecDepth 100000
set_option maxHeartbeats 3200000
namespace LT
open PySem PySem.Spec PyProof.Rows L2
/-- a set just made -/
abbrev nuSet (w : World) : Obj := { cls := .type "set", dict := none, data := .set #[] 0 (.fresh 0 0 (!w.params.followText "set-order")) }
section
variable {P : Program} {w : World} {A : Around} {E : Value → Shared → Prop} {s : Shared}
/-- set(l), l a list of ints -/
theorem set_of_ints {l : Addr} {arr : Array Value} (zs : List Int) {Q : Value → Shared → Prop} (calm : A.handled = none) (isl : s.heap.IsList l arr) (hz : IntsAre arr.toList zs) (few : zs.length + 1 < scanBound)
    (fin : ∀ (g : Heap) (tk c : Nat), SetR w g s.heap.objs.size (fun j => decide (j ∈ zs)) c → c ≤ zs.length → (∀ b o, s.heap.get? b = some o → g.get? b = some o) → Q (.ref s.heap.objs.size) { s with heap := g, toks := tk }) :
    wpAny (model P w) A (call (.type "set") [.ref l]) Q E s := by
  have asz : arr.size = zs.length := by rw [← Array.length_toList]; exact IntsAre.length hz
  obtain ⟨cc, tl, mr⟩ := F.called_set.mro
  have k1 := F.called_set.made; have k2 := F.called_set.sub; have k3 := F.called_set.notType; have k4 := F.called_set.canCreate; have k5 := F.typeCall_set_1 (.ref l)
  refine wpAny_call (codeAny_of_tree (show wpAny _ _ (callAny (.type "set") _) _ _ _ from wpAny_pure ⟨Code.quiet_builtin _ (by decide +kernel), codeAny_builtin F.entry_type_call ?_⟩))
  rw [Around.under_plain (weight_type_call_type "set" [.ref l] []) rfl]
  repeat (any_goals (first | assumption | wp_step))
  refine codeAny_mono (code_set_led1 (.ref l) (E := E) (Q₁ := fun ob s₁ => ob = .ref s.heap.objs.size ∧ s₁ = { s with heap := s.heap.push (nuSet w) }) ⟨rfl, rfl⟩) fun r s₁ hr => ?_
  match r, hr with
  | .error e, hr => exact hr
  | .ok .next, hr => exact hr.elim
  | .ok .brk, hr => exact hr.elim
  | .ok .cont, hr => exact hr.elim
  | .ok (.ret ob), hr =>
    obtain ⟨rfl, rfl⟩ := hr
    have atS : (s.heap.push (nuSet w)).get? s.heap.objs.size = some (nuSet w) := Heap.get?_push_size _ rfl
    have tyS : Shared.TypeIs { s with heap := s.heap.push (nuSet w) } (.ref s.heap.objs.size) "set" := ⟨_, atS, rfl⟩
    have k6 := F.called_set.init.lookup; have k7 := F.called_set.init.bind (.ref s.heap.objs.size)
    repeat (any_goals (first | assumption | wp_step))
    refine codeAny_mono (codeAny_call_builtin (R := wants (fun r s₂ => r = .none ∧ ∃ g tk c, s₂ = { s with heap := g, toks := tk } ∧ SetR w g s.heap.objs.size (fun j => decide (j ∈ zs)) c ∧ c ≤ zs.length ∧ (∀ b o, s.heap.get? b = some o → g.get? b = some o)) E)
      F.called_set.init.plain F.entry_set_init (check_set_init_1 tyS ?go)) fun r₂ s₂ hr₂ => ?back
    case go =>
      obtain ⟨⟨oc, od, oda, osl⟩, ol, cl, nl, dl⟩ := isl
      simp only at cl dl
      subst cl; subst dl
      have ol1 : (s.heap.push (nuSet w)).get? l = some { cls := .type "list", dict := od, data := .seq arr nl, slots := osl } := Heap.get?_push_of_some _ ol
      have k8 := F.sub_list_set; have k9 := F.sub_list_frozenset
      have k10 : (Value.type "list" == Value.type "dict") = false := by decide
      have is1 : (s.heap.push (nuSet w)).IsList l arr := ⟨_, ol1, rfl, nl, rfl⟩
      unfold Builtin.«set.__init__» noKeywords Builtin.Frozenset.updateFrom
      generalize epi : pyIter = pit
      wp_walk
      subst epi
      have lt : l < s.heap.objs.size := Heap.lt_size ol
      have sz1 : (s.heap.push (nuSet w)).objs.size = s.heap.objs.size + 1 := Heap.size_push ..
      have nI : l ≠ (s.heap.push (nuSet w)).objs.size := by rw [sz1]; exact Nat.ne_of_lt (Nat.lt_succ_of_lt lt)
      have nS : s.heap.objs.size ∉ [(s.heap.push (nuSet w)).objs.size, l] := fun z => by
        rcases List.mem_cons.mp z with z | z
        · rw [sz1] at z
          exact absurd z (Nat.ne_of_lt (Nat.lt_succ_self _))
        · exact absurd (List.mem_singleton.mp z) (Nat.ne_of_gt lt)
      have vals : ∀ (i : Nat) (v : Value), arr[i]? = some v → ∃ k t, zs[i]? = some k ∧ v = .int k t := fun i v hv => by
        have hi : i < zs.length := by rw [← asz]; exact (Array.getElem?_eq_some_iff.mp hv).1
        obtain ⟨t, e⟩ := IntsAre.int_at hz i v (by rw [Array.getElem?_toList]; exact hv)
        exact ⟨zs[i], t, List.getElem?_eq_getElem hi, by rw [e, List.getD_eq_getElem?_getD, List.getElem?_eq_getElem hi] <;> rfl⟩
      refine wpAny_pyIter_list is1 (wpAny_bind (wpAny_runValue ?_))
      refine set_update_ints ((Walks.list (by simp [calm]) _ l nI arr).toS) s.heap.objs.size nS zs asz few vals (arr.size - 0) 0 _ (by omega) (Nat.zero_le _) ⟨⟨_, Heap.get?_push_size _ rfl, rfl, rfl⟩, (is1.push _)⟩ ⟨0, Nat.le_refl 0, setR_new_at (Heap.get?_push_of_some _ atS)⟩ ?_
      intro s' c' mv hc' hS'
      obtain ⟨g, g2, d', tk', os'⟩ := s'
      have eg : g2 = s.gens := mv.gens
      have ed : d' = s.drawn := mv.drawn
      have eo : os' = s.os := mv.os
      subst eg; subst ed; subst eo
      rw [asz] at hc'
      refine wpAny_pure (show wpAny _ _ (ret Value.none) _ _ _ from wpAny_pure ⟨rfl, g, tk', c', rfl, hS', hc', fun b o e => ?_⟩)
      have hb0 : b < s.heap.objs.size := Heap.lt_size e
      refine mv.heap b o (fun z => ?_) (Heap.get?_push_of_some _ (Heap.get?_push_of_some _ e))
      rcases List.mem_cons.mp z with z | z
      · exact absurd z (Nat.ne_of_lt hb0)
      · have z := List.mem_singleton.mp z
        rw [sz1] at z
        exact absurd z (Nat.ne_of_lt (Nat.lt_succ_of_lt hb0))
    case back =>
      match r₂, hr₂ with
      | .error e, hr₂ => exact hr₂
      | .ok .next, hr₂ => exact hr₂.elim
      | .ok .brk, hr₂ => exact hr₂.elim
      | .ok .cont, hr₂ => exact hr₂.elim
      | .ok (.ret r), hr₂ =>
        obtain ⟨rfl, g, tk, c', rfl, hS', hc', hk'⟩ := hr₂
        repeat (any_goals (first | assumption | wp_step))
        exact fin _ _ _ hS' hc' hk'
end
def rSetOfL (K : PySem.W.Frag) (w : World) : List V → Hp → VK → Prop := fun xs H Q => ∃ (l : Addr) (zs : List Int), xs = [V.ref l] ∧ SqL K H l (zs.map V.int) ∧ zs.length ≤ 1000 ∧
  ∀ (a : Addr) (c : Nat), H a = none → c ≤ zs.length → Q (.ref a) (upd H a (SetO w a (fun j => decide (j ∈ zs)) c))
theorem cr_setL {X : Cx} (hc : X.calm = true) : CallR X (.type "set") (rSetOfL X.K X.w) := by
  intro pins s σ H xs us Q I r h
  obtain ⟨l, zs, rfl, hq, hl, q⟩ := h
  rw [Vals.ref1 r]
  obtain ⟨its, rv, pl, hz⟩ := I.list hq
  refine set_of_ints zs (I.ok.hd hc) pl.isList (show IntsAre its.toArray.toList zs from ints_of_vals rv) (by unfold scanBound; omega) fun g tk c R hcn kp => ?_
  have hn : H s.heap.objs.size = none := I.hok.fresh (Nat.le_refl _)
  exact ⟨.ref s.heap.objs.size, _, I.laid (t' := tk) kp (Nat.le_refl _) (setO_new R), rfl, q _ c hn hcn⟩
end LT

set_option Elab.async false
set_option linter.all false
set_option maxRecDepth 100000
namespace LT
open PySem PySem.Spec PyProof.Rows L2 LamX
/-- a list or a tuple -/
def Sq2 (K : PySem.W.Frag) (H : Hp) (a : Addr) (xs : List V) : Prop := SqL K H a xs ∨ SqT K H a xs
def Still (K : PySem.W.Frag) (H1 : Hp) (a : Addr) (xs : List V) (H : Hp) : Prop := (SqL K H1 a xs → SqL K H a xs) ∧ (SqT K H1 a xs → SqT K H a xs)
theorem Still.of {K : PySem.W.Frag} {H1 H : Hp} {a : Addr} {xs : List V} (e : ExtN H1 H) : Still K H1 a xs H := ⟨extN_seqL e, extN_seqT e⟩
theorem Sq2.ext {K : PySem.W.Frag} {H1 H : Hp} {a : Addr} {xs : List V} (h : Sq2 K H1 a xs) (e : ExtN H1 H) : Sq2 K H a xs := h.imp (extN_seqL e) (extN_seqT e)
theorem extN_same {H H' : Hp} (s : Same H H') : ExtN H H' := ExtN.of s
def iSeq (K : PySem.W.Frag) (tl : TE) : TI := fun σ H R => tl σ H fun x H1 => ∃ (a : Addr) (xs : List V), x = .ref a ∧ Sq2 K H1 a xs ∧ ∀ J, Walk J xs.length (Still K H1 a xs) (YAt xs) → R J H1
section
variable {X : Cx} {tg : Expr}
/-- for .. in l, l a list or a tuple -/
theorem pi_seq {l : Expr} {tl : TE} (hl : PE X l tl) : PI X tg l (iSeq X.K tl) := by
  refine ⟨fun pins s σ H R I h => thn (hl.run pins s σ H _ I h) fun v s1 ⟨x, H1, I1, r1, a, xs, e, hq, q⟩ => ?_⟩
  subst e
  cases r1
  have nu : FpOk X pins H1 s1.heap.objs.size := I1.fpOk (Nat.le_refl _) (I1.hok.fresh (Nat.le_refl _))
  have one : ∀ b ∈ [s1.heap.objs.size], FpOk X pins H1 b := fun b hb => by rw [List.mem_singleton.mp hb]; exact nu
  rcases hq with hq | hq
  · obtain ⟨its, rv, p, hz⟩ := I1.list hq
    exact wpAny_pyIter_list p.isList ⟨_, [s1.heap.objs.size], _, _, H1, rfl, I1.kept (t' := s1.toks) (fun b o e => Heap.get?_push_of_some _ e), turn_list a _, ⟨_, Heap.get?_push_size _ rfl, rfl, rfl⟩, one, q _ (walk_list.mono (fun _ z => z.1 hq) fun _ _ _ _ _ _ y => y)⟩
  · obtain ⟨its, rv, p, hz⟩ := I1.tuple hq
    exact wpAny_pyIter_tuple (show s1.heap.IsTuple a its.toArray from p) ⟨_, [s1.heap.objs.size], _, _, H1, rfl, I1.kept (t' := s1.toks) (fun b o e => Heap.get?_push_of_some _ e), turn_tuple a _, ⟨_, Heap.get?_push_size _ rfl, rfl, rfl⟩, one, q _ (walk_tup.mono (fun _ z => z.2 hq) fun _ _ _ _ _ _ y => y)⟩
/-- a number or None -/
def enc : Option Int → V
  | none => .non
  | some j => .int j
def shO : Option Int → Str
  | none => "None"
  | some j => toString j
theorem call_reprO : CallR X (.builtin "repr") (fun xs H Q => ∃ o : Option Int, xs = [enc o] ∧ (∀ i, o = some i → i.natAbs.log2 < 1920) ∧ Q (.str (shO o)) H) := by
  intro pins s σ H xs us Q I r h
  obtain ⟨o, rfl, hz, q⟩ := h
  obtain ⟨u, rfl, ru⟩ := vals1 r
  cases o with
  | none =>
    obtain rfl : u = .none := ru
    exact PySem.P.repr_of_none ⟨.str _, H, I.tok _, ⟨_, rfl⟩, q⟩
  | some i =>
    obtain ⟨t, rfl⟩ : ∃ t, u = .int i t := ru
    exact PySem.P.repr_of_int (hz i rfl) ⟨.str _, H, I.tok _, ⟨_, rfl⟩, q⟩
end
end LT

set_option Elab.async false
set_option linter.all false
set_option maxRecDepth 100000
set_option maxHeartbeats 1600000
namespace LT
open PySem PySem.Spec PyProof.Rows L2
section
variable {prog : Program} {w : World} {A : Around} {E : Value → Shared → Prop} {s : Shared}
/-- two lists that are not of one length -/
theorem ne_lens {Q : Value → Shared → Prop} {l b : Addr} {items items2 : Array Value} {n n2 : Nat} (hu : A.units < cLine) (ho : s.heap.get? l = some { cls := .type "list", data := .seq items n }) (ho2 : s.heap.get? b = some { cls := .type "list", data := .seq items2 n2 }) (hd : items.size ≠ items2.size)
    (h : Q (.bool true) s) : wpAny (model prog w) A (richCompare .NotEq (.ref l) (.ref b)) Q E s := by
  refine wpAny_richCompare_same_room (op := .NotEq) ⟨_, ho, rfl⟩ ⟨_, ho2, rfl⟩ PySem.F.slot_list_ne (GQ.call_here PySem.F.slot_list_ne ⟨_, ho, rfl⟩ PySem.F.entry_list_ne (PySem.F.args_list_ne_2 _ _) ?_) hu
  have f3 := AutoSeq1.sub_list_list
  have hne : (items.size != items2.size) = true := by simpa using hd
  obtain ⟨hp, g, d, tk, os⟩ := s
  wp_walk using wpAny_loadPart' ho, wpAny_loadPart' ho2
  exact ⟨(fun z => nomatch z), h⟩
end
def rNeNil (K : PySem.W.Frag) : R2 := fun x y H Q => ∃ (l k : Addr) (xs : List V), x = .ref l ∧ y = .ref k ∧ H l = some (.lst xs) ∧ H k = some (.lst []) ∧ Q (.bl (!xs.isEmpty)) H
/-- xs != [] -/
theorem op_neNil {X : Cx} (hu : X.A.units + 64 < cLine) : OpR X (compareOp .NotEq) (rNeNil X.K) := by
  intro pins s σ H x y v u Q I rx ry h
  obtain ⟨l, k, xs, rfl, rfl, hl, hk, q⟩ := h
  cases xs with
  | nil => exact op_neD hu pins s σ H _ _ v u Q I rx ry ⟨.list [], .list [], .lst (SqL.of hl) .nil, .lst (SqL.of hk) .nil, by decide +kernel, by decide +kernel, by
      rw [show PyData.eqv (.list []) (.list []) = true by decide +kernel]
      exact q⟩
  | cons x xs =>
    cases rx
    cases ry
    obtain ⟨_, its, n, rv, ho⟩ := (show ObjOk X.prog X.w H s.heap l (.lst (x :: xs)) from I.hok l _ hl)
    obtain ⟨_, its2, n2, rv2, ho2⟩ := (show ObjOk X.prog X.w H s.heap k (.lst []) from I.hok k _ hk)
    cases rv2
    refine ne_lens (by omega) ho ho2 ?_ ⟨.bl true, H, I, rfl, q⟩
    have := rv.length
    rw [List.length_cons] at this
    show its.toArray.size ≠ 0
    rw [List.size_toArray]
    omega
end LT

set_option Elab.async false
set_option linter.all false
set_option maxRecDepth 100000
set_option maxHeartbeats 1600000
namespace LT
open PySem PySem.Spec PyProof.Rows L2
section
variable {P : Program} {w : World} {A : Around} {E : Value → Shared → Prop} {s : Shared} {a : Addr}
/-- sorted(set), of however many -/
theorem sorted_setA {S : Int → Bool} {n : Nat} {Q : Value → Shared → Prop} (R : SetR w s.heap a S n) (calm : A.handled = none) (few : n ≤ 100000)
    (fin : ∀ (t : Shared) (p : Addr) (out : Array Value) (c : Nat) (ns : List Int), (∀ b o, s.heap.get? b = some o → t.heap.get? b = some o) → t.gens = s.gens → t.os = s.os → s.heap.objs.size ≤ p →
      t.heap.get? p = some (seqObj "list" out c) → IntsAre out.toList ns → ns.Pairwise (· < ·) → (∀ k, k ∈ ns ↔ S k = true) → ns.length = n → Q (.ref p) t) :
    wpAny (model P w) A (call (.builtin "sorted") [.ref a]) Q E s := by
  obtain ⟨ob, es, ep, tt, e1, e2, e3, each, dist, mem, hb, hf, cnt, hr, hl⟩ := R
  refine Calls.call_function_entry kind_sorted plain_sorted entry_sorted (args_sorted1 _) ?_
  unfold Builtin.«sorted»
  refine wpAny_bind (m := checkCount "sorted" 1 1 _) (wpAny_pure ?_)
  refine wpAny_bind (collect_set (A := A.in1) calm ⟨ob, e1, e2.1, e3⟩ hf hb hr hl fun u vs keep big gens os perm => ?_)
  have size : vs.length = n := by
    rw [perm.length_eq, List.length_map, Array.length_toList]
    exact cnt
  have inn : IntsAre vs (vs.map Builtin.Re.reRawOf) := ints_of vs fun v hv => by
    obtain ⟨y, hy, z⟩ := List.mem_map.mp (perm.mem_iff.mp hv)
    obtain ⟨k, tk, h1, _⟩ := each y hy
    exact ⟨k, tk, z ▸ h1⟩
  have keys : (vs.map Builtin.Re.reRawOf).Perm (es.toList.map keyOf) := by
    have z := perm.map Builtin.Re.reRawOf
    rwa [List.map_map] at z
  have fits : vs.length ≤ sizeLine := by
    rw [size, sizeLine_eq]
    omega
  refine wpAny_bind (wpAny_newList ?_ fits)
  have at_ : (u.heap.push (seqObj "list" vs.toArray 0)).get? u.heap.objs.size = some (seqObj "list" vs.toArray 0) := Heap.get?_push_size _ rfl
  refine wpAny_bind (wpAny_holding (wpAny_call_entry slot_list_sort ⟨_, at_, rfl⟩ entry_list_sort (list_sort_treeAny at_ inn fits fun out ms i1 i2 i3 => ⟨_, rfl, ?_⟩) (args_list_sort _)))
  obtain ⟨c, hc⟩ := sortedHeap_at (vs := vs) (out := out) at_
  have p2 : ms.Perm (es.toList.map keyOf) := i2.trans keys
  refine wpAny_pure ⟨_, rfl, fin _ u.heap.objs.size out c ms (fun b o e => ?_) gens os big hc i1 (lt_of_le_nodup ms i3 (p2.nodup_iff.mpr dist)) (fun k => ?_) ?_⟩
  · have z := keep b o e
    have lt := Heap.lt_size z
    show (sortedHeap (u.heap.push (seqObj "list" vs.toArray 0)) u.heap.objs.size vs out).get? b = some o
    rw [sortedHeap_old (Nat.ne_of_lt lt) (by rw [size_push']; exact Nat.lt_succ_of_lt lt)]
    exact Heap.get?_push_of_some _ z
  · rw [p2.mem_iff, ← mem k]
  · rw [p2.length_eq, List.length_map, Array.length_toList]
    exact cnt
end
def rSortedSetA (w : World) : List V → Hp → VK → Prop := fun vs H Q => ∃ (a : Addr) (S : Int → Bool) (n : Nat), vs = [V.ref a] ∧ H a = some (SetO w a S n) ∧ n ≤ 100000 ∧
  ∀ (ns : List Int) (p : Addr), ns.Pairwise (· < ·) → (∀ k : Int, k ∈ ns ↔ S k = true) → ns.length = n → H p = none → Q (.ref p) (upd H p (.lst (ns.map V.int)))
theorem cr_sortedSetA {X : Cx} (hc : X.calm = true) : CallR X (.builtin "sorted") (rSortedSetA X.w) := by
  intro pins s σ H vs us Q I r h
  obtain ⟨a, S, n, rfl, ha, few, q⟩ := h
  rw [Vals.ref1 r]
  refine sorted_setA (setO_get I ha) (I.ok.hd hc) few fun t p out c ns keep gens os big at_ inn rise mem size => ?_
  have short : (ns.map V.int).length ≤ sizeLine := by
    rw [List.length_map, size, sizeLine_eq]
    omega
  have new : H p = none := I.hok.fresh big
  have J : Inv X pins σ (upd H p (.lst (ns.map V.int))) { s with heap := t.heap, gens := t.gens, drawn := t.drawn, toks := t.toks } :=
    I.call (ch := []) (Un.laid keep big new) (I.hok.laid keep big ⟨short, out.toList, c, vals_of_ints inn, at_⟩) (by rw [gens]; exact I.bare) (fun _ z => nomatch z)
  have e : t = { s with heap := t.heap, gens := t.gens, drawn := t.drawn, toks := t.toks } := by
    obtain ⟨th, tg, td, tt, to⟩ := t
    obtain ⟨sh, sg, sd, st, so⟩ := s
    cases os
    rfl
  rw [e]
  exact ⟨.ref p, _, J, rfl, q ns p rise mem size new⟩
end LT

set_option Elab.async false
set_option linter.all false
set_option maxRecDepth 100000
namespace LT
open PySem PySem.Spec PyProof.Rows L2
/-! ### rows of days as data, and how they are shown -/
def endD : Option Int → PyData
  | none => .none
  | some j => .int j
def rowD (r : LD.Row) : PyData := .tuple [.int r.1, endD r.2]
theorem rowsD_lay : ∀ rs : List LD.Row, PyData.canLayAll0 (rs.map rowD) = true
  | [] => by simp [PyData.canLayAll0]
  | (a, x) :: rs => by
    have := rowsD_lay rs
    cases x <;> simp [PyData.canLayAll0, rowD, endD, PyData.canLay0, this]
theorem rowsD_depth : ∀ rs : List LD.Row, PyData.depthAll (rs.map rowD) ≤ 2
  | [] => by simp [PyData.depthAll]
  | (a, x) :: rs => by
    have h1 := rowsD_depth rs
    have h2 : (rowD (a, x)).depth ≤ 2 := by cases x <;> simp [rowD, endD, PyData.depth, PyData.depthAll]
    simp only [List.map_cons, PyData.depthAll]
    omega
theorem rowsD_canL (rs : List LD.Row) : PyData.canLay0 (.list (rs.map rowD)) = true := by
  simp only [PyData.canLay0]
  exact rowsD_lay rs
theorem rowsD_deep (rs : List LD.Row) : PyData.depth (.list (rs.map rowD)) ≤ 60 := by
  have h1 := rowsD_depth rs
  simp only [PyData.depth]
  omega
theorem rowsD_shaped (rs : List LD.Row) : SeqAt.shaped (.list (rs.map rowD)) = true := by
  have h2 := rowsD_deep rs
  show (PyData.canLay0 (.list (rs.map rowD)) && decide (PyData.depth (.list (rs.map rowD)) ≤ 64)) = true
  rw [Bool.and_eq_true]
  exact ⟨rowsD_canL rs, decide_eq_true (by omega)⟩
/-- days of at most sixty-two figures -/
structure Sm (r : LD.Row) : Prop where
  a : r.1.natAbs ≤ 10 ^ 62
  b : ∀ j, r.2 = some j → j.natAbs ≤ 10 ^ 62
theorem int_log {i : Int} (h : i.natAbs ≤ 10 ^ 62) : i.natAbs.log2 < 207 := by
  by_cases h0 : i.natAbs = 0
  · rw [h0]
    decide
  · rw [Nat.log2_lt h0]
    exact Nat.lt_of_le_of_lt h (by decide)
theorem int_leaf {i : Int} (h : i.natAbs ≤ 10 ^ 62) : PyData.leavesShort 64 (.int i) = true := by
  have h1 := int_text_length_le10 (a := i) (k := 63) (by decide) (Nat.lt_of_le_of_lt h (by decide))
  have e : (PyData.shown (.int i)).length = (toString i).length := PySem.ofString_length _
  show decide ((PyData.shown (.int i)).length ≤ 64) = true
  exact decide_eq_true (by omega)
theorem int_weight {i : Int} (h : i.natAbs ≤ 10 ^ 62) : PyData.weight (.int i) ≤ 207 := by
  have := int_log h
  show (if i == 0 then 0 else i.natAbs.log2 + 1) ≤ 207
  split <;> omega
theorem end_leaf {o : Option Int} (h : ∀ j, o = some j → j.natAbs ≤ 10 ^ 62) : PyData.leavesShort 64 (endD o) = true := by
  cases o with
  | none => rfl
  | some j => exact int_leaf (h j rfl)
theorem end_weight {o : Option Int} (h : ∀ j, o = some j → j.natAbs ≤ 10 ^ 62) : PyData.weight (endD o) ≤ 207 := by
  cases o with
  | none => exact Nat.zero_le _
  | some j => exact int_weight (h j rfl)
theorem rows_leaf : ∀ rs : List LD.Row, (∀ r ∈ rs, Sm r) → PyData.leavesShortAll 64 (rs.map rowD) = true
  | [], _ => by simp [PyData.leavesShortAll]
  | r :: rs, h => by
    have h1 := rows_leaf rs fun u hu => h u (.tail _ hu)
    have h2 := h r (.head _)
    have h3 := int_leaf h2.a
    have h4 := end_leaf h2.b
    simp [PyData.leavesShortAll, rowD, PyData.leavesShort, h1, h4] at h3 ⊢
    exact h3
theorem rows_weight : ∀ rs : List LD.Row, (∀ r ∈ rs, Sm r) → PyData.weightAll (rs.map rowD) ≤ 420 * rs.length
  | [], _ => by simp [PyData.weightAll]
  | r :: rs, h => by
    have h1 := rows_weight rs fun u hu => h u (.tail _ hu)
    have h2 := h r (.head _)
    have h3 := int_weight h2.a
    have h4 := end_weight h2.b
    have e : PyData.weight (rowD r) = PyData.weight (.int r.1) + 1 + (PyData.weight (endD r.2) + 1 + 0) := by
      simp only [rowD, PyData.weight, PyData.weightAll]
    rw [List.map_cons, List.length_cons]
    show PyData.weight (rowD r) + 1 + PyData.weightAll (rs.map rowD) ≤ _
    omega
theorem rows_fit (rs : List LD.Row) (h : ∀ r ∈ rs, Sm r) (hl : rs.length ≤ 500) : (PyData.list (rs.map rowD)).shown.length ≤ sizeLine := by
  have h1 := PyData.shown_le 64 (by decide) (.list (rs.map rowD)) (by simpa only [PyData.leavesShort] using rows_leaf rs h)
  have h2 := rows_weight rs h
  have e : PyData.weight (.list (rs.map rowD)) = PyData.weightAll (rs.map rowD) := by simp only [PyData.weight]
  rw [e] at h1
  rw [sizeLine_eq]
  omega
theorem rows_showable : ∀ rs : List LD.Row, (∀ r ∈ rs, Sm r) → PyData.showableAll (rs.map rowD) = true
  | [], _ => by simp [PyData.showableAll]
  | (a, x) :: rs, h => by
    have h1 := rows_showable rs fun u hu => h u (.tail _ hu)
    have h2 := h (a, x) (.head _)
    have h5 : a.natAbs.log2 < 1920 := by
      have : a.natAbs.log2 < 207 := int_log h2.a
      omega
    cases x with
    | none => simp [PyData.showableAll, rowD, endD, PyData.showable, h1, h5]
    | some j =>
      have h4 := int_log (h2.b j rfl)
      have h6 : j.natAbs.log2 < 1920 := by omega
      simp [PyData.showableAll, rowD, endD, PyData.showable, h1, h5, h6]
theorem rows_noDict (rs : List LD.Row) : (PyData.list (rs.map rowD)).hasDict = false := PyData.hasDict_of_canLay _ (rowsD_canL rs)
theorem endD_dp {K : PySem.W.Frag} {H : Hp} (o : Option Int) : Dp K H (enc o) (endD o) := by
  cases o with
  | none => exact .non
  | some j => exact .int j
/-- the text of rows -/
def shRows (rs : List LD.Row) : Str := (PyData.list (rs.map rowD)).shown
def rReprRows (K : PySem.W.Frag) : List V → Hp → VK → Prop := fun xs H Q => ∃ (v : V) (rs : List LD.Row), xs = [v] ∧ Dp K H v (.list (rs.map rowD)) ∧ (∀ r ∈ rs, Sm r) ∧ rs.length ≤ 500 ∧ Q (.str (shRows rs)) H
theorem call_reprRows {X : Cx} (hG : X.A.guards = some []) (hu : X.A.units + 64 < cLine) : CallR X (.builtin "repr") (rReprRows X.K) := by
  intro pins s σ H xs us Q I r h
  obtain ⟨v, rs, rfl, hd, hs, hl, q⟩ := h
  exact call_reprSh hG hu pins s σ H _ us Q I r ⟨v, _, rfl, .dp hd (rows_noDict rs), by simpa only [PyData.showable] using rows_showable rs hs, rowsD_deep rs, rows_fit rs hs hl, q⟩
end LT

set_option Elab.async false
set_option linter.all false
set_option maxRecDepth 100000
set_option maxHeartbeats 1600000
namespace LT
open PySem PySem.Spec PyProof.Rows L2 LamX
/-! ### defs whose code object is known -/
structure FunC (K : PySem.W.Frag) (x qual : Str) (st : Stmt) (f c : Addr) (fd : FuncData) : Prop where
  ex : ∃ (oc : Value) (od : Option Addr) (kV doc pm : Value) (an : Option Addr) (ct : Value) (osl : Array (Option Value)),
    fd = PySem.W.fnOf x qual (defArgs st) (defBody st) (defScope st) .none kV doc pm an (.ref c) ct ∧ K.lookup f = some ⟨oc, od, .func fd, osl⟩ ∧ PySem.W.codeIn K (.ref c) qual = true
  kp : PySem.W.keepIn K (.ref f) = true
theorem FunC.fn {K : PySem.W.Frag} {x qual : Str} {st : Stmt} {f c : Addr} {fd : FuncData} (F : FunC K x qual st f c fd) : Fun K x qual st f fd := by
  obtain ⟨oc, od, kV, doc, pm, an, ct, osl, e, l, h⟩ := F.ex
  exact ⟨⟨oc, od, kV, doc, pm, an, .ref c, ct, osl, e, l, h⟩, F.kp⟩
section
variable {P : Program} {w : World} {K : PySem.W.Frag} {mg : Str → Option Value} {base : Heap}
theorem FunC.ok {x qual : Str} {st : Stmt} {f c : Addr} {fd : FuncData} {N ps : List Str} {k : Nat} {sp : Sp} (F : FunC K x qual st f c fd) (S : FnScope N ps (defScope st)) (len : ∀ vs H Q E, sp vs H Q E → vs.length = ps.length)
    (body : ∀ (A : Around) (outer : List Env) (s : Shared) (H : Hp) (vs : List V) (Q : VK) (E : XK), Room k (A.deeper (envOfC qual (defScope st) s.heap.objs.size f (.ref c))) → sp vs H Q E →
      ∃ t, PSs (cxOf CX0 P w K mg base N qual (defScope st) f (.ref c) A outer s H E).nox (defBody st) t ∧ t { nx := fun _ H' => Q .non H', rt := Q } (start N vs) H) : FnOk P w K mg base CX0 (k + 1) f fd ps sp := by
  obtain ⟨oc, od, kV, doc, pm, an, ct, osl, rfl, lk, hcd⟩ := F.ex
  refine fn_of lk hcd S len fun A outer s H vs Q E hr hsp => ?_
  obtain ⟨t, h, q⟩ := body A outer s H vs Q E hr hsp
  exact ⟨t, h.nox, q⟩
/-- the same where no repr is under way -/
theorem FunC.okG {x qual : Str} {st : Stmt} {f c : Addr} {fd : FuncData} {N ps : List Str} {k : Nat} {sp : Sp}
    (F : FunC K x qual st f c fd) (S : FnScope N ps (defScope st))
    (argc : ∀ {vs : List V} {H : Hp} {Q : VK} {E : XK}, sp vs H Q E → vs.length = ps.length)
    (body : ∀ (A : Around) (outer : List Env) (s : Shared) (H : Hp) (vs : List V) (Q : VK) (E : XK),
      A.guards = some [] → Room k (A.deeper (envOfC qual (defScope st) s.heap.objs.size f (.ref c))) → sp vs H Q E →
      ∃ t, PSs (cxOf CX0 P w K mg base N qual (defScope st) f (.ref c) A outer s H E).nox (defBody st) t ∧
        t { nx := fun _ H' => Q .non H', rt := Q } (start N vs) H) :
    FnG P w K mg base CX0 (k + 1) f fd ps sp := by
  obtain ⟨oc, od, kV, doc, pm, an, ct, osl, rfl, lk, hcd⟩ := F.ex
  refine ⟨argc, ?_⟩
  intro A outer s H args us vs Q E hg hr e0 hb r hsp
  have inS : ∀ b o, base.get? b = some o → s.heap.get? b = some o := fun b o e => (e0.bs b o e).1
  have KX : K.In s.heap := e0.mod.kin.keeps inS
  have hkind : ∀ y ∈ ps.zip us, (defScope st).names.lookup y.1 = some .local ∨
      ((defScope st).names.lookup y.1 = some .cell ∧
        ((cellsFrom (s.heap.objs.size + 1) (defScope st).names []).lookup y.1).isSome = true) := by
    rintro ⟨n, v⟩ hy
    rcases S.par n (List.of_mem_zip hy).1 with q | q
    · exact Or.inl q
    · exact Or.inr ⟨q, PySem.W.cellsFrom_some _ _ _ (Or.inl q)⟩
  refine codeAny_call_function hr.depth (KX _ _ lk) rfl S.co S.gen rfl (PySem.W.codeRec_of KX hcd)
    (hb _ _ _ _ (wpAny_newFunctionEnv_cells S.kind hkind fun env he s1 x => ?_))
  subst he
  refine ⟨(e0.mod.nolimit.keeps inS).keeps x.toInCall.keep, codeAny_func ?_⟩
  obtain ⟨t, ht, hq⟩ := body A outer s H vs Q E hg (hr.deeper _) hsp
  have I := inv_start (CX := CX0) (N := N) (qual := qual) (f := f) (cd := .ref c) (E := E) S hr.hd e0 (argc hsp) r x
  refine wpAny_mono (ht.nox.run [] s1 (start N vs) H _ I hq) (fun fl s' hs => ?_) (fun e s' hs => hs)
  cases fl with
  | brk => obtain ⟨_, _, _, q⟩ := hs; exact q.elim
  | cont => obtain ⟨_, _, _, q⟩ := hs; exact q.elim
  | next =>
    obtain ⟨σ', H', J, q⟩ := hs
    exact ⟨V.non, H', J.os, J.bare, J.base, J.hok, rfl, q⟩
  | ret u =>
    obtain ⟨v, σ', H', J, rv, q⟩ := hs
    exact ⟨v, H', J.os, J.bare, J.base, J.hok, rv, q⟩
end
/-! ### the end of a law whose defs make lambdas and show things -/
theorem end_tab {P : Program} {w : World} {K : PySem.W.Frag} {mg mb : Str → Option Value} {CX : CXT} {k : Nat} {fa a : Addr} {cs : List (Addr × Addr)}
    {fd : FuncData} {x : Str} {sp : Sp} {s₁ : Shared} {vs : List Value} {ns : List Int}
    (KX : K.In s₁.heap) (hns : s₁.heap.Ns mainGlobals mg) (hb : s₁.heap.Ns builtinsNs mb)
    (hbb : ∀ x : Str, x ≠ "__name__" → mb x = bootBuiltins x) (hlim : s₁.heap.NoLimit) (hg : s₁.gens = #[])
    (tab : ∀ p ∈ cs, s₁.heap.get? p.2 = some { cls := .none, data := .fields #[] }) (out : ∀ p ∈ cs, K.lookup p.2 = none) (code : ∀ p ∈ cs, PySem.W.CodeHd s₁.heap p.1 p.2)
    (bmain : ∃ (bm : Addr) (ob : Obj), mg "__builtins__" = some (.ref bm) ∧ bm ≠ builtinsNs ∧ s₁.heap.get? bm = some ob ∧ ob.cls = .type "module" ∧ ob.dict = some builtinsNs ∧ ob.data = .plain)
    (ha : s₁.heap.get? a = some { cls := .type "list", data := .seq vs.toArray }) (hi : IntsAre vs ns)
    (hl : ns.length ≤ sizeLine) (hr : Room k callerA)
    (F : ∀ base : Heap, K.In base → base.Ns mainGlobals mg → (∀ p ∈ cs, TabB base mg p.1 p.2) → FnG P w K mg base CX k fa fd [x] sp)
    (hbind : ∀ (s : Shared) (u : Value), BindsTo s fd ⟨[u], []⟩ [(x, u)])
    (hsp : ∀ H : Hp, (∀ p ∈ cs, H p.2 = some (.tbl #[])) → SqL K H a (ns.map V.int) → sp [.ref a] H (fun v _ => v = .bl true) fun _ _ _ => False)
    (hCX : ∀ H e s', CX [] H s₁ (fun _ _ _ => False) e s' → False) :
    codeAny (model P w) callerA (.call (.ref fa) ⟨[.ref a], []⟩)
      (fun r s' => r = .ok (.ret (.bool true)) ∧ OldK s₁.heap s'.heap ∧ s'.os = s₁.os ∧ AllBare s'.gens) s₁ := by
  have lenV := hi.length
  let ts : List Addr := cs.map (·.2)
  have tabT : ∀ b ∈ ts, s₁.heap.get? b = some { cls := .none, data := .fields #[] } := fun b hb => by
    obtain ⟨p, hp, rfl⟩ := List.mem_map.mp hb
    exact tab p hp
  have inT : ∀ p ∈ cs, p.2 ∈ ts := fun p hp => List.mem_map.mpr ⟨p, hp, rfl⟩
  have outA : a ∉ ts := fun z => by
    have y := tabT a z
    rw [ha] at y
    cases y
  have start : ∀ H : Hp, (∀ b, b ∈ ts → H b = some (.tbl #[])) → (∀ b, b ∉ ts → b ≠ a → H b = none) → (H a = none ∨ ∃ ob xs, H a = some (.frz ob (.lst xs)) ∧ K.lookup a = none) →
      SqL K H a (ns.map V.int) → HOk P w H s₁.heap → codeAny (model P w) callerA (.call (.ref fa) ⟨[.ref a], []⟩)
        (fun r s' => r = .ok (.ret (.bool true)) ∧ OldK s₁.heap s'.heap ∧ s'.os = s₁.os ∧ AllBare s'.gens) s₁ := by
    intro H isT isN isA hS hok
    have free : ∀ {b : Addr} {o : Obj}, s₁.heap.get? b = some o → (∀ ys n, o.data ≠ .seq ys n) → o.data ≠ .fields #[] → H b = none := fun {b o} e n1 n2 => by
      refine isN b (fun z => ?_) fun z => ?_
      · rw [tabT b z] at e
        cases e
        exact n2 rfl
      · rw [z, ha] at e
        cases e
        exact n1 _ _ rfl
    have nsK : ∀ {b : Addr} {m : Str → Option Value}, s₁.heap.Ns b m → (hidT s₁.heap H).Ns b m := by
      rintro b m ⟨o, es, ep, e, d, r⟩
      exact ⟨o, es, ep, hidT_get e (free e (by rw [d]; nofun) (by rw [d]; nofun)), d, r⟩
    have inK : K.In (hidT s₁.heap H) := fun b o e => hidT_get (KX b o e) (by
      by_cases q : b = a
      · rcases isA with z | ⟨_, _, _, z⟩
        · rw [q]
          exact z
        · rw [q, z] at e
          cases e
      · refine isN b (fun z => ?_) q
        obtain ⟨p, hp, rfl⟩ := List.mem_map.mp z
        rw [out p hp] at e
        cases e)
    have hM : Mod K mg (hidT s₁.heap H) := ⟨inK, nsK hns, ⟨mb, nsK hb, hbb⟩, hlim.imp fun _ z => ⟨nsK z.1, z.2⟩⟩
    have TB : ∀ p ∈ cs, TabB (hidT s₁.heap H) mg p.1 p.2 := fun p hp => by
      have at_ := tab p hp
      refine ⟨?_, ?_, fun z => ?_⟩
      · obtain ⟨o, us, fl, tf, fg, tg, inF, tx, tt, c1, c2, c3, c4, c5⟩ := code p hp
        exact ⟨o, us, fl, tf, fg, tg, inF, tx, tt, hidT_get c1 (free c1 (by rw [c3]; nofun) (by
          rw [c3]
          intro z
          cases z
          cases c4)), c2, c3, c4, c5⟩
      · obtain ⟨bm, ob, b1, b2, b3, b4, b5, b6⟩ := bmain
        refine ⟨bm, ob, b1, b2, fun z => ?_, fun z => ?_, hidT_get b3 (free b3 (by rw [b6]; nofun) (by rw [b6]; nofun)), b4, b5, b6⟩
        · obtain ⟨o, es, ep, e, d, _⟩ := hns
          rw [z, e] at b3
          cases b3
          rw [d] at b6
          cases b6
        · rw [z, at_] at b3
          cases b3
          cases b6
      · obtain ⟨o, es, ep, e, d, _⟩ := hns
        rw [z, at_] at e
        cases e
        cases d
    have e0 : Env0 P w K mg (hidT s₁.heap H) callerA [] s₁ H :=
      ⟨rfl, hM, fun b o e => of_hidT e, Nat.le_of_eq (hidT_size _ _), trivial,
        fun b z => absurd (show b ∈ ([] : List Addr) from z) List.not_mem_nil, hok, .of_eq hg⟩
    refine codeAny_mono ((F _ inK (nsK hns) TB).go (us := [.ref a]) (vs := [.ref a]) rfl hr e0 (hbind s₁ (.ref a)) (.cons rfl .nil) (hsp H (fun p hp => isT _ (inT p hp)) hS)) fun r s' h => ?_
    match r, h with
    | .error e, h => exact (hCX H e s' h).elim
    | .ok .next, h => exact h.elim
    | .ok .brk, h => exact h.elim
    | .ok .cont, h => exact h.elim
    | .ok (.ret u), h =>
      obtain ⟨v, H', os, bare, un, hok', r', rfl⟩ := h
      obtain rfl : u = Value.bool true := r'
      have old : ∀ b o, b ∉ ts → s₁.heap.get? b = some o → s'.heap.get? b = some o := fun b o nt e => by
        have plain : H b = none → s'.heap.get? b = some o := fun z => un.keep b o e z (fun y => absurd (show b ∈ ([] : List Addr) from y) List.not_mem_nil) List.not_mem_nil
        by_cases q : b = a
        · rcases isA with z | ⟨ob, xs, z, _⟩
          · exact plain (by rw [q]; exact z)
          · rw [← q] at z
            have z1 := (hok b _ z).1
            rw [e] at z1
            cases z1
            exact (hok' b _ (un.frzs b _ _ z)).1
        · exact plain (isN b nt q)
      have grew : ∀ p ∈ cs, ∃ more : Array Value, s'.heap.get? p.2 = some { cls := .none, data := .fields more } := fun p hp => by
        obtain ⟨more, z⟩ := un.tbls p.2 #[] (isT _ (inT p hp))
        exact ⟨_, hok' p.2 _ z⟩
      refine ⟨rfl, ⟨fun b o e => ?_, fun b o e => ?_⟩, os, bare⟩
      · by_cases q : b ∈ ts
        · obtain ⟨p, hp, rfl⟩ := List.mem_map.mp q
          obtain ⟨more, hm⟩ := grew p hp
          rw [tab p hp] at e
          cases e
          exact .inr (.inl ⟨((code p hp).tab (tab p hp)).isCodeTable, rfl, #[], more, rfl, by rw [Array.empty_append]; exact hm⟩)
        · exact .inl (old b o q e)
      · by_cases q : b ∈ ts
        · obtain ⟨p, hp, rfl⟩ := List.mem_map.mp q
          obtain ⟨more, hm⟩ := grew p hp
          exact ⟨_, hm⟩
        · exact ⟨o, old b o q e⟩
  let T0 : Hp := fun b => if b ∈ ts then some (.tbl #[]) else none
  have T0t : ∀ b, b ∈ ts → T0 b = some (.tbl #[]) := fun b z => if_pos z
  have T0n : ∀ b, b ∉ ts → T0 b = none := fun b z => if_neg z
  have T0ok : HOk P w T0 s₁.heap := fun b u z => by
    by_cases q : b ∈ ts
    · rw [T0t b q] at z
      cases z
      exact tabT b q
    · rw [T0n b q] at z
      cases z
  cases hk : K.lookup a with
  | some o =>
    have e := KX a o hk
    rw [ha] at e
    cases e
    refine start T0 T0t (fun b z _ => T0n b z) (.inl (T0n a outA)) (.inr ⟨_, vs.toArray, _, hk, rfl, rfl, rfl, ?_, by simpa using vals_ints hi⟩) T0ok
    rw [List.size_toArray, lenV]
    exact hl
  | none =>
    refine start (upd T0 a (.frz { cls := .type "list", data := .seq vs.toArray } (.lst (ns.map V.int)))) (fun b z => ?_) (fun b z q => ?_) (.inr ⟨_, _, upd_same, hk⟩) (.inl (.inr ⟨_, upd_same⟩)) (fun b u z => ?_)
    · rw [upd_ne (fun q : b = a => outA (by rw [← q]; exact z))]
      exact T0t b z
    · rw [upd_ne q]
      exact T0n b z
    · by_cases q : b = a
      · subst q
        rw [upd_same] at z
        cases z
        exact ⟨ha, by rw [List.length_map]; exact hl, vs, _, vals_ints hi, ha⟩
      · rw [upd_ne q] at z
        by_cases q2 : b ∈ ts
        · rw [T0t b q2] at z
          cases z
          exact tabT b q2
        · rw [T0n b q2] at z
          cases z
/-- what is known of the law's def where the top has ended -/
def LawG (l : PySem.W.OpenLaw) (w : World) (K : PySem.W.Frag) (CX : CXT) (k n : Nat) (x : Str) (mg : Str → Option Value) (fa : Addr) (h : Heap) : Prop :=
  ∃ (fd : FuncData) (cs : List (Addr × Addr)) (sp : Sp), (∀ p ∈ cs, h.get? p.2 = some { cls := .none, data := .fields #[] }) ∧ (∀ p ∈ cs, K.lookup p.2 = none) ∧
    (∀ p ∈ cs, PySem.W.CodeHd h p.1 p.2) ∧ (∀ (s : Shared) (u : Value), BindsTo s fd ⟨[u], []⟩ [(x, u)]) ∧
    (∀ (H : Hp) (a : Addr) (ns : List Int), ns.length ≤ n → (∀ p ∈ cs, H p.2 = some (.tbl #[])) → SqL K H a (ns.map V.int) → sp [.ref a] H (fun v _ => v = .bl true) fun _ _ _ => False) ∧
    ∀ base : Heap, K.In base → base.Ns mainGlobals mg → (∀ p ∈ cs, TabB base mg p.1 p.2) → FnG l.prog w K mg base CX k fa fd [x] sp
theorem end_ofG {l : PySem.W.OpenLaw} {n k : Nat} {q : Program} {loose : List Str} {XP : (Str → Option Value) → Heap → Prop}
    {YP : World → Heap → Prop} {d : DefRec} {K : Params → PySem.W.Frag} {CX : World → CXT} {x : Str}
    (hn : l.most = some n) (hn2 : n ≤ sizeLine) (hdf : d.params.defaults = []) (hr : Room k callerA)
    (hY : ∀ (w : World) (h : Heap), YP w h → (K w.params).In h)
    (F : ∀ (w : World) (mg : Str → Option Value) (fa : Addr) (h : Heap), YP w h → (K w.params).In h → h.Ns mainGlobals mg →
      mg d.name = some (.ref fa) → LawG l w (K w.params) (CX w) k n x mg fa h)
    (hCX : ∀ (w : World) (H : Hp) (s : Shared) (e : Value) (s' : Shared), CX w [] H s (fun _ _ _ => False) e s' → False) :
    PySem.W.WalkO q loose XP YP l.row.toRowW d [] (fun f vs => PySem.call f vs) :=
  Att.attach_callB hn hdf fun w _ s₁ mg mb fa o pm cd doc a vs ns G Y ho hd hcd hmg hobj hints hlen hbits hg => by
    obtain ⟨fd, cs, sp, tab, out, code, hb, hsp, hF⟩ := F w mg fa _ Y (hY w _ Y) G.T.g hmg
    exact end_tab (hY w _ Y) G.T.g G.T.b G.T.builtins G.T.nolimit hg tab out code G.T.bmain hobj hints (Nat.le_trans hlen hn2) hr hF hb
      (fun H hH hS => hsp H a ns hlen hH hS) fun H e s' => hCX w H s₁ e s'
end LT

set_option Elab.async false
set_option linter.all false
namespace LD
/-! ### days of both, days of none, by rows that rise -/
def Gap (r s : Row) : Prop := ∃ j, r.2 = some j ∧ j + 1 < s.1
structure Asc (L : List Row) : Prop where
  ok : ∀ r ∈ L, Ok r
  pw : L.Pairwise Gap
theorem can_iff : ∀ {L : List Row}, Can L ↔ (∀ r ∈ L, Ok r) ∧ L.Pairwise (fun r s => Gap s r)
  | [] => ⟨fun _ => ⟨nofun, .nil⟩, fun _ => trivial⟩
  | r :: t => by
    constructor
    · intro h
      exact ⟨h.ok, List.pairwise_cons.mpr ⟨fun s hs => h.under s hs, (can_iff.mp h.tail).2⟩⟩
    · rintro ⟨h1, h2⟩
      obtain ⟨g1, g2⟩ := List.pairwise_cons.mp h2
      have ht : Can t := can_iff.mpr ⟨fun s hs => h1 s (.tail _ hs), g2⟩
      cases t with
      | nil => exact h1 r (.head _)
      | cons s t => exact ⟨h1 r (.head _), g1 s (.head _), ht⟩
theorem asc_of {L : List Row} (h : Can L) : Asc L.reverse := ⟨fun r hr => h.ok r (List.mem_reverse.mp hr), List.pairwise_reverse.mpr (can_iff.mp h).2⟩
theorem can_of {L : List Row} (h : Asc L) : Can L.reverse := can_iff.mpr ⟨fun r hr => h.ok r (List.mem_reverse.mp hr), List.pairwise_reverse.mpr h.pw⟩
theorem ins_rev {L : List Row} {d : Int} : Ins L.reverse d ↔ Ins L d := ⟨fun ⟨r, hr, z⟩ => ⟨r, List.mem_reverse.mp hr, z⟩, fun ⟨r, hr, z⟩ => ⟨r, List.mem_reverse.mpr hr, z⟩⟩
theorem asc_uniq {L L' : List Row} (h : Asc L) (h' : Asc L') (e : ∀ d, Ins L d ↔ Ins L' d) : L = L' := by
  have := uniq (can_of h) (can_of h') fun d => by rw [ins_rev, ins_rev, e]
  rw [← List.reverse_reverse L, this, List.reverse_reverse]
theorem Asc.tail {r : Row} {t : List Row} (h : Asc (r :: t)) : Asc t := ⟨fun s hs => h.ok s (.tail _ hs), (List.pairwise_cons.mp h.pw).2⟩
theorem Asc.gap {r : Row} {t : List Row} (h : Asc (r :: t)) : ∀ s ∈ t, Gap r s := (List.pairwise_cons.mp h.pw).1
def earlierO : Option Int → Option Int → Option Int
  | none, y => y
  | some i, none => some i
  | some i, some j => some (if j < i then j else i)
theorem earlier_or (x y : Option Int) : x = earlierO x y ∨ y = earlierO x y := by
  cases x with
  | none => exact .inr rfl
  | some i =>
    cases y with
    | none => exact .inl rfl
    | some j =>
      by_cases h : j < i
      · exact .inr (by show some j = some (if j < i then j else i); rw [if_pos h])
      · exact .inl (by show some i = some (if j < i then j else i); rw [if_neg h])
theorem earlier_le (x y : Option Int) (d : Int) : (∀ j, earlierO x y = some j → d ≤ j) ↔ (∀ j, x = some j → d ≤ j) ∧ (∀ j, y = some j → d ≤ j) := by
  cases x with
  | none => exact ⟨fun h => ⟨nofun, h⟩, fun h => h.2⟩
  | some i =>
    cases y with
    | none => exact ⟨fun h => ⟨h, nofun⟩, fun h => h.1⟩
    | some j =>
      constructor
      · intro h
        have := h _ rfl
        refine ⟨fun k ek => ?_, fun k ek => ?_⟩ <;> cases ek <;> split at this <;> omega
      · rintro ⟨h1, h2⟩ k ek
        have h1 := h1 i rfl
        have h2 := h2 j rfl
        cases ek
        split <;> omega
theorem earlier_r {x : Option Int} {j : Int} : ∃ k, earlierO x (some j) = some k ∧ k ≤ j := by
  cases x with
  | none => exact ⟨j, rfl, Int.le_refl _⟩
  | some i => exact ⟨_, rfl, by split <;> omega⟩
theorem earlier_l {y : Option Int} {i : Int} : ∃ k, earlierO (some i) y = some k ∧ k ≤ i := by
  cases y with
  | none => exact ⟨i, rfl, Int.le_refl _⟩
  | some j => exact ⟨_, rfl, by split <;> omega⟩
def fitsB (f : Int) (l : Option Int) : Bool := match l with
  | none => true
  | some j => decide (f ≤ j)
def mx (a b : Int) : Int := if b > a then b else a
def ov : List Row → List Row → List Row
  | [], _ => []
  | _ :: _, [] => []
  | r :: s, u :: t =>
    (if fitsB (mx r.1 u.1) (earlierO r.2 u.2) = true then [(mx r.1 u.1, earlierO r.2 u.2)] else []) ++ ov (if r.2 = earlierO r.2 u.2 then s else r :: s) (if u.2 = earlierO r.2 u.2 then t else u :: t)
termination_by S O => S.length + O.length
decreasing_by
  have h := earlier_or r.2 u.2
  by_cases h1 : r.2 = earlierO r.2 u.2
  · rw [dif_pos h1]
    split <;> (try simp only [List.length_cons]) <;> omega
  · have h2 := h.resolve_left h1
    rw [dif_neg h1, dif_pos h2]
    simp only [List.length_cons]
    omega
theorem ov_nil (O : List Row) : ov [] O = [] := by rw [ov]
theorem ov_nil2 (S : List Row) : ov S [] = [] := by cases S <;> rw [ov]
theorem ov_cons (r u : Row) (s t : List Row) : ov (r :: s) (u :: t) = (if fitsB (mx r.1 u.1) (earlierO r.2 u.2) = true then [(mx r.1 u.1, earlierO r.2 u.2)] else []) ++
    ov (if r.2 = earlierO r.2 u.2 then s else r :: s) (if u.2 = earlierO r.2 u.2 then t else u :: t) := by rw [ov]
theorem in_mx {r u : Row} {d : Int} : In (mx r.1 u.1, earlierO r.2 u.2) d ↔ In r d ∧ In u d := by
  unfold In
  rw [earlier_le]
  have : mx r.1 u.1 ≤ d ↔ r.1 ≤ d ∧ u.1 ≤ d := by
    unfold mx
    split <;> omega
  rw [this]
  exact ⟨fun ⟨⟨a, b⟩, c, e⟩ => ⟨⟨a, c⟩, b, e⟩, fun ⟨⟨a, c⟩, b, e⟩ => ⟨⟨a, b⟩, c, e⟩⟩
theorem fits_in {f : Int} {l : Option Int} : fitsB f l = true ↔ In (f, l) f := by
  unfold fitsB In
  cases l with
  | none => simp
  | some j => simp
theorem not_fits {f : Int} {l : Option Int} (h : fitsB f l = false) (d : Int) : ¬ In (f, l) d := fun z => by
  unfold fitsB at h
  cases l with
  | none => cases h
  | some j =>
    have h := of_decide_eq_false h
    have h1 : f ≤ d := z.1
    have := z.2 j rfl
    omega
theorem ov_ok : ∀ (n : Nat) (S O : List Row), S.length + O.length ≤ n → Asc S → Asc O →
    Asc (ov S O) ∧ (∀ d, Ins (ov S O) d ↔ Ins S d ∧ Ins O d) ∧ ∀ v ∈ ov S O, (∃ u ∈ S, u.1 ≤ v.1) ∧ ∃ u ∈ O, u.1 ≤ v.1 := by
  intro n
  induction n with
  | zero =>
    intro S O hn _ _
    have : S = [] := List.eq_nil_of_length_eq_zero (by omega)
    subst this
    rw [ov_nil]
    exact ⟨⟨nofun, .nil⟩, fun d => ⟨fun z => absurd z not_nil, fun z => absurd z.1 not_nil⟩, nofun⟩
  | succ n ih =>
    intro S O hn hS hO
    cases S with
    | nil =>
      rw [ov_nil]
      exact ⟨⟨nofun, .nil⟩, fun d => ⟨fun z => absurd z not_nil, fun z => absurd z.1 not_nil⟩, nofun⟩
    | cons r s =>
      cases O with
      | nil =>
        rw [ov_nil2]
        exact ⟨⟨nofun, .nil⟩, fun d => ⟨fun z => absurd z not_nil, fun z => absurd z.2 not_nil⟩, nofun⟩
      | cons u t =>
        have hor := earlier_or r.2 u.2
        have hlen : (if r.2 = earlierO r.2 u.2 then s else r :: s).length + (if u.2 = earlierO r.2 u.2 then t else u :: t).length ≤ n := by
          simp only [List.length_cons] at hn
          by_cases h1 : r.2 = earlierO r.2 u.2
          · rw [if_pos h1]
            split <;> (try simp only [List.length_cons]) <;> omega
          · rw [if_neg h1, if_pos (hor.resolve_left h1)]
            simp only [List.length_cons]
            omega
        have aS : Asc (if r.2 = earlierO r.2 u.2 then s else r :: s) := by
          split
          · exact hS.tail
          · exact hS
        have aO : Asc (if u.2 = earlierO r.2 u.2 then t else u :: t) := by
          split
          · exact hO.tail
          · exact hO
        obtain ⟨i1, i2, i3⟩ := ih _ _ hlen aS aO
        have sub1 : ∀ v ∈ (if r.2 = earlierO r.2 u.2 then s else r :: s), v ∈ r :: s := fun v hv => by
          split at hv
          · exact .tail _ hv
          · exact hv
        have sub2 : ∀ v ∈ (if u.2 = earlierO r.2 u.2 then t else u :: t), v ∈ u :: t := fun v hv => by
          split at hv
          · exact .tail _ hv
          · exact hv
        have x1 : r.2 = earlierO r.2 u.2 → ∀ d, In r d → ¬ Ins t d := fun e d hd ⟨v, hv, z⟩ => by
          obtain ⟨j, ej, hj⟩ := hO.gap v hv
          obtain ⟨k, ek, hk⟩ := earlier_r (x := r.2) (j := j)
          rw [← ej, ← e] at ek
          have h1 := hd.2 k ek
          have h2 := z.1
          omega
        have x2 : u.2 = earlierO r.2 u.2 → ∀ d, In u d → ¬ Ins s d := fun e d hd ⟨v, hv, z⟩ => by
          obtain ⟨j, ej, hj⟩ := hS.gap v hv
          obtain ⟨k, ek, hk⟩ := earlier_l (y := u.2) (i := j)
          rw [← ej, ← e] at ek
          have h1 := hd.2 k ek
          have h2 := z.1
          omega
        have both : ∀ d, (Ins (r :: s) d ∧ Ins (u :: t) d) ↔ (In r d ∧ In u d) ∨ (Ins (if r.2 = earlierO r.2 u.2 then s else r :: s) d ∧ Ins (if u.2 = earlierO r.2 u.2 then t else u :: t) d) := fun d => by
          constructor
          · rintro ⟨h1, h2⟩
            by_cases e1 : r.2 = earlierO r.2 u.2
            · rw [if_pos e1]
              rcases ins_cons.mp h1 with z | z
              · rcases ins_cons.mp h2 with y | y
                · exact .inl ⟨z, y⟩
                · exact absurd y (x1 e1 d z)
              · by_cases e2 : u.2 = earlierO r.2 u.2
                · rw [if_pos e2]
                  rcases ins_cons.mp h2 with y | y
                  · exact absurd z (x2 e2 d y)
                  · exact .inr ⟨z, y⟩
                · rw [if_neg e2]
                  exact .inr ⟨z, h2⟩
            · have e2 := hor.resolve_left e1
              rw [if_neg e1, if_pos e2]
              rcases ins_cons.mp h2 with y | y
              · rcases ins_cons.mp h1 with z | z
                · exact .inl ⟨z, y⟩
                · exact absurd z (x2 e2 d y)
              · exact .inr ⟨h1, y⟩
          · rintro (⟨h1, h2⟩ | ⟨⟨v, hv, z⟩, ⟨v', hv', z'⟩⟩)
            · exact ⟨ins_cons.mpr (.inl h1), ins_cons.mpr (.inl h2)⟩
            · exact ⟨⟨v, sub1 v hv, z⟩, ⟨v', sub2 v' hv', z'⟩⟩
        have third : ∀ v ∈ ov (if r.2 = earlierO r.2 u.2 then s else r :: s) (if u.2 = earlierO r.2 u.2 then t else u :: t), (∃ w ∈ r :: s, w.1 ≤ v.1) ∧ ∃ w ∈ u :: t, w.1 ≤ v.1 := fun v hv => by
          obtain ⟨⟨a, ha, ha'⟩, b, hb, hb'⟩ := i3 v hv
          exact ⟨⟨a, sub1 a ha, ha'⟩, b, sub2 b hb, hb'⟩
        rw [ov_cons]
        cases hf : fitsB (mx r.1 u.1) (earlierO r.2 u.2) with
        | false =>
          rw [if_neg (by simp), List.nil_append]
          refine ⟨i1, fun d => ?_, third⟩
          rw [i2, both, ← in_mx]
          exact ⟨.inr, fun z => z.resolve_left (not_fits hf d)⟩
        | true =>
          rw [if_pos rfl, List.singleton_append]
          have hin := fits_in.mp hf
          have okn : Ok (mx r.1 u.1, earlierO r.2 u.2) := ⟨by
            have h1 := (hS.ok r (.head _)).1
            have h2 := (hO.ok u (.head _)).1
            show 0 ≤ mx r.1 u.1
            unfold mx
            split <;> omega, hin.2⟩
          refine ⟨⟨fun v hv => ?_, List.pairwise_cons.mpr ⟨fun v hv => ?_, i1.pw⟩⟩, fun d => ?_, fun v hv => ?_⟩
          · rcases List.mem_cons.mp hv with rfl | hv
            · exact okn
            · exact i1.ok v hv
          · obtain ⟨⟨a, ha, ha'⟩, b, hb, hb'⟩ := i3 v hv
            rcases hor with e | e
            · rw [if_pos e] at ha
              obtain ⟨j, ej, hj⟩ := hS.gap a ha
              exact ⟨j, e.symm.trans ej, by omega⟩
            · rw [if_pos e] at hb
              obtain ⟨j, ej, hj⟩ := hO.gap b hb
              exact ⟨j, e.symm.trans ej, by omega⟩
          · rw [ins_cons, i2, both, in_mx]
          · rcases List.mem_cons.mp hv with rfl | hv
            · refine ⟨⟨r, .head _, ?_⟩, u, .head _, ?_⟩ <;> (show _ ≤ mx r.1 u.1; unfold mx; split <;> omega)
            · exact third v hv
theorem ov_len : ∀ (n : Nat) (S O : List Row), S.length + O.length ≤ n → (ov S O).length ≤ n := by
  intro n
  induction n with
  | zero =>
    intro S O hn
    have : S = [] := List.eq_nil_of_length_eq_zero (by omega)
    subst this
    rw [ov_nil]
    exact Nat.le_refl _
  | succ n ih =>
    intro S O hn
    cases S with
    | nil =>
      rw [ov_nil]
      exact Nat.zero_le _
    | cons r s =>
      cases O with
      | nil =>
        rw [ov_nil2]
        exact Nat.zero_le _
      | cons u t =>
        have hor := earlier_or r.2 u.2
        have hlen : (if r.2 = earlierO r.2 u.2 then s else r :: s).length + (if u.2 = earlierO r.2 u.2 then t else u :: t).length ≤ n := by
          simp only [List.length_cons] at hn
          by_cases h1 : r.2 = earlierO r.2 u.2
          · rw [if_pos h1]
            split <;> (try simp only [List.length_cons]) <;> omega
          · rw [if_neg h1, if_pos (hor.resolve_left h1)]
            simp only [List.length_cons]
            omega
        have := ih _ _ hlen
        rw [ov_cons, List.length_append]
        split <;> simp only [List.length_cons, List.length_nil] <;> omega
def gp : Int → List Row → List Row
  | st, [] => [(st, none)]
  | st, r :: t => (if st < r.1 then [(st, some (r.1 - 1))] else []) ++ match r.2 with
    | none => []
    | some j => gp (j + 1) t
theorem gp_len : ∀ (L : List Row) (st : Int), (gp st L).length ≤ L.length + 1
  | [], st => Nat.le_refl _
  | r :: t, st => by
    show ((if st < r.1 then [(st, some (r.1 - 1))] else []) ++ _).length ≤ _
    have h : (if st < r.1 then [((st, some (r.1 - 1)) : Row)] else []).length ≤ 1 := by split <;> simp
    rw [List.length_append, List.length_cons]
    cases r.2 with
    | none => simp only [List.length_nil]; omega
    | some j =>
      have := gp_len t (j + 1)
      simp only
      omega
theorem gp_ok : ∀ (L : List Row) (st : Int), 0 ≤ st → Asc L → (∀ r ∈ L, st ≤ r.1) → Asc (gp st L) ∧ (∀ d, Ins (gp st L) d ↔ st ≤ d ∧ ¬ Ins L d) ∧ ∀ r ∈ gp st L, st ≤ r.1
  | [], st, h0, _, _ => by
    refine ⟨⟨fun r hr => ?_, List.pairwise_singleton _ _⟩, fun d => ?_, fun r hr => ?_⟩
    · rw [List.mem_singleton.mp hr]
      exact ⟨h0, nofun⟩
    · show Ins [(st, none)] d ↔ _
      rw [ins_cons]
      exact ⟨fun z => z.elim (fun y => ⟨y.1, not_nil⟩) (fun y => absurd y not_nil), fun z => .inl ⟨z.1, nofun⟩⟩
    · rw [List.mem_singleton.mp hr]
      exact Int.le_refl _
  | (a, x) :: t, st, h0, hA, hb => by
    have hst : st ≤ a := hb (a, x) (.head _)
    have head : ∀ r ∈ (if st < a then [((st, some (a - 1)) : Row)] else []), r = (st, some (a - 1)) ∧ st < a := fun r hr => by
      split at hr
      · exact ⟨List.mem_singleton.mp hr, ‹_›⟩
      · cases hr
    have hin : ∀ d, Ins (if st < a then [((st, some (a - 1)) : Row)] else []) d ↔ st ≤ d ∧ d < a := fun d => by
      constructor
      · rintro ⟨r, hr, z⟩
        obtain ⟨rfl, _⟩ := head r hr
        have h1 : st ≤ d := z.1
        have := z.2 (a - 1) rfl
        omega
      · rintro ⟨h1, h2⟩
        rw [if_pos (by omega)]
        exact ⟨_, .head _, h1, fun j ej => by cases ej; omega⟩
    cases x with
    | none =>
      have e : gp st ((a, none) :: t) = if st < a then [((st, some (a - 1)) : Row)] else [] := List.append_nil _
      have tn : ∀ v ∈ t, False := fun v hv => by
        obtain ⟨j, ej, _⟩ := hA.gap v hv
        cases ej
      rw [e]
      refine ⟨⟨fun r hr => ?_, ?_⟩, fun d => ?_, fun r hr => ?_⟩
      · obtain ⟨rfl, h⟩ := head r hr
        exact ⟨h0, fun j ej => by cases ej; show st ≤ a - 1; omega⟩
      · split
        · exact List.pairwise_singleton _ _
        · exact .nil
      · rw [hin, ins_cons]
        constructor
        · rintro ⟨h1, h2⟩
          refine ⟨h1, fun z => ?_⟩
          rcases z with z | ⟨v, hv, _⟩
          · have : a ≤ d := z.1
            omega
          · exact tn v hv
        · rintro ⟨h1, h2⟩
          refine ⟨h1, ?_⟩
          by_cases h : d < a
          · exact h
          · exact absurd (.inl ⟨by show a ≤ d; omega, nofun⟩) h2
      · obtain ⟨rfl, _⟩ := head r hr
        exact Int.le_refl _
    | some j =>
      have haj : a ≤ j := (hA.ok (a, some j) (.head _)).2 j rfl
      have tg : ∀ v ∈ t, j + 1 < v.1 := fun v hv => by
        obtain ⟨k, ek, hk⟩ := hA.gap v hv
        cases ek
        exact hk
      have a0 := (hA.ok (a, some j) (.head _)).1
      have a0 : 0 ≤ a := a0
      obtain ⟨g1, g2, g3⟩ := gp_ok t (j + 1) (by omega) hA.tail fun v hv => by have := tg v hv; omega
      have e : gp st ((a, some j) :: t) = (if st < a then [((st, some (a - 1)) : Row)] else []) ++ gp (j + 1) t := rfl
      rw [e]
      refine ⟨⟨fun r hr => ?_, List.pairwise_append.mpr ⟨?_, g1.pw, fun r hr v hv => ?_⟩⟩, fun d => ?_, fun r hr => ?_⟩
      · rcases List.mem_append.mp hr with hr | hr
        · obtain ⟨rfl, h⟩ := head r hr
          exact ⟨h0, fun k ek => by cases ek; show st ≤ a - 1; omega⟩
        · exact g1.ok r hr
      · split
        · exact List.pairwise_singleton _ _
        · exact .nil
      · obtain ⟨rfl, h⟩ := head r hr
        have := g3 v hv
        exact ⟨a - 1, rfl, by omega⟩
      · have app : Ins ((if st < a then [((st, some (a - 1)) : Row)] else []) ++ gp (j + 1) t) d ↔ Ins (if st < a then [((st, some (a - 1)) : Row)] else []) d ∨ Ins (gp (j + 1) t) d := by
          constructor
          · rintro ⟨r, hr, z⟩
            exact (List.mem_append.mp hr).imp (fun h => ⟨r, h, z⟩) fun h => ⟨r, h, z⟩
          · rintro (⟨r, hr, z⟩ | ⟨r, hr, z⟩)
            · exact ⟨r, List.mem_append_left _ hr, z⟩
            · exact ⟨r, List.mem_append_right _ hr, z⟩
        rw [app, hin, g2, ins_cons]
        constructor
        · rintro (⟨h1, h2⟩ | ⟨h1, h2⟩)
          · refine ⟨h1, fun z => ?_⟩
            rcases z with z | ⟨v, hv, z⟩
            · have : a ≤ d := z.1
              omega
            · have h3 := tg v hv
              have h4 := z.1
              omega
          · refine ⟨by omega, fun z => z.elim (fun y => ?_) h2⟩
            have := y.2 j rfl
            omega
        · rintro ⟨h1, h2⟩
          by_cases h : d < a
          · exact .inl ⟨h1, h⟩
          · refine .inr ⟨?_, fun z => h2 (.inr z)⟩
            by_cases h3 : d ≤ j
            · exact absurd (.inl ⟨by show a ≤ d; omega, fun k ek => by cases ek; exact h3⟩) h2
            · omega
      · rcases List.mem_append.mp hr with hr | hr
        · obtain ⟨rfl, _⟩ := head r hr
          exact Int.le_refl _
        · have := g3 r hr
          omega
/-! ### a walk over marks, whatever is wanted -/
theorem chg {rs : List Row} {d : Int} (ne : insB rs d ≠ insB rs (d - 1)) : (∃ r ∈ rs, r.1 = d) ∨ ∃ r ∈ rs, ∃ j, r.2 = some j ∧ j + 1 = d := by
  have h : (insB rs d = true ∧ insB rs (d - 1) = false) ∨ (insB rs d = false ∧ insB rs (d - 1) = true) := by
    cases h1 : insB rs d <;> cases h2 : insB rs (d - 1)
    · exact absurd (h1.trans h2.symm) ne
    · exact .inr ⟨rfl, rfl⟩
    · exact .inl ⟨rfl, rfl⟩
    · exact absurd (h1.trans h2.symm) ne
  have no : ∀ {r : Row} {e : Int}, r ∈ rs → insB rs e = false → ¬ In r e := fun {r e} hr h z => by
    have := insB_iff.mpr ⟨r, hr, z⟩
    rw [h] at this
    cases this
  rcases h with ⟨h1, h2⟩ | ⟨h1, h2⟩
  · obtain ⟨r, hr, hi⟩ := insB_iff.mp h1
    refine .inl ⟨r, hr, ?_⟩
    by_cases e : r.1 = d
    · exact e
    · exact absurd (show In r (d - 1) from ⟨by have := hi.1; omega, fun j ej => by have := hi.2 j ej; omega⟩) (no hr h2)
  · obtain ⟨r, hr, hi⟩ := insB_iff.mp h2
    cases hx : r.2 with
    | none => exact absurd (show In r d from ⟨by have := hi.1; omega, fun j ej => by rw [hx] at ej; cases ej⟩) (no hr h1)
    | some j =>
      have hj := hi.2 j hx
      refine .inr ⟨r, hr, j, hx, ?_⟩
      by_cases e : j + 1 = d
      · exact e
      · exact absurd (show In r d from ⟨by have := hi.1; omega, fun k ek => by rw [hx] at ek; cases ek; omega⟩) (no hr h1)
theorem ins_neg {rs : List Row} (ok : ∀ r ∈ rs, Ok r) {d : Int} (hd : d < 0) : insB rs d = false := by
  cases h : insB rs d with
  | false => rfl
  | true =>
    obtain ⟨r, hr, hi⟩ := insB_iff.mp h
    have := (ok r hr).1
    have := hi.1
    omega
/-- the walk finds w's days, told in one way -/
theorem walk_ok {w : Int → Bool} {ms : List Int} (neg : ∀ d, d < 0 → w d = false) (pw : ms.Pairwise (· < ·)) (m0 : ∀ n ∈ ms, 0 ≤ n) (ch : ∀ d, w d ≠ w (d - 1) → d ∈ ms) :
    Can (ms.foldl (stepD w) []) ∧ ∀ d, Ins (ms.foldl (stepD w) []) d ↔ w d = true := by
  have t0 : Till w [] (-1) := ⟨trivial, fun d hd => by rw [neg d (by omega)]; exact ⟨fun z => absurd z not_nil, nofun⟩, fun d _ => by rw [neg (-1) (by omega)]; exact ⟨fun z => absurd z not_nil, nofun⟩, nofun⟩
  exact foldD_ok ms [] (-1) t0 pw (fun n hn => ⟨by have := m0 n hn; omega, m0 n hn⟩) fun d _ h => ch d h
end LD

set_option Elab.async false
set_option linter.all false
set_option maxRecDepth 100000
namespace K14
open PySem PySem.Spec PyProof.Rows L2 LT
def topS (i : Nat) : Stmt := PySem.Challenge.pw_lightturns_k14_either_both_only.main.body.getD i (.Pass ⟨0, 0, 0, 0⟩)
abbrev sTold : Stmt := topS 32
abbrev sWanted : Stmt := topS 33
abbrev sShown : Stmt := topS 35
abbrev sWhole : Stmt := topS 6
abbrev sFrom : Stmt := topS 7
abbrev sDay : Stmt := topS 8
abbrev sCls : Stmt := topS 10
abbrev sCell : Stmt := topS 22
abbrev sPot : Stmt := topS 23
abbrev sTake : Stmt := topS 24
abbrev sFar : Stmt := topS 25
abbrev sRows : Stmt := topS 26
abbrev sHanded : Stmt := topS 27
abbrev sIn : Stmt := topS 28
abbrev sMarks : Stmt := topS 29
abbrev sDue : Stmt := topS 30
abbrev sRead : Stmt := topS 31
abbrev sLaw : Stmt := topS 36
abbrev sChk : Stmt := topS 14
abbrev sMerged : Stmt := topS 15
abbrev sMeets : Stmt := topS 16
abbrev sLater : Stmt := topS 20
abbrev sEither : Stmt := topS 11
abbrev sBoth : Stmt := topS 12
abbrev sOnly : Stmt := topS 13
abbrev sOver : Stmt := topS 17
abbrev sGaps : Stmt := topS 18
abbrev sEarly : Stmt := topS 19
abbrev sRightL : Stmt := topS 34
abbrev sInit : Stmt := inClass sCls 0
abbrev sFirst : Stmt := inClass sCls 1
abbrev sLast : Stmt := inClass sCls 2
structure Tx (mg : Str → Option Value) : Prop where
  isi : mg "isinstance" = none
  int : mg "int" = none
  bool : mg "bool" = none
  len : mg "len" = none
  abs : mg "abs" = none
  max : mg "max" = none
  min : mg "min" = none
  divmod : mg "divmod" = none
  range : mg "range" = none
  repr : mg "repr" = none
  tuple : mg "tuple" = none
  list : mg "list" = none
  sorted : mg "sorted" = none
  set : mg "set" = none
  any : mg "any" = none
  all : mg "all" = none
  sum : mg "sum" = none
/-- a def that stands as a name of the module -/
structure Has (K : PySem.W.Frag) (mg : Str → Option Value) (x : Str) (ps : List Str) (st : Stmt) (f : Addr) (fd : FuncData) : Prop where
  fn : Fun K x x st f fd
  bd : L2.Binds K fd ps []
  gl : mg x = some (.ref f)
/-- a method of the class at C -/
structure Mth (K : PySem.W.Frag) (C : Addr) (m q : Str) (ps : List Str) (st : Stmt) (f : Addr) (fd : FuncData) : Prop where
  fn : Fun K m q st f fd
  bd : L2.Binds K fd ps []
  me : Meth K C m f
/-- what is handed in -/
inductive Odd (H : Hp) : V → Prop
  | non : Odd H .non
  | bl (b : Bool) : Odd H (.bl b)
  | int (i : Int) : Odd H (.int i)
  | str (z : Str) : Odd H (.str z)
  | lst {a : Addr} {xs : List V} : H a = some (.lst xs) → Odd H (.ref a)
  | tup {a : Addr} {xs : List V} : H a = some (.tup xs) → Odd H (.ref a)
  | dK {a : Addr} {kvs : List (Key × V)} : H a = some (.dK kvs) → Odd H (.ref a)
theorem Odd.mono {H H' : Hp} (s : Same H H') {v : V} (h : Odd H v) : Odd H' v := by
  cases h with
  | non => exact .non
  | bl b => exact .bl b
  | int i => exact .int i
  | str z => exact .str z
  | lst e => exact .lst (s _ _ e)
  | tup e => exact .tup (s _ _ e)
  | dK e => exact .dK (s _ _ e)
def isInt : V → Bool
  | .int _ => true
  | .bl _ => true
  | _ => false
def isBl : V → Bool
  | .bl _ => true
  | _ => false
theorem Odd.ty {K : PySem.W.Frag} {H : Hp} {v : V} (h : Odd H v) : ∃ t, TyX K H v t ∧ PySem.W.kitOne K t (.type "int") = some (isInt v) ∧ PySem.W.kitOne K t (.type "bool") = some (isBl v) := by
  cases h with
  | non => exact ⟨_, .base .non, kit_ty (show kitB "NoneType" "int" = some false by decide +kernel), kit_ty (show kitB "NoneType" "bool" = some false by decide +kernel)⟩
  | bl b => exact ⟨_, .base (.bl b), kit_ty (show kitB "bool" "int" = some true by decide +kernel), kit_ty (show kitB "bool" "bool" = some true by decide +kernel)⟩
  | int i => exact ⟨_, .base (.int i), kit_ty (show kitB "int" "int" = some true by decide +kernel), kit_ty (show kitB "int" "bool" = some false by decide +kernel)⟩
  | str z => exact ⟨_, .base (.str z), kit_ty (show kitB "str" "int" = some false by decide +kernel), kit_ty (show kitB "str" "bool" = some false by decide +kernel)⟩
  | lst e => exact ⟨_, .base (.lst e), kit_ty (show kitB "list" "int" = some false by decide +kernel), kit_ty (show kitB "list" "bool" = some false by decide +kernel)⟩
  | tup e => exact ⟨_, .base (.tup e), kit_ty (show kitB "tuple" "int" = some false by decide +kernel), kit_ty (show kitB "tuple" "bool" = some false by decide +kernel)⟩
  | dK e => exact ⟨_, .base (.dK e), kit_ty (show kitB "dict" "int" = some false by decide +kernel), kit_ty (show kitB "dict" "bool" = some false by decide +kernel)⟩
def wholeB : V → Bool
  | .int _ => true
  | _ => false
def dayB : V → Bool
  | .int i => decide (0 ≤ i)
  | _ => false
theorem whole_eq (v : V) : (isInt v && !isBl v) = wholeB v := by cases v <;> rfl
def rightB : V → V → Bool
  | .int i, .non => decide (0 ≤ i)
  | .int i, .int j => decide (0 ≤ i) && decide (0 ≤ j) && decide (i ≤ j)
  | _, _ => false
section
variable {P : Program} {w : World} {K : PySem.W.Frag} {mg : Str → Option Value} {base : Heap}
theorem scWhole : FnScope ["thing"] ["thing"] (defScope sWhole) := ⟨rfl, rfl, rfl, by decide +kernel, rfl, by decide +kernel, by decide +kernel⟩
theorem scDay : FnScope ["thing"] ["thing"] (defScope sDay) := ⟨rfl, rfl, rfl, by decide +kernel, rfl, by decide +kernel, by decide +kernel⟩
theorem scInit : FnScope ["self", "first", "last"] ["self", "first", "last"] (defScope sInit) := ⟨rfl, rfl, rfl, by decide +kernel, rfl, by decide +kernel, by decide +kernel⟩
def spWhole : Sp := fun vs H Q _ => ∃ v, vs = [v] ∧ Odd H v ∧ Q (.bl (wholeB v)) H
def spDay : Sp := fun vs H Q _ => ∃ v, vs = [v] ∧ Odd H v ∧ Q (.bl (dayB v)) H
theorem ok_whole {f : Addr} {fd : FuncData} {k : Nat} (F : Fun K "is_whole" "is_whole" sWhole f fd) (T : Tx mg) : FnOk P w K mg base CX0 (k + 1) f fd ["thing"] spWhole := by
  refine F.ok scWhole (fun vs H Q E h => ?_) (fun cdv A outer s H vs Q E hr h => ?_)
  · obtain ⟨v, rfl, _⟩ := h
    rfl
  · obtain ⟨v, rfl, hv, q⟩ := h
    refine ⟨_, pss_one (ps_ret (pe_and (pe_callB call_isi (by rfl) T.isi (by decide +kernel) (pa_cons (pv 0) (pa_cons (pe_bltn (v := .ty "int") (by rfl) T.int (by decide +kernel) rfl) pa_nil)))
      (pe_one (pe_not (pe_callB call_isi (by rfl) T.isi (by decide +kernel) (pa_cons (pv 0) (pa_cons (pe_bltn (v := .ty "bool") (by rfl) T.bool (by decide +kernel) rfl) pa_nil))))))), ?_⟩
    obtain ⟨t, ty, k1, k2⟩ := hv.ty (K := K)
    refine ⟨_, rfl, v, .ty "int", t, _, isInt v, rfl, .ty _, ty, k1, _, rfl, ?_⟩
    rw [← whole_eq v] at q
    cases hb : isInt v with
    | false =>
      rw [hb] at q
      exact q
    | true =>
      rw [hb] at q
      exact ⟨_, rfl, v, .ty "bool", t, _, isBl v, rfl, .ty _, ty, k2, _, rfl, q⟩
theorem scFrom : FnScope ["thing", "least"] ["thing", "least"] (defScope sFrom) := ⟨rfl, rfl, rfl, by decide +kernel, rfl, by decide +kernel, by decide +kernel⟩
def spFrom : Sp := fun vs H Q _ => ∃ v, vs = [v, .int 0] ∧ Odd H v ∧ Q (.bl (dayB v)) H
theorem ok_from {f fW : Addr} {fd fdW : FuncData} {k : Nat} (F : Fun K "is_from" "is_from" sFrom f fd) (T : Tx mg) (FW : Has K mg "is_whole" ["thing"] sWhole fW fdW) : FnOk P w K mg base CX0 (k + 2) f fd ["thing", "least"] spFrom := by
  have GW : FnOk P w K mg base CX0 (k + 1) fW fdW ["thing"] spWhole := ok_whole FW.fn T
  refine F.ok scFrom (fun vs H Q E h => ?_) (fun cdv A outer s H vs Q E hr h => ?_)
  · obtain ⟨v, rfl, _⟩ := h
    rfl
  · obtain ⟨v, rfl, hv, q⟩ := h
    refine ⟨_, pss_one (ps_ret (pe_and (pe_call GW hr (by rfl) FW.gl FW.fn.kp FW.bd .nil pass0 (pa_cons (pv 0) pa_nil)) (pe_one (pe_cmpR op_ge (pv 0) (pv 1) (nomark _))))), ?_⟩
    refine ⟨_, rfl, v, rfl, hv, _, rfl, ?_⟩
    cases hv with
    | int i => exact ⟨_, rfl, _, rfl, i, 0, rfl, rfl, q⟩
    | _ => exact q
/-- is_whole, and is_from that goes by it -/
structure HasW (K : PySem.W.Frag) (mg : Str → Option Value) (fW : Addr) (fdW : FuncData) : Prop where
  w : Has K mg "is_whole" ["thing"] sWhole fW fdW
  f : ∃ g gd, Has K mg "is_from" ["thing", "least"] sFrom g gd
theorem ok_day {f fW : Addr} {fd fdW : FuncData} {k : Nat} (F : Fun K "is_day" "is_day" sDay f fd) (T : Tx mg) (FW : HasW K mg fW fdW) : FnOk P w K mg base CX0 (k + 3) f fd ["thing"] spDay := by
  obtain ⟨FW, fF, fdF, FF⟩ := FW
  have GF : FnOk P w K mg base CX0 (k + 2) fF fdF ["thing", "least"] spFrom := ok_from FF.fn T FW
  refine F.ok scDay (fun vs H Q E h => ?_) (fun cdv A outer s H vs Q E hr h => ?_)
  · obtain ⟨v, rfl, _⟩ := h
    rfl
  · obtain ⟨v, rfl, hv, q⟩ := h
    refine ⟨_, pss_one (ps_ret (pe_call GF hr (by rfl) FF.gl FF.fn.kp FF.bd .nil pass0 (pa_cons (pv 0) (pa_cons pe_int pa_nil)))), ?_⟩
    exact ⟨_, rfl, v, rfl, hv, q⟩
/-! ### the class -/
structure Ct (K : PySem.W.Frag) (mg : Str → Option Value) (C CN : Addr) : Prop where
  cl : Cls K C
  nF : PySem.W.findIn K (.ref C) "first_day" = some none
  nL : PySem.W.findIn K (.ref C) "last_day" = some none
  mgC : mg "Stretch" = some (.ref C)
  kC : PySem.W.keepIn K (.ref C) = true
  ha : PySem.W.findIn K (.ref C) "__class__" = some (some (.builtin "object.__class__"))
  hn : PySem.W.specialIn K (.builtin "object.__class__") "__get__" = some (some (.builtin "getset_descriptor.__get__"))
  ht : PySem.W.takesIn K (.builtin "object.__class__") = some true
  hm : PySem.W.mroIn K C (.type "object") = some true
  gN : mg "NoDay" = some (.ref CN)
  xN : PySem.W.excIn K CN [.type "ValueError", .type "Exception", .type "BaseException", .type "object"] "ValueError.__new__" = true
  kN : PySem.W.keepIn K (.ref CN) = true
  bN : PySem.W.subIn K (.ref CN) (.type "BaseException") = some true
  tN : PySem.W.typeIn K (.ref CN) = some (.type "type")
def sf (fv lv : V) : List (Str × V) := [("first_day", fv), ("last_day", lv)]
def spInit (C CN : Addr) : Sp := fun vs H Q E => ∃ x dx fv lv, vs = [.ref x, fv, lv] ∧ H x = some (.ins C dx []) ∧ Odd H fv ∧ Odd H lv ∧
  (rightB fv lv = true → Q .non (upd H x (.ins C dx (sf fv lv)))) ∧ (rightB fv lv = false → E (.ref CN) none H)
theorem ok_init {f fD fW C CN : Addr} {fd fdD fdW : FuncData} {k : Nat} (F : FunD K "__init__" "Stretch.__init__" (defArgs sInit) (defBody sInit) (defScope sInit) [.non] [] f fd) (T : Tx mg) (Z : Ct K mg C CN)
    (FD : Has K mg "is_day" ["thing"] sDay fD fdD) (FW : HasW K mg fW fdW) : FnOk P w K mg base (L2.CX P w) (k + 4) f fd ["self", "first", "last"] (spInit C CN) := by
  have GD : FnOk P w K mg base CX0 (k + 3) fD fdD ["thing"] spDay := ok_day FD.fn T FW
  refine F.ok scInit (fun vs H Q E h => ?_) (fun cdv A outer s H vs Q E hr h => ?_)
  · obtain ⟨x, dx, fv, lv, rfl, _⟩ := h
    rfl
  · obtain ⟨x, dx, fv, lv, rfl, hx, of, ol, q1, q2⟩ := h
    refine ⟨_, pss_cons (ps_if (pt_not (pt_val (pe_call GD hr (by rfl) FD.gl FD.fn.kp FD.bd .nil pass0 (pa_cons (pv 1) pa_nil))))
        (pss_one (ps_raise rfl (takes_of rfl rfl rfl rfl) (pmk_own PySem.F.excBase_ValueError Z.xN Z.gN Z.kN (raises_own Z.bN Z.tN) (by rfl)))) pss_nil)
      (pss_cons (ps_if (PW.pt (pw_and (pt_cmpR op_notN (pv 2) pe_non (nomark _)) (pw_and1 (pt_not (pt_val (pe_call GD hr (by rfl) FD.gl FD.fn.kp FD.bd .nil pass0 (pa_cons (pv 2) pa_nil)))))))
        (pss_one (ps_raise rfl (takes_of rfl rfl rfl rfl) (pmk_own PySem.F.excBase_ValueError Z.xN Z.gN Z.kN (raises_own Z.bN Z.tN) (by rfl)))) pss_nil)
      (pss_cons (ps_if (PW.pt (pw_and (pt_cmpR op_notN (pv 2) pe_non (nomark _)) (pw_and1 (pt_cmpR op_lt (pv 2) (pv 1) (nomark _)))))
        (pss_one (ps_raise rfl (takes_of rfl rfl rfl rfl) (pmk_own PySem.F.excBase_ValueError Z.xN Z.gN Z.kN (raises_own Z.bN Z.tN) (by rfl)))) pss_nil)
      (pss_cons (ps_fld (pv 0) (pv 1) rfl) (pss_one (ps_fld (pv 0) (pv 2) rfl))))), ?_⟩
    refine ⟨_, rfl, fv, rfl, of, _, rfl, ?_⟩
    have key : ∀ i : Int, 0 ≤ i → dayB (.int i) = true := fun i h => decide_eq_true h
    by_cases hd : dayB fv = true
    · obtain ⟨i, rfl, hi⟩ : ∃ i, fv = .int i ∧ 0 ≤ i := by
        cases fv <;> first | exact ⟨_, rfl, of_decide_eq_true hd⟩ | cases hd
      rw [key i hi]
      have put : ∀ lv, putF ("last_day" : Str) lv (putF ("first_day" : Str) (.int i) []) = sf (.int i) lv := fun lv => rfl
      have stores : ∀ lv, (rightB (.int i) lv = true → Q .non (upd H x (.ins C dx (sf (.int i) lv)))) → rightB (.int i) lv = true →
          Q .non (upd (upd H x (.ins C dx (putF ("first_day" : Str) (.int i) []))) x (.ins C dx (putF ("last_day" : Str) lv (putF ("first_day" : Str) (.int i) [])))) := fun lv h r => by
        rw [upd_upd, put]
        exact h r
      by_cases hl : lv = .non
      · subst hl
        refine ⟨_, rfl, rfl, _, rfl, ?_⟩
        refine ⟨_, rfl, rfl, _, rfl, ?_⟩
        refine ⟨_, rfl, _, rfl, x, C, dx, _, rfl, hx, Z.cl, Z.nF, (by decide), ?_⟩
        refine ⟨_, rfl, _, rfl, x, C, dx, _, rfl, upd_same, Z.cl, Z.nL, (by show 1 < 1000; decide), ?_⟩
        exact stores _ q1 (decide_eq_true hi)
      · have e1 : (!decide (lv = .non)) = true := by rw [decide_eq_false hl]; rfl
        refine ⟨_, rfl, rfl, _, rfl, ?_⟩
        rw [e1]
        refine ⟨_, rfl, lv, rfl, ol, _, rfl, ?_⟩
        by_cases hd2 : dayB lv = true
        · obtain ⟨j, rfl, hj⟩ : ∃ j, lv = .int j ∧ 0 ≤ j := by
            cases lv <;> first | exact ⟨_, rfl, of_decide_eq_true hd2⟩ | cases hd2
          rw [key j hj]
          refine ⟨_, rfl, rfl, _, rfl, ?_⟩
          rw [e1]
          refine ⟨_, rfl, _, rfl, j, i, rfl, rfl, _, rfl, ?_⟩
          by_cases hlt : j < i
          · rw [decide_eq_true hlt]
            refine q2 ?_
            show (decide (0 ≤ i) && decide (0 ≤ j) && decide (i ≤ j)) = false
            rw [decide_eq_false (show ¬ i ≤ j by omega), Bool.and_false]
          · rw [decide_eq_false hlt]
            refine ⟨_, rfl, _, rfl, x, C, dx, _, rfl, hx, Z.cl, Z.nF, (by decide), ?_⟩
            refine ⟨_, rfl, _, rfl, x, C, dx, _, rfl, upd_same, Z.cl, Z.nL, (by show 1 < 1000; decide), ?_⟩
            refine stores _ q1 ?_
            show (decide (0 ≤ i) && decide (0 ≤ j) && decide (i ≤ j)) = true
            rw [decide_eq_true hi, decide_eq_true hj, decide_eq_true (show i ≤ j by omega)]
            rfl
        · have e2 : dayB lv = false := by cases h : dayB lv <;> first | rfl | exact absurd h hd2
          rw [e2]
          refine q2 ?_
          cases lv with
          | non => exact absurd rfl hl
          | int j =>
            show (decide (0 ≤ i) && decide (0 ≤ j) && decide (i ≤ j)) = false
            have e3 : decide (0 ≤ j) = false := e2
            rw [e3, Bool.and_false, Bool.false_and]
          | _ => rfl
    · have e2 : dayB fv = false := by cases h : dayB fv <;> first | rfl | exact absurd h hd
      rw [e2]
      refine q2 ?_
      cases fv with
      | int i =>
        have e3 : decide (0 ≤ i) = false := e2
        cases lv with
        | non => exact e3
        | int j =>
          show (decide (0 ≤ i) && decide (0 ≤ j) && decide (i ≤ j)) = false
          rw [e3, Bool.false_and, Bool.false_and]
        | _ => rfl
      | _ => cases lv <;> rfl
end
theorem scFirst : FnScope ["self"] ["self"] (defScope sFirst) := ⟨rfl, rfl, rfl, by decide +kernel, rfl, by decide +kernel, by decide +kernel⟩
theorem scLast : FnScope ["self"] ["self"] (defScope sLast) := ⟨rfl, rfl, rfl, by decide +kernel, rfl, by decide +kernel, by decide +kernel⟩
/-- an end of a stretch -/
def EndV (v : V) : Prop := v = .non ∨ ∃ j : Int, v = .int j ∧ j.natAbs.log2 < 1920
/-- a stretch stands at x -/
structure St (C : Addr) (H : Hp) (x : Addr) (i : Int) (lv : V) : Prop where
  at_ : ∃ dx, H x = some (.ins C dx (sf (.int i) lv))
  lg : i.natAbs.log2 < 1920
  en : EndV lv
theorem St.mono {C : Addr} {H H' : Hp} {x : Addr} {i : Int} {lv : V} (s : St C H x i lv) (e : Same H H') : St C H' x i lv := by
  obtain ⟨⟨dx, h⟩, l, n⟩ := s
  exact ⟨⟨dx, e _ _ h⟩, l, n⟩
theorem sf_first (a b : V) : (sf a b).lookup ("first_day" : Str) = some a := by
  unfold sf
  rfl
theorem sf_last (a b : V) : (sf a b).lookup ("last_day" : Str) = some b := by
  unfold sf
  rfl
section
variable {P : Program} {w : World} {K : PySem.W.Frag} {mg : Str → Option Value} {base : Heap} {C CN : Addr}
def spGet (C : Addr) (g : V → V → V) : Sp := fun vs H Q _ => ∃ x i lv, vs = [.ref x] ∧ St C H x i lv ∧ Q (g (.int i) lv) H
theorem ok_first {f : Addr} {fd : FuncData} {k : Nat} (F : Fun K "first" "Stretch.first" sFirst f fd) (Z : Ct K mg C CN) : FnOk P w K mg base CX0 (k + 1) f fd ["self"] (spGet C fun a _ => a) := by
  refine F.ok scFirst (fun vs H Q E h => ?_) (fun cdv A outer s H vs Q E hr h => ?_)
  · obtain ⟨x, i, lv, rfl, _⟩ := h
    rfl
  · obtain ⟨x, i, lv, rfl, ⟨⟨dx, hx⟩, _, _⟩, q⟩ := h
    exact ⟨_, pss_one (ps_ret (pe_fld (pv 0) rfl)), _, rfl, x, C, dx, _, _, rfl, hx, Z.cl, Z.nF, sf_first _ _, q⟩
theorem ok_last {f : Addr} {fd : FuncData} {k : Nat} (F : Fun K "last" "Stretch.last" sLast f fd) (Z : Ct K mg C CN) : FnOk P w K mg base CX0 (k + 1) f fd ["self"] (spGet C fun _ b => b) := by
  refine F.ok scLast (fun vs H Q E h => ?_) (fun cdv A outer s H vs Q E hr h => ?_)
  · obtain ⟨x, i, lv, rfl, _⟩ := h
    rfl
  · obtain ⟨x, i, lv, rfl, ⟨⟨dx, hx⟩, _, _⟩, q⟩ := h
    exact ⟨_, pss_one (ps_ret (pe_fld (pv 0) rfl)), _, rfl, x, C, dx, _, _, rfl, hx, Z.cl, Z.nL, sf_last _ _, q⟩
end
theorem same_upd {H : Hp} {p : Addr} {o : HO} (h : H p = none) : Same H (upd H p o) := fun b x e => by
  rw [upd_ne (ne_of_none e h)]
  exact e
theorem same_app {H H1 : Hp} {p : Addr} {o : HO} (h : H p = none) (s : Same H H1) : Same H (upd H1 p o) := fun b x e => by
  rw [upd_ne (ne_of_none e h)]
  exact s _ _ e
theorem scCell : FnScope ["_law_script", "_law_k"] ["_law_script", "_law_k"] (defScope sCell) := ⟨rfl, rfl, rfl, by decide +kernel, rfl, by decide +kernel, by decide +kernel⟩
theorem scPot : FnScope ["_law_script", "_law_k", "_law_cell_here"] ["_law_script", "_law_k"] (defScope sPot) := ⟨rfl, rfl, rfl, by decide +kernel, rfl, by decide +kernel, by decide +kernel⟩
theorem scTake : FnScope ["_law_pot_here", "_law_room", "_law_digit"] ["_law_pot_here", "_law_room"] (defScope sTake) := ⟨rfl, rfl, rfl, by decide +kernel, rfl, by decide +kernel, by decide +kernel⟩
section
variable {P : Program} {w : World} {K : PySem.W.Frag} {mg : Str → Option Value} {base : Heap}
/-- a cell of the script -/
def spCell (K : PySem.W.Frag) : Sp := fun vs H Q _ => ∃ (a : Addr) (ns : List Int) (k : Nat), vs = [.ref a, .int (k : Nat)] ∧ SqL K H a (ns.map V.int) ∧
  ∀ z : Int, (z = 0 ∨ z ∈ ns) → Q (.int z) H
theorem ok_cell {f : Addr} {fd : FuncData} {k : Nat} (F : Fun K "_law_cell" "_law_cell" sCell f fd) (T : Tx mg) : FnOk P w K mg base CX0 (k + 1) f fd ["_law_script", "_law_k"] (spCell K) := by
  refine F.ok scCell (fun vs H Q E h => ?_) (fun cdv A outer s H vs Q E hr h => ?_)
  · obtain ⟨a, ns, k, rfl, _⟩ := h
    rfl
  · obtain ⟨a, ns, k, rfl, hS, q⟩ := h
    refine ⟨_, pss_one (ps_ret (pe_ifExp (pt_cmpR op_lt (pv 1) (pe_callB call_len_seq (by rfl) T.len PySem.boot_len (pa_cons (pv 0) pa_nil)) (nomark _))
      (pe_ix ix_list (pv 0) (pv 1) (fun _ _ => rfl)) pe_int)), ?_⟩
    refine ⟨_, rfl, _, rfl, a, _, rfl, .inl hS, _, _, rfl, rfl, _, rfl, ?_⟩
    by_cases hk : k < ns.length
    · rw [decide_eq_true (show ((k : Nat) : Int) < ((ns.map V.int).length : Nat) by rw [List.length_map]; omega)]
      refine iteT ?_
      refine ⟨_, rfl, _, rfl, a, _, _, .int ns[k], rfl, rfl, hS, atI_nat (by rw [List.getElem?_map, List.getElem?_eq_getElem hk]; rfl), ?_⟩
      exact q _ (.inr (List.getElem_mem hk))
    · rw [decide_eq_false (show ¬ ((k : Nat) : Int) < ((ns.map V.int).length : Nat) by rw [List.length_map]; omega)]
      exact iteF (q 0 (.inl rfl))
/-- a pot: two numbers -/
def Pot (H : Hp) (p : Addr) : Prop := ∃ a b : Int, H p = some (.lst [.int a, .int b]) ∧ 0 ≤ a ∧ 0 ≤ b ∧ b < 2147483647
def spPot (K : PySem.W.Frag) : Sp := fun vs H Q _ => ∃ (a : Addr) (ns : List Int) (k : Nat), vs = [.ref a, .int (k : Nat)] ∧ SqL K H a (ns.map V.int) ∧ k ≤ 1000 ∧
  ∀ p H', H p = none → Same H H' → Pot H' p → Q (.ref p) H'
theorem ok_pot {f fC : Addr} {fd fdC : FuncData} {k : Nat} (F : Fun K "_law_pot" "_law_pot" sPot f fd) (T : Tx mg) (FC : Fun K "_law_cell" "_law_cell" sCell fC fdC) (bC : L2.Binds K fdC ["_law_script", "_law_k"] []) (gC : mg "_law_cell" = some (.ref fC)) :
    FnOk P w K mg base CX0 (k + 2) f fd ["_law_script", "_law_k"] (spPot K) := by
  have GC : FnOk P w K mg base CX0 (k + 1) fC fdC ["_law_script", "_law_k"] (spCell K) := ok_cell FC T
  refine F.ok scPot (fun vs H Q E h => ?_) (fun cdv A outer s H vs Q E hr h => ?_)
  · obtain ⟨a, ns, k, rfl, _⟩ := h
    rfl
  · obtain ⟨a, ns, k, rfl, hS, hk, q⟩ := h
    refine ⟨_, pss_cons (ps_set (i := 2) scPot.nd rfl (.inl rfl) (pe_callB call_abs (by rfl) T.abs (by decide +kernel) (pa_cons (pe_call GC hr (by rfl) gC FC.kp bC .nil pass0 (pa_cons (pv 0) (pa_cons (pv 1) pa_nil))) pa_nil)))
      (pss_one (ps_ret (pe_lst (pa_cons (pe_callB (call_max2 rfl) (by rfl) T.max (by decide +kernel) (pa_cons pe_int (pa_cons (pe_op op_sub (pv 2) (pe_op op_pow pe_int pe_int)) pa_nil)))
        (pa_cons (pe_op op_mod (pe_op op_add (pe_op op_add (pe_op op_add (pe_op op_mul (pe_op op_mod (pv 2) pe_int) pe_int) (pe_op op_mul (pe_op op_mul pe_int (pv 1)) (pv 1))) (pe_op op_mul pe_int (pv 1))) pe_int) pe_int) pa_nil))))), ?_⟩
    refine ⟨_, rfl, _, rfl, a, ns, k, rfl, hS, fun z hz => ?_⟩
    refine ⟨z, rfl, ?_⟩
    have hk0 : (0 : Int) ≤ (k : Nat) := Int.natCast_nonneg k
    have hk1 : ((k : Nat) : Int) ≤ 1000 := by omega
    have hm := Int.emod_nonneg (if z < 0 then -z else z) (show (2147483563 : Int) ≠ 0 by decide)
    have hm2 := Int.emod_lt_of_pos (if z < 0 then -z else z) (show (0 : Int) < 2147483563 by decide)
    refine ⟨_, rfl, _, _, rfl, rfl, ⟨by decide, by decide, by decide⟩, _, _, rfl, rfl, 0, _, rfl, ?_⟩
    refine ⟨_, rfl, _, _, rfl, rfl, by show (0 : Int) < 2147483563; decide, _, _, rfl, rfl, .inl ⟨by omega, by omega⟩, ?_⟩
    refine ⟨_, rfl, _, _, rfl, rfl, .inl ⟨by decide, by decide⟩, _, rfl, _, _, rfl, rfl, .inr ⟨by omega, by omega⟩, _, _, rfl, rfl, ?_⟩
    refine ⟨_, rfl, _, _, rfl, rfl, .inl ⟨by decide, by decide⟩, _, _, rfl, rfl, _, _, rfl, rfl, _, _, rfl, rfl, by show (0 : Int) < 2147483563; decide, ?_⟩
    refine ⟨by show 2 ≤ sizeLine; decide, fun l nl => q l _ nl (same_upd nl) ⟨_, _, upd_same, ?_, Int.emod_nonneg _ (by decide), Int.lt_trans (Int.emod_lt_of_pos _ (by decide)) (by decide)⟩⟩
    split <;> omega
/-- all but what stands at p is as it was -/
def SameB (p : Addr) (H H' : Hp) : Prop := ∀ b o, b ≠ p → H b = some o → H' b = some o
theorem SameB.trans {p : Addr} {H H1 H2 : Hp} (a : SameB p H H1) (b : SameB p H1 H2) : SameB p H H2 := fun c o n h => b c o n (a c o n h)
theorem SameB.of {p : Addr} {H H' : Hp} (s : Same H H') : SameB p H H' := fun b o _ e => s b o e
theorem SameB.upd {p : Addr} {H H' : Hp} {o : HO} (s : SameB p H H') : SameB p H (upd H' p o) := fun b x n e => by
  rw [upd_ne n]
  exact s b x n e
theorem SameB.new {p q : Addr} {H H' : Hp} {o : HO} (h : H q = none) (s : SameB p H H') : SameB p H (L2.upd H' q o) := fun b x n e => by
  rw [upd_ne (ne_of_none e h)]
  exact s b x n e
/-- a draw from a pot -/
def spTake : Sp := fun vs H Q _ => ∃ (p : Addr) (r : Int), vs = [.ref p, .int r] ∧ Pot H p ∧ 0 < r ∧ r ≤ 1000000000 ∧
  ∀ (d : Int) (H' : Hp), 0 ≤ d → d < r → Pot H' p → SameB p H H' → Q (.int d) H'
theorem ok_take {f : Addr} {fd : FuncData} {k : Nat} (F : Fun K "_law_take" "_law_take" sTake f fd) (T : Tx mg) : FnOk P w K mg base CX0 (k + 1) f fd ["_law_pot_here", "_law_room"] spTake := by
  refine F.ok scTake (fun vs H Q E h => ?_) (fun cdv A outer s H vs Q E hr h => ?_)
  · obtain ⟨p, r, rfl, _⟩ := h
    rfl
  · obtain ⟨p, r, rfl, ⟨a, b, hp, a0, b0, bB⟩, r0, r1, q⟩ := h
    refine ⟨_, pss_cons (ps_if (pt_cmpR op_gt (pe_ix ix_list (pv 0) pe_int (fun _ _ => rfl)) pe_int (nomark _))
        (pss_cons (ps_asg (pe_callB call_divmodW (by rfl) T.divmod (by decide +kernel) (pa_cons (pe_ix ix_list (pv 0) pe_int (fun _ _ => rfl)) (pa_cons (pv 1) pa_nil)))
            (pg_tup rfl (pgs_cons (pg_sub (pv 0) pe_int set_list) (pgs_cons (pg_name (i := 2) scTake.nd rfl (.inl rfl)) pgs_nil))))
          (pss_one (ps_ret (pv 2)))) pss_nil)
      (pss_cons (ps_asg (pe_op op_mod (pe_op op_add (pe_op op_mul (pe_ix ix_list (pv 0) pe_int (fun _ _ => rfl)) pe_int) pe_int) pe_int) (pg_sub (pv 0) pe_int set_list))
        (pss_one (ps_ret (pe_op op_mod (pe_op op_fdiv (pe_op op_mod (pe_op op_mul (pe_ix ix_list (pv 0) pe_int (fun _ _ => rfl)) (pe_ix ix_list (pv 0) pe_int (fun _ _ => rfl))) pe_int) pe_int) (pv 1))))), ?_⟩
    refine ⟨_, rfl, p, _, 0, _, rfl, rfl, SqL.of hp, atI_nat (j := 0) rfl, _, _, rfl, rfl, _, rfl, ite2 (fun h => ?_) (fun h => ?_)⟩
    · have ha : 0 < a := of_decide_eq_true h
      refine ⟨_, rfl, p, _, 0, _, rfl, rfl, SqL.of hp, atI_nat (j := 0) rfl, _, rfl, a, r, rfl, ⟨r0, PyProof.noPylong_small (by omega)⟩, fun t nt => ?_⟩
      have npt : p ≠ t := ne_of_none hp nt
      have hp2 : (upd H t (.tup [.int (a / r), .int (a % r)])) p = some (.lst [.int a, .int b]) := by
        rw [upd_ne npt]
        exact hp
      refine ⟨t, _, rfl, SqT.of upd_same, rfl, _, _, rfl, ?_⟩
      refine ⟨_, rfl, p, _, 0, 0, rfl, rfl, hp2, rfl, _, _, rfl, rfl, ?_⟩
      refine ⟨_, rfl, q _ _ (Int.emod_nonneg _ (by omega)) (Int.emod_lt_of_pos _ r0) ⟨_, _, upd_same, Int.ediv_nonneg a0 (by omega), b0, bB⟩ (SameB.upd (SameB.new nt (SameB.of (Same.refl H))))⟩
    · refine ⟨_, rfl, p, _, 1, _, rfl, rfl, SqL.of hp, atI_nat (j := 1) rfl, _, _, rfl, rfl, .inl ⟨by omega, by omega⟩, _, _, rfl, rfl, _, _, rfl, rfl, by show (0 : Int) < 2147483647; decide, ?_⟩
      refine ⟨_, rfl, p, _, 1, 1, rfl, rfl, hp, rfl, ?_⟩
      have n0 := Int.emod_nonneg (b * 48271 + 12347) (show (2147483647 : Int) ≠ 0 by decide)
      have n1 := Int.emod_lt_of_pos (b * 48271 + 12347) (show (0 : Int) < 2147483647 by decide)
      refine ⟨_, rfl, p, _, 1, _, rfl, rfl, SqL.of upd_same, atI_nat (j := 1) rfl, _, rfl, p, _, 1, _, rfl, rfl, SqL.of upd_same, atI_nat (j := 1) rfl, _, _, rfl, rfl, .inl ⟨by omega, by omega⟩, ?_⟩
      refine ⟨_, _, rfl, rfl, by show (0 : Int) < 2147483629; decide, _, _, rfl, rfl, ⟨by decide, by decide⟩, _, rfl, _, _, rfl, rfl, r0, ?_⟩
      exact q _ _ (Int.emod_nonneg _ (by omega)) (Int.emod_lt_of_pos _ r0) ⟨_, _, upd_same, a0, n0, n1⟩ (SameB.upd (SameB.of (Same.refl H)))
end
theorem Pot.ne {H : Hp} {p q : Addr} (h : Pot H p) (n : H q = none) : q ≠ p := fun e => by
  obtain ⟨a, b, e1, _⟩ := h
  rw [← e, n] at e1
  cases e1
theorem SameB.none {p q : Addr} {H H1 : Hp} (s : SameB p H H1) (h : Pot H1 p) (n : H1 q = none) : H q = none := by
  cases e : H q with
  | none => rfl
  | some o =>
    rw [s q o (h.ne n) e] at n
    cases n
theorem Pot.upd {H : Hp} {p q : Addr} {o : HO} (h : Pot H p) (n : q ≠ p) : Pot (L2.upd H q o) p := by
  obtain ⟨a, b, e, r⟩ := h
  exact ⟨a, b, by rw [upd_ne n.symm]; exact e, r⟩
theorem Pot.mono {H H' : Hp} {p : Addr} (h : Pot H p) (s : Same H H') : Pot H' p := by
  obtain ⟨a, b, e, r⟩ := h
  exact ⟨a, b, s _ _ e, r⟩
theorem ne_of_pot {H : Hp} {p q : Addr} {o : HO} (h : Pot H p) (e : H q = some o) (n : ∀ a b : Int, o ≠ .lst [.int a, .int b] := by intros; nofun) : q ≠ p := by
  obtain ⟨a, b, ep, _⟩ := h
  exact ne_of e ep (n a b)
theorem sameB_new {p : Addr} {H H1 H2 : Hp} (n : H p = none) (s : Same H H1) (b : SameB p H1 H2) : Same H H2 := fun c o e => b c o (ne_of_none e n) (s c o e)
theorem scFar : FnScope ["_law_pot_here", "_law_number", "_law_k"] ["_law_pot_here"] (defScope sFar) := ⟨rfl, rfl, rfl, by decide +kernel, rfl, by decide +kernel, by decide +kernel⟩
section
variable {P : Program} {w : World} {K : PySem.W.Frag} {mg : Str → Option Value} {base : Heap} {C CN : Addr}
abbrev PotFn (K : PySem.W.Frag) (mg : Str → Option Value) (x : Str) (st : Stmt) (f : Addr) (fd : FuncData) : Prop := Has K mg x ["_law_pot_here"] st f fd
abbrev TakeFn (K : PySem.W.Frag) (mg : Str → Option Value) (f : Addr) (fd : FuncData) : Prop := Has K mg "_law_take" ["_law_pot_here", "_law_room"] sTake f fd
def spFar (lo hi : Int) : Sp := fun vs H Q _ => ∃ p, vs = [.ref p] ∧ Pot H p ∧ ∀ (d : Int) (H' : Hp), lo ≤ d → d ≤ hi → Pot H' p → SameB p H H' → Q (.int d) H'
theorem e8 : (10 : Int) ^ Int.toNat 8 = 100000000 := by decide
theorem ok_far {f fT : Addr} {fd fdT : FuncData} {k : Nat} (F : Fun K "_law_far" "_law_far" sFar f fd) (T : Tx mg) (FT : TakeFn K mg fT fdT) : FnOk P w K mg base CX0 (k + 2) f fd ["_law_pot_here"] (spFar 0 (10 ^ 56)) := by
  have GT : FnOk P w K mg base CX0 (k + 1) fT fdT ["_law_pot_here", "_law_room"] spTake := ok_take FT.fn T
  refine F.ok scFar (fun vs H Q E h => ?_) (fun cdv A outer s H vs Q E hr h => ?_)
  · obtain ⟨p, rfl, _⟩ := h
    rfl
  · obtain ⟨p, rfl, hp, q⟩ := h
    have nd := scFar.nd
    refine ⟨_, pss_cons (ps_set (i := 1) nd rfl (.inl rfl) pe_int)
      (pss_cons (ps_for PassesOwn.never rfl (pi_range1 (by rfl) T.range (pa_cons (pe_op op_add pe_int (pe_call GT hr (by rfl) FT.gl FT.fn.kp FT.bd .nil pass0 (pa_cons (pv 0) (pa_cons pe_int pa_nil)))) pa_nil)) (pg_name (i := 2) nd rfl (.inl rfl))
        (pss_one (ps_set (i := 1) nd rfl (.inl rfl) (pe_op op_add (pe_op op_mul (pv 1) (pe_op op_pow pe_int pe_int)) (pe_call GT hr (by rfl) FT.gl FT.fn.kp FT.bd .nil pass0 (pa_cons (pv 0) (pa_cons (pe_op op_pow pe_int pe_int) pa_nil)))))))
      (pss_one (ps_ret (pv 1)))), ?_⟩
    refine ⟨_, rfl, p, 7, rfl, hp, by decide, by decide, fun d H1 d0 d1 hp1 sm1 => ?_⟩
    refine ⟨1, d, rfl, rfl, 1 + d, rfl, by omega, by omega, for_range (lo := 0) (n := (1 + d).toNat) (fun i σ H' => ∃ (n : Int) (y : Option V), σ = [some (.ref p), some (.int n), y] ∧ 0 ≤ n ∧ n < (100000000 : Int) ^ i ∧ Pot H' p ∧ SameB p H H') ⟨0, none, rfl, by decide, by decide, hp1, sm1⟩ ?_ ?_⟩
    · rintro i σ H2 hi ⟨n, y, rfl, n0, n1, hp2, sm2⟩
      refine ⟨_, rfl, _, _, rfl, rfl, ⟨by decide, by decide, by decide⟩, _, _, rfl, rfl, .inr ⟨by decide, by decide⟩, ?_⟩
      refine ⟨_, rfl, _, _, rfl, rfl, ⟨by decide, by decide, by decide⟩, p, _, rfl, hp2, by decide, by decide, fun e H3 e0 e1 hp3 sm3 => ?_⟩
      refine ⟨_, _, rfl, rfl, _, _, rfl, ?_, ?_, hp3, sm2.trans sm3⟩
      · rw [e8] at *
        omega
      · rw [e8] at *
        rw [Int.pow_succ]
        omega
    · rintro σ H2 ⟨n, y, rfl, n0, n1, hp2, sm2⟩
      refine ⟨_, rfl, q n H2 n0 ?_ hp2 sm2⟩
      have hn : (1 + d).toNat = 1 ∨ (1 + d).toNat = 2 ∨ (1 + d).toNat = 3 ∨ (1 + d).toNat = 4 ∨ (1 + d).toNat = 5 ∨ (1 + d).toNat = 6 ∨ (1 + d).toNat = 7 := by omega
      rcases hn with h | h | h | h | h | h | h <;> (rw [h] at n1; omega)
end
end K14

set_option Elab.async false
set_option linter.all false
set_option maxRecDepth 100000
set_option maxHeartbeats 800000
namespace K14
open PySem PySem.Spec PyProof.Rows L2 LT LamX
/-! ### rows -/
abbrev Row := LD.Row
structure RB (r : Row) : Prop where
  ok : LD.Ok r
  b1 : r.1 ≤ 10 ^ 58
  b2 : ∀ j, r.2 = some j → j ≤ 10 ^ 58
/-- as drawn -/
structure RBd (r : Row) : Prop where
  ok : LD.Ok r
  b1 : r.1 ≤ 10 ^ 57
  b2 : ∀ j, r.2 = some j → j ≤ 10 ^ 57
theorem RBd.rb {r : Row} (h : RBd r) : RB r := by
  have h1 := h.b1
  refine ⟨h.ok, by omega, fun j e => ?_⟩
  have := h.b2 j e
  omega
theorem lg_of {i : Int} (h : i.natAbs ≤ 10 ^ 62) : i.natAbs.log2 < 1920 := by
  by_cases h0 : i.natAbs = 0
  · rw [h0]
    decide
  · rw [Nat.log2_lt h0]
    exact Nat.lt_of_le_of_lt h (by decide)
/-- a stretch of the days of r -/
def SR (C : Addr) (H : Hp) (v : V) (r : Row) : Prop := RB r ∧ ∃ x dx, v = .ref x ∧ H x = some (.ins C dx (sf (.int r.1) (enc r.2)))
theorem SR.st {C : Addr} {H : Hp} {v : V} {r : Row} (h : SR C H v r) : ∃ x dx, v = .ref x ∧ H x = some (.ins C dx (sf (.int r.1) (enc r.2))) ∧ St C H x r.1 (enc r.2) := by
  obtain ⟨b, x, dx, e, hx⟩ := h
  have h0 := b.ok.1
  have h1 := b.b1
  refine ⟨x, dx, e, hx, ⟨dx, hx⟩, lg_of (by omega), ?_⟩
  cases hr : r.2 with
  | none => exact .inl rfl
  | some j =>
    have h2 := b.b2 j hr
    have h3 := b.ok.2 j hr
    exact .inr ⟨j, rfl, lg_of (by omega)⟩
theorem SR.ext {C : Addr} {H H' : Hp} {v : V} {r : Row} (h : SR C H v r) (e : ExtN H H') : SR C H' v r := by
  obtain ⟨b, x, dx, ev, hx⟩ := h
  exact ⟨b, x, dx, ev, e _ _ hx nofun⟩
inductive SRs (C : Addr) (H : Hp) : List V → List Row → Prop
  | nil : SRs C H [] []
  | cons {v : V} {r : Row} {vs : List V} {rs : List Row} : SR C H v r → SRs C H vs rs → SRs C H (v :: vs) (r :: rs)
theorem SRs.ext {C : Addr} {H H' : Hp} {vs : List V} {rs : List Row} (h : SRs C H vs rs) (e : ExtN H H') : SRs C H' vs rs := by
  induction h with
  | nil => exact .nil
  | cons a _ ih => exact .cons (a.ext e) ih
theorem SRs.length {C : Addr} {H : Hp} {vs : List V} {rs : List Row} (h : SRs C H vs rs) : vs.length = rs.length := by
  induction h with
  | nil => rfl
  | cons a _ ih => rw [List.length_cons, List.length_cons, ih]
theorem SRs.append {C : Addr} {H : Hp} {vs us : List V} {rs ss : List Row} (h : SRs C H vs rs) (g : SRs C H us ss) : SRs C H (vs ++ us) (rs ++ ss) := by
  induction h with
  | nil => exact g
  | cons a _ ih => exact .cons a ih
theorem SRs.reverse {C : Addr} {H : Hp} {vs : List V} {rs : List Row} (h : SRs C H vs rs) : SRs C H vs.reverse rs.reverse := by
  induction h with
  | nil => exact .nil
  | cons a _ ih =>
    rw [List.reverse_cons, List.reverse_cons]
    exact ih.append (.cons a .nil)
theorem SRs.at {C : Addr} {H : Hp} {vs : List V} {rs : List Row} (h : SRs C H vs rs) : ∀ {i : Nat} {v : V}, vs[i]? = some v → ∃ r, rs[i]? = some r ∧ SR C H v r := by
  induction h with
  | nil => intro i v e; cases e
  | cons a _ ih =>
    intro i v e
    cases i with
    | zero => cases e; exact ⟨_, rfl, a⟩
    | succ i => exact ih e
theorem SRs.mem {C : Addr} {H : Hp} {vs : List V} {rs : List Row} (h : SRs C H vs rs) {v : V} (hv : v ∈ vs) : ∃ r ∈ rs, SR C H v r := by
  obtain ⟨i, e⟩ := List.mem_iff_getElem?.mp hv
  obtain ⟨r, er, s⟩ := h.at e
  exact ⟨r, List.mem_of_getElem? er, s⟩
theorem SRs.rb {C : Addr} {H : Hp} {vs : List V} {rs : List Row} (h : SRs C H vs rs) : ∀ r ∈ rs, RB r := by
  induction h with
  | nil => exact nofun
  | cons a _ ih =>
    intro r hr
    rcases List.mem_cons.mp hr with rfl | hr
    · exact a.1
    · exact ih r hr
/-- the row of a stretch -/
def rowOf (H : Hp) : V → Row
  | .ref x => match H x with
    | some (.ins _ _ [(_, .int i), (_, .int j)]) => (i, some j)
    | some (.ins _ _ [(_, .int i), _]) => (i, none)
    | _ => (0, none)
  | _ => (0, none)
theorem SR.row {C : Addr} {H : Hp} {v : V} {r : Row} (h : SR C H v r) : rowOf H v = r := by
  obtain ⟨_, x, dx, rfl, hx⟩ := h
  obtain ⟨a, y⟩ := r
  cases y with
  | none =>
    have hx : H x = some (.ins C dx [("first_day", .int a), ("last_day", .non)]) := hx
    unfold rowOf
    simp only [hx]
  | some j =>
    have hx : H x = some (.ins C dx [("first_day", .int a), ("last_day", .int j)]) := hx
    unfold rowOf
    simp only [hx]
theorem SRs.map {C : Addr} {H : Hp} {vs : List V} {rs : List Row} (h : SRs C H vs rs) : rs = vs.map (rowOf H) := by
  induction h with
  | nil => rfl
  | cons a _ ih => rw [List.map_cons, a.row, ← ih]
theorem SRs.of {C : Addr} {H : Hp} : ∀ {vs : List V}, (∀ v ∈ vs, SR C H v (rowOf H v)) → SRs C H vs (vs.map (rowOf H))
  | [], _ => .nil
  | v :: vs, h => .cons (h v (.head _)) (SRs.of fun u hu => h u (.tail _ hu))
/-- sorted by the first days -/
theorem SRs.sorted {C : Addr} {H : Hp} {vs : List V} {rs : List Row} (h : SRs C H vs rs) :
    ∃ ss, SRs C H (vs.mergeSort fun a b => decide ((rowOf H a).1 ≤ (rowOf H b).1)) ss ∧ (∀ r, r ∈ ss ↔ r ∈ rs) ∧ ss.Pairwise (fun a b => a.1 ≤ b.1) ∧ ss.length = rs.length := by
  have pm := List.mergeSort_perm vs fun a b => decide ((rowOf H a).1 ≤ (rowOf H b).1)
  have all : ∀ v ∈ vs.mergeSort (fun a b => decide ((rowOf H a).1 ≤ (rowOf H b).1)), SR C H v (rowOf H v) := fun v hv => by
    obtain ⟨r, _, s⟩ := h.mem (pm.mem_iff.mp hv)
    rw [s.row]
    exact s
  refine ⟨_, SRs.of all, fun r => ?_, ?_, ?_⟩
  · rw [h.map]
    exact (pm.map (rowOf H)).mem_iff
  · have sr := List.pairwise_mergeSort (le := fun a b => decide ((rowOf H a).1 ≤ (rowOf H b).1)) (fun a b c h1 h2 => by
        simp only [decide_eq_true_eq] at *
        omega) (fun a b => by
        rw [Bool.or_eq_true, decide_eq_true_eq, decide_eq_true_eq]
        omega) vs
    rw [List.pairwise_map]
    exact sr.imp fun h => of_decide_eq_true h
  · rw [List.length_map, List.length_mergeSort, h.length]
theorem same_made {H : Hp} {x dx C : Addr} {o : HO} (nx : H x = none) (nd : H dx = none) : Same H (upd (upd H dx (.own x)) x o) := fun b z e => by
  rw [upd_ne (ne_of_none e nx), upd_ne (ne_of_none e nd)]
  exact e
theorem encOdd {H : Hp} (o : Option Int) : Odd H (enc o) := by
  cases o with
  | none => exact .non
  | some j => exact .int j
theorem rb_right {r : Row} (h : LD.Ok r) : rightB (.int r.1) (enc r.2) = true := by
  cases hr : r.2 with
  | none => exact decide_eq_true h.1
  | some j =>
    have h1 := h.2 j hr
    have h0 := h.1
    show (decide (0 ≤ r.1) && decide (0 ≤ j) && decide (r.1 ≤ j)) = true
    rw [decide_eq_true h0, decide_eq_true (show 0 ≤ j by omega), decide_eq_true h1]
    rfl
/-- Stretch(i, l) where the two are a row -/
theorem mk_init {C CN : Addr} {H : Hp} {x dx : Addr} {r : Row} {Q : VK} {E : XK} (nx : H x = none) (ndx : H dx = none) (nex : dx ≠ x) (hr : RB r)
    (h : ∀ H', Same H H' → SR C H' (.ref x) r → Q .non H') : spInit C CN [.ref x, .int r.1, enc r.2] (upd (upd H dx (.own x)) x (.ins C dx [])) Q E := by
  have s1 : Same H (upd (upd H dx (.own x)) x (.ins C dx [])) := same_made (C := C) nx ndx
  refine ⟨x, dx, .int r.1, enc r.2, rfl, upd_same, .int _, encOdd _, fun _ => h _ ?_ ⟨hr, x, dx, rfl, upd_same⟩, fun z => absurd (rb_right hr.ok) (by rw [z]; exact nofun)⟩
  rw [upd_upd]
  exact same_made (C := C) nx ndx
end K14

set_option Elab.async false
set_option linter.all false
set_option maxRecDepth 100000
set_option maxHeartbeats 800000
namespace K14
open PySem PySem.Spec PyProof.Rows L2 LT LamX
theorem scMeets : FnScope ["stretch", "later"] ["stretch", "later"] (defScope sMeets) := ⟨rfl, rfl, rfl, by decide +kernel, rfl, by decide +kernel, by decide +kernel⟩
theorem scLater : FnScope ["one", "other"] ["one", "other"] (defScope sLater) := ⟨rfl, rfl, rfl, by decide +kernel, rfl, by decide +kernel, by decide +kernel⟩
theorem scChk : FnScope ["thing", "each"] ["thing"] (defScope sChk) := ⟨rfl, rfl, rfl, by decide +kernel, rfl, by decide +kernel, by decide +kernel⟩
section
variable {P : Program} {w : World} {K : PySem.W.Frag} {mg : Str → Option Value} {base : Heap} {C CN CS : Addr}
/-- what the program's defs lean on -/
structure Pr (K : PySem.W.Frag) (mg : Str → Option Value) (C CN : Addr) : Prop where
  first : ∃ f fd, Mth K C "first" "Stretch.first" ["self"] sFirst f fd
  last : ∃ f fd, Mth K C "last" "Stretch.last" ["self"] sLast f fd
  ct : Ct K mg C CN
def spMeets (C : Addr) : Sp := fun vs H Q _ => ∃ v u r s, vs = [v, u] ∧ SR C H v r ∧ SR C H u s ∧ Q (.bl (LD.meetsB r s)) H
theorem ok_meets {f : Addr} {fd : FuncData} {k : Nat} (F : Fun K "meets" "meets" sMeets f fd) (R : Pr K mg C CN) : FnOk P w K mg base CX0 (k + 2) f fd ["stretch", "later"] (spMeets C) := by
  obtain ⟨_, _, F1⟩ := R.first
  obtain ⟨_, _, F2⟩ := R.last
  have G1 : FnOk P w K mg base CX0 (k + 1) _ _ ["self"] (spGet C fun a _ => a) := ok_first F1.fn R.ct
  have G2 : FnOk P w K mg base CX0 (k + 1) _ _ ["self"] (spGet C fun _ b => b) := ok_last F2.fn R.ct
  refine F.ok scMeets (fun vs H Q E h => ?_) (fun cdv A outer s H vs Q E hr h => ?_)
  · obtain ⟨v, u, r, s, rfl, _⟩ := h
    rfl
  · obtain ⟨v, u, r, s, rfl, hv, hu, q⟩ := h
    refine ⟨_, pss_one (ps_ret (pe_or (pe_cmpR op_isN (pe_meth0 (pv 0) R.ct.cl F2.me G2 hr F2.bd .nil pass0) pe_non (nomark _))
      (pe_one (pe_cmpR op_le (pe_meth0 (pv 1) R.ct.cl F1.me G1 hr F1.bd .nil pass0) (pe_op op_add (pe_meth0 (pv 0) R.ct.cl F2.me G2 hr F2.bd .nil pass0) pe_int) (nomark _))))), ?_⟩
    obtain ⟨x, dx, rfl, hx, sx⟩ := hv.st
    obtain ⟨y, dy, rfl, hy, sy⟩ := hu.st
    refine ⟨_, rfl, x, dx, _, rfl, hx, rfl, x, r.1, enc r.2, rfl, sx, rfl, _, rfl, ?_⟩
    obtain ⟨a, z⟩ := r
    cases z with
    | none => exact q
    | some j => exact ⟨_, rfl, y, dy, _, rfl, hy, rfl, y, s.1, enc s.2, rfl, sy, _, rfl, x, dx, _, rfl, hx, rfl, x, a, .int j, rfl, sx, _, _, rfl, rfl, _, _, rfl, rfl, q⟩
def spLater : Sp := fun vs H Q _ => ∃ a b, vs = [enc a, enc b] ∧ Q (enc (LD.laterO a b)) H
theorem ok_later {f : Addr} {fd : FuncData} {k : Nat} (F : Fun K "later_end" "later_end" sLater f fd) (T : Tx mg) : FnOk P w K mg base CX0 (k + 1) f fd ["one", "other"] spLater := by
  refine F.ok scLater (fun vs H Q E h => ?_) (fun cdv A outer s H vs Q E hr h => ?_)
  · obtain ⟨a, b, rfl, _⟩ := h
    rfl
  · obtain ⟨a, b, rfl, q⟩ := h
    refine ⟨_, pss_cons (ps_if (PW.pt (pw_or (pt_cmpR op_isN (pv 0) pe_non (nomark _)) (pw_or1 (pt_cmpR op_isN (pv 1) pe_non (nomark _))))) (pss_one (ps_ret pe_non)) pss_nil)
      (pss_one (ps_ret (pe_callB (call_max2 rfl) (by rfl) T.max (by decide +kernel) (pa_cons (pv 0) (pa_cons (pv 1) pa_nil))))), ?_⟩
    refine ⟨_, rfl, rfl, _, rfl, ?_⟩
    cases a with
    | none => exact q
    | some i =>
      refine ⟨_, rfl, rfl, _, rfl, ?_⟩
      cases b with
      | none => exact q
      | some j => exact ⟨_, rfl, _, rfl, i, j, rfl, q⟩
/-- a statement that is never come to -/
theorem ps_no {X : Cx} {st : Stmt} : PS X st (fun _ _ _ => False) := ⟨fun _ _ _ _ _ _ h => h.elim⟩
def Sd (H : Hp) (q : Addr) (xs : List V) : Prop := H q = some (.lst xs) ∨ H q = some (.tup xs)
theorem Sd.sq {H : Hp} {q : Addr} {xs : List V} (h : Sd H q xs) : Sq2 K H q xs := h.imp (fun e => SqL.of e) (fun e => SqT.of e)
theorem Sd.ext {H H' : Hp} {q : Addr} {xs : List V} (h : Sd H q xs) (e : ExtN H H') : Sd H' q xs := h.imp (fun z => e _ _ z nofun) (fun z => e _ _ z nofun)
theorem kit_lt (x : String) (h : x = "list" ∨ x = "tuple") : PySem.W.kitAny K (.type x) [.type "list", .type "tuple"] = some true := by
  rcases h with rfl | rfl
  · exact kitAny_cons (b := true) (kit_ty (show kitB "list" "list" = some true by decide +kernel)) nofun (fun _ => rfl)
  · exact kitAny_cons (b := false) (kit_ty (show kitB "tuple" "list" = some false by decide +kernel)) (fun _ => kitAny_cons (b := true) (kit_ty (show kitB "tuple" "tuple" = some true by decide +kernel)) nofun (fun _ => rfl)) nofun
def spChk (C : Addr) : Sp := fun vs H Q _ => ∃ q xs, vs = [.ref q] ∧ Sd H q xs ∧ xs.length ≤ 1000 ∧ (∀ v ∈ xs, ∃ x dx fs, v = .ref x ∧ H x = some (.ins C dx fs)) ∧ ∀ H', Same H H' → Q .non H'
theorem all_true (bs : List Bool) (h : ∀ b ∈ bs, b = true) : bs.all id = true := by
  rw [List.all_eq_true]
  exact fun b hb => h b hb
theorem ok_chk {f : Addr} {fd : FuncData} {k : Nat} (F : Fun K "check_stretches" "check_stretches" sChk f fd) (T : Tx mg) (Z : Ct K mg C CN) (own : PySem.W.kitOne K (.ref C) (.ref C) = some true) : FnOk P w K mg base CX0 (k + 1) f fd ["thing"] (spChk C) := by
  refine F.ok scChk (fun vs H Q E h => ?_) (fun cdv A outer s H vs Q E hr h => ?_)
  · obtain ⟨q, xs, rfl, _⟩ := h
    rfl
  · obtain ⟨q, xs, rfl, hq, hl, hi, fin⟩ := h
    have nd := scChk.nd
    refine ⟨_, pss_cons (ps_if (pt_not (pt_val (pe_callB call_isiT (by rfl) T.isi (by decide +kernel) (pa_cons (pv 0) (pa_cons (pe_tup (pa_cons (pe_bltn (v := .ty "list") (by rfl) T.list (by decide +kernel) rfl)
          (pa_cons (pe_bltn (v := .ty "tuple") (by rfl) T.tuple (by decide +kernel) rfl) pa_nil))) pa_nil))))) (pss_one ps_no) pss_nil)
      (pss_one (ps_if (pt_not (pt_val (pe_callB (cr_all rfl) (by rfl) T.all (by decide +kernel) (pa_cons (pe_lc (own := [("each", 1)]) (g := gName 1) (tt := tYes) rfl nd (pi_seq (pv 0)) (blkOk_by (N := ["thing", "each"]) (sc := defScope sChk) (by decide +kernel))
          (fun _ _ _ _ _ => pg_name (i := 1) nd rfl (Or.inl rfl)) (fun _ _ _ _ _ => pts_nil)
          (fun _ _ _ _ _ => pe_callB (r := rIsi K) call_isi (by rfl) T.isi (by decide +kernel) (pa_cons (pv 1) (pa_cons (pe_glob (v := .ref C) (by rfl) Z.mgC rfl) pa_nil)))) pa_nil)))) (pss_one ps_no) pss_nil)), ?_⟩
    refine ⟨_, rfl, by show 2 ≤ sizeLine; decide, fun tp ntp => ?_⟩
    have s1 := same_upd (o := .tup [V.ty "list", V.ty "tuple"]) ntp
    have e1 := upd_same (H := H) (a := tp) (o := .tup [V.ty "list", V.ty "tuple"])
    generalize upd H tp (.tup [V.ty "list", V.ty "tuple"]) = H1 at *
    have hq1 := hq.ext (extN_same s1)
    have ty : ∃ t : String, (t = "list" ∨ t = "tuple") ∧ TyX K H1 (.ref q) (.type t) := by
      rcases hq1 with e | e
      · exact ⟨"list", .inl rfl, .base (.lst e)⟩
      · exact ⟨"tuple", .inr rfl, .base (.tup e)⟩
    obtain ⟨t, ht, tx⟩ := ty
    refine ⟨_, tp, _, _, [.type "list", .type "tuple"], true, rfl, e1, .cons (.ty _) (.cons (.ty _) .nil), tx, kit_lt t ht, _, rfl, ?_⟩
    refine ⟨_, rfl, q, xs, rfl, hq1.sq, fun J wk D nD => ?_⟩
    refine lc_it wk (fun i H' => Same H1 H' ∧ H' D = some (.lst (List.replicate i (.bl true)))) ⟨same_upd nD, upd_same⟩ (fun i H' _ p => Still.of (extN_same p.1)) ?_ ?_
    · rintro i v H2 H2' hi' ⟨sm, eD⟩ ⟨rfl, hv⟩
      obtain ⟨x, dx, fs, rfl, hx⟩ := hi v (List.mem_of_getElem? hv)
      refine ⟨rfl, _, rfl, .ref x, .ref C, .ref C, .ref C, true, rfl, .own C, .base (.ins (sm _ _ (s1 _ _ hx)) Z.cl Z.ha Z.hn Z.ht Z.hm), own, ?_⟩
      refine ⟨_, eD, ?_, fun b o e => ?_, ?_⟩
      · rw [List.length_replicate]
        exact small1000 (by omega)
      · rw [upd_ne (ne_of_none e nD)]
        exact sm b o e
      · rw [upd_same, List.replicate_succ']
    · rintro H2 ⟨sm, eD⟩
      refine ⟨D, List.replicate xs.length true, rfl, SqL.of (by rw [List.map_replicate]; exact eD), _, rfl, ?_⟩
      rw [all_true _ fun b hb => List.eq_of_mem_replicate hb]
      exact fin H2 (s1.trans sm)
end
end K14

set_option Elab.async false
set_option linter.all false
set_option maxRecDepth 100000
set_option maxHeartbeats 1600000
namespace K14
open PySem PySem.Spec PyProof.Rows L2 LT LamX
abbrev nMerged : List Str := ["stretches", "told", "stretch"]
theorem scMerged : FnScope nMerged ["stretches"] (defScope sMerged) := ⟨rfl, rfl, rfl, by decide +kernel, rfl, by decide +kernel, by decide +kernel⟩
theorem atI_last {α : Type} (l : List α) (z : α) : atI (l ++ [z]) (-1) = some z := by
  unfold atI ixN
  rw [if_neg (by decide), if_pos (by rw [List.length_append, List.length_singleton]; omega)]
  show (l ++ [z])[(-1 + ((l ++ [z]).length : Int)).toNat]? = some z
  rw [show (-1 + ((l ++ [z]).length : Int)).toNat = l.length by rw [List.length_append, List.length_singleton]; omega, List.getElem?_append_right (Nat.le_refl _), Nat.sub_self]
  rfl
theorem ixN_last {α : Type} (l : List α) (z : α) : ixN (l ++ [z]).length (-1) = some l.length := by
  unfold ixN
  rw [if_neg (by decide), if_pos (by rw [List.length_append, List.length_singleton]; omega)]
  congr 1
  rw [List.length_append, List.length_singleton]
  omega
theorem set_last {α : Type} (l : List α) (z u : α) : (l ++ [z]).set l.length u = l ++ [u] := by
  rw [List.set_append_right _ _ (Nat.le_refl _), Nat.sub_self]
  rfl
theorem SR.updL {C a : Addr} {H : Hp} {o : HO} {v : V} {r : Row} {zs : List V} (h : SR C H v r) (hl : H a = some (.lst zs)) : SR C (upd H a o) v r := by
  obtain ⟨b, x, dx, e, hx⟩ := h
  exact ⟨b, x, dx, e, by rw [upd_ne (ne_of hx hl nofun)]; exact hx⟩
theorem SRs.updL {C a : Addr} {H : Hp} {o : HO} {vs : List V} {rs : List Row} {zs : List V} (h : SRs C H vs rs) (hl : H a = some (.lst zs)) : SRs C (upd H a o) vs rs := by
  induction h with
  | nil => exact .nil
  | cons x _ ih => exact .cons (x.updL hl) ih
theorem ExtN.updN {H H' : Hp} {a : Addr} {o : HO} (e : ExtN H H') (n : H a = none) : ExtN H (upd H' a o) := fun b u h t => by
  rw [upd_ne (ne_of_none h n)]
  exact e b u h t
theorem Tabs.updL {T : List (Addr × Str)} {H : Hp} {a : Addr} {o : HO} {zs : List V} (t : Tabs T H) (hl : H a = some (.lst zs)) : Tabs T (upd H a o) := fun p hp => by
  obtain ⟨ps, h1, h2, h3⟩ := t p hp
  refine ⟨ps, by rw [upd_ne (ne_of h1 hl nofun)]; exact h1, h2, fun pos cv hc => ?_⟩
  obtain ⟨c, e1, e2⟩ := h3 pos cv hc
  exact ⟨c, e1, by rw [upd_ne (ne_of e2 hl fun z => by unfold CodeO at z; cases z)]; exact e2⟩
def qM : Str := (envOfC "merged" (defScope sMerged) 0 0 .none).qual ++ "<lambda>"
def qY : Str := (envOfC "_law_right" (defScope sRightL) 0 0 .none).qual ++ "<lambda>"
/-- the tables of merged's and of the law's own lambdas -/
abbrev TT2 (PM PY : Addr) : List (Addr × Str) := [(PM, qM), (PY, qY)]
structure Tb (base : Heap) (mg : Str → Option Value) (cM PM cY PY : Addr) : Prop where
  m : TabB base mg cM PM
  y : TabB base mg cY PY
  ne : PM ≠ PY
theorem rb_later {h r : Row} (a : RB h) (b : RB r) : RB (h.1, LD.laterO h.2 r.2) := by
  refine ⟨⟨a.ok.1, fun k ek => ?_⟩, a.b1, fun k ek => ?_⟩
  · obtain ⟨i, j, ei, _, h1, _⟩ := LD.laterO_le ek
    exact Int.le_trans (a.ok.2 i ei) h1
  · obtain ⟨i, j, ei, ej, _, _, rfl | rfl⟩ := LD.laterO_le ek
    · exact a.b2 _ ei
    · exact b.b2 _ ej
section
variable {P : Program} {w : World} {K : PySem.W.Frag} {mg : Str → Option Value} {base : Heap} {C CN : Addr} {cM PM cY PY : Addr}
/-- the class's making -/
abbrev InitFn (K : PySem.W.Frag) (f : Addr) (fd : FuncData) : Prop := FunD K "__init__" "Stretch.__init__" (defArgs sInit) (defBody sInit) (defScope sInit) [.non] [] f fd
structure Pm (K : PySem.W.Frag) (mg : Str → Option Value) (C CN : Addr) : Prop extends Pr K mg C CN where
  day : ∃ f fd, Has K mg "is_day" ["thing"] sDay f fd
  whole : ∃ f fd, HasW K mg f fd
  init : ∃ f fd, Mk K C f ∧ InitFn K f fd ∧ L2.Binds K fd ["self", "first", "last"] []
  meets : ∃ f fd, Has K mg "meets" ["stretch", "later"] sMeets f fd
  later : ∃ f fd, Has K mg "later_end" ["one", "other"] sLater f fd
  chk : ∃ f fd, Has K mg "check_stretches" ["thing"] sChk f fd
  own : PySem.W.kitOne K (.ref C) (.ref C) = some true
def mergedOf (ss : List Row) : List Row := ss.foldl LD.stepM []
def spMerged (C PM PY : Addr) : Sp := fun vs H Q _ => ∃ q xs rs, vs = [.ref q] ∧ Sd H q xs ∧ SRs C H xs rs ∧ rs.length ≤ 1000 ∧ Tabs (TT2 PM PY) H ∧
  ∀ a zs R ss H', H a = none → ExtN H H' → Tabs (TT2 PM PY) H' → H' a = some (.lst zs.reverse) → SRs C H' zs R → R = mergedOf ss → (∀ r, r ∈ ss ↔ r ∈ rs) → ss.Pairwise (fun a b => a.1 ≤ b.1) → zs.length ≤ 1000 → Q (.ref a) H'
theorem ok_merged {f : Addr} {fd : FuncData} (F : FunC K "merged" "merged" sMerged f cM fd) (T : Tx mg) (S : Pm K mg C CN) (B : Tb base mg cM PM cY PY) : FnOk P w K mg base CX0 6 f fd ["stretches"] (spMerged C PM PY) := by
  obtain ⟨_, _, F1⟩ := S.first
  obtain ⟨_, _, F2⟩ := S.last
  obtain ⟨_, _, FM⟩ := S.meets
  obtain ⟨_, _, FL⟩ := S.later
  obtain ⟨_, _, FD⟩ := S.day
  obtain ⟨_, _, FW⟩ := S.whole
  obtain ⟨_, _, M, FI, bI⟩ := S.init
  have Z := S.ct
  have G1 : FnOk P w K mg base CX0 1 _ _ ["self"] (spGet C fun a _ => a) := ok_first F1.fn Z
  have G2 : FnOk P w K mg base CX0 1 _ _ ["self"] (spGet C fun _ b => b) := ok_last F2.fn Z
  have GM : FnOk P w K mg base CX0 2 _ _ ["stretch", "later"] (spMeets C) := ok_meets FM.fn S.toPr
  have GL : FnOk P w K mg base CX0 1 _ _ ["one", "other"] spLater := ok_later FL.fn T
  have GI : FnOk P w K mg base (L2.CX P w) 4 _ _ ["self", "first", "last"] (spInit C CN) := ok_init FI T Z FD FW
  refine F.ok scMerged (fun vs H Q E h => ?_) (fun A outer s H vs Q E hr h => ?_)
  · obtain ⟨q, xs, rs, rfl, _⟩ := h
    rfl
  · obtain ⟨q, xs, rs, rfl, hq, hs, hl, hT, fin⟩ := h
    have nd := scMerged.nd
    have hr1 : Room 1 _ := hr.mono (by decide)
    have hr2 : Room 2 _ := hr.mono (by decide)
    have hr4 : Room 4 _ := hr.mono (by decide)
    refine ⟨_, pss_cons (ps_set (i := 1) nd rfl (.inl rfl) (pe_lst pa_nil))
      (pss_cons (ps_for PassesOwn.never rfl (pi_list (pe_sortedLam (T := TT2 PM PY) (x := "each") (k := 1) (by rfl) T.sorted (pa_cons (pv 0) pa_nil) rfl rfl B.m rfl (List.mem_cons_self) (fun p hp e => by
            rcases List.mem_cons.mp hp with rfl | hp
            · rfl
            · rw [List.mem_singleton.mp hp] at e
              exact absurd e.symm B.ne) (show LamP (defScope sMerged) _ _ from lamP_by (by decide +kernel)) (show ("each" : Str) ∉ nMerged by decide) rfl (fun _ _ _ _ _ _ => rfl) hr4
            (fun A outer s H f c' hr3 => pe_meth0 (pv 0) Z.cl F1.me G1 hr3 F1.bd .nil pass0) (by decide +kernel))) (pg_name (i := 2) nd rfl (.inl rfl))
        (pss_one (ps_if (PW.pt (pw_and (pt_truth (pv 1) (fun _ => rfl)) (pw_and1 (pt_val (pe_call GM hr2 (by rfl) FM.gl FM.fn.kp FM.bd .nil pass0 (pa_cons (pe_ix ix_list (pv 1) (pe_un un_neg pe_int) (fun _ _ => rfl)) (pa_cons (pv 2) pa_nil)))))))
          (pss_one (ps_asg (pe_make M GI hr (by rfl) Z.mgC bI .nil passL (pa_cons (pe_meth0 (pe_ix ix_list (pv 1) (pe_un un_neg pe_int) (fun _ _ => rfl)) Z.cl F1.me G1 hr1 F1.bd .nil pass0)
              (pa_cons (pe_call GL hr1 (by rfl) FL.gl FL.fn.kp FL.bd .nil pass0 (pa_cons (pe_meth0 (pe_ix ix_list (pv 1) (pe_un un_neg pe_int) (fun _ _ => rfl)) Z.cl F2.me G2 hr1 F2.bd .nil pass0) (pa_cons (pe_meth0 (pv 2) Z.cl F2.me G2 hr1 F2.bd .nil pass0) pa_nil))) pa_nil)))
            (pg_sub (pv 1) (pe_un un_neg pe_int) set_list)))
          (pss_one (ps_expr (pe_bm PySem.F.plainAttrs_list PySem.F.slot_list_append PySem.F.type_list_append mt_append (pv 1) (pa_cons (pe_make M GI hr (by rfl) Z.mgC bI .nil passL
              (pa_cons (pe_meth0 (pv 2) Z.cl F1.me G1 hr1 F1.bd .nil pass0) (pa_cons (pe_meth0 (pv 2) Z.cl F2.me G2 hr1 F2.bd .nil pass0) pa_nil))) pa_nil)))))))
      (pss_one (ps_ret (pv 1)))), ?_⟩
    refine ⟨by show 0 ≤ sizeLine; decide, fun a na => ?_⟩
    have s0 := same_upd (o := .lst []) na
    have ha0 := upd_same (H := H) (a := a) (o := .lst [])
    generalize upd H a (.lst []) = H0 at *
    obtain ⟨ss, hss, hmem, hpw, hlen⟩ := hs.sorted
    refine ⟨_, rfl, hT.ext s0, q, xs, fun v => (rowOf H v).1, rfl, (hq.ext (extN_same s0)).sq, fun H2 e2 T2 => ⟨fun v hv Q' hQ' => ?_, fun l nl => ⟨l, rfl, ⟨_, SqL.of upd_same⟩, ?_⟩⟩⟩
    · obtain ⟨r, _, sr⟩ := hs.mem hv
      have sr2 := (sr.ext (extN_same s0)).ext e2
      obtain ⟨x, dx, rfl, hx, st⟩ := sr2.st
      have hQ' : Q' (.int (rowOf H (.ref x)).1) H2 := hQ'
      rw [sr.row] at hQ'
      exact ⟨_, rfl, x, dx, _, rfl, hx, rfl, x, _, _, rfl, st, hQ'⟩
    have nal : a ≠ l := ne_of_none (e2 _ _ ha0 nofun) nl
    have eH : ExtN H H2 := (extN_same s0).trans e2
    refine for_list (K := K) (xs := xs.mergeSort fun a b => decide ((rowOf H a).1 ≤ (rowOf H b).1)) (fun i σ H' => ∃ y zs R, σ = [some (.ref q), some (.ref a), y] ∧ H' a = some (.lst zs.reverse) ∧ SRs C H' zs R ∧ R = mergedOf (ss.take i) ∧ zs.length ≤ i ∧ ExtN H H' ∧ Tabs (TT2 PM PY) H' ∧
        H' l = some (.lst (xs.mergeSort fun a b => decide ((rowOf H a).1 ≤ (rowOf H b).1))))
      ⟨none, [], [], rfl, by rw [upd_ne nal]; exact e2 _ _ ha0 nofun, .nil, rfl, Nat.le_refl _, fun b o h n => ?_, ?_, upd_same⟩ (fun i σ H' _ h => ?_) ?_ ?_
    · rw [upd_ne (ne_of_none (eH b o h n) nl)]
      exact eH b o h n
    · exact T2.ext (same_upd nl)
    · obtain ⟨_, _, _, _, _, _, _, _, _, _, hl'⟩ := h
      exact SqL.of hl'
    · rintro i v σ H' hv ⟨y, zs, R, rfl, ha, hz, hR, hzl, eN, tN, hl'⟩
      obtain ⟨r, er, sr0⟩ := hss.at hv
      have sr := sr0.ext eN
      obtain ⟨x, dx, rfl, hx, st⟩ := sr.st
      have hi : i < ss.length := (List.getElem?_eq_some_iff.mp er).1
      have eR : mergedOf (ss.take (i + 1)) = LD.stepM R r := by
        rw [hR]
        unfold mergedOf
        rw [List.take_add_one, er, List.foldl_append]
        rfl
      have nla : l ≠ a := fun z => nal z.symm
      have after : ∀ (H3 : Hp) (z : Addr) (rz : Row) (zs' : List V) (R' : List Row), Same H' H3 → SR C H3 (.ref z) rz → SRs C H' zs' R' → LD.stepM R r = rz :: R' → zs'.length ≤ i →
          ∃ y zs R, ([some (.ref q), some (.ref a), some (.ref x)] : L2.St) = [some (.ref q), some (.ref a), y] ∧ upd H3 a (.lst (zs'.reverse ++ [.ref z])) a = some (.lst zs.reverse) ∧ SRs C (upd H3 a (.lst (zs'.reverse ++ [.ref z]))) zs R ∧ R = mergedOf (ss.take (i + 1)) ∧ zs.length ≤ i + 1 ∧
            ExtN H (upd H3 a (.lst (zs'.reverse ++ [.ref z]))) ∧ Tabs (TT2 PM PY) (upd H3 a (.lst (zs'.reverse ++ [.ref z]))) ∧ upd H3 a (.lst (zs'.reverse ++ [.ref z])) l = some (.lst (xs.mergeSort fun a b => decide ((rowOf H a).1 ≤ (rowOf H b).1))) := by
        intro H3 z rz zs' R' s3 srz hz' es hle
        have ha3 := s3 _ _ ha
        refine ⟨_, .ref z :: zs', rz :: R', rfl, by rw [upd_same, List.reverse_cons], .cons (srz.updL ha3) ((hz'.ext (extN_same s3)).updL ha3), by rw [eR, es], Nat.succ_le_succ hle, K14.ExtN.updN (eN.trans (extN_same s3)) na, K14.Tabs.updL (tN.ext s3) ha3, ?_⟩
        rw [upd_ne nla]
        exact s3 _ _ hl'
      refine ⟨_, rfl, _, .inl ⟨_, SqL.of ha, rfl⟩, ?_⟩
      cases hz with
      | nil =>
        rw [if_neg (by simp)]
        refine ⟨_, rfl, .inl ⟨rfl, _, SqL.of ha⟩, _, rfl, x, dx, _, rfl, hx, rfl, x, _, _, rfl, st, _, rfl, x, dx, _, rfl, hx, rfl, x, _, _, rfl, st, fun z dz nz ndz nez => ?_⟩
        refine mk_init (r := r) nz ndz nez sr.1 fun H3 s3 sr3 => ⟨rfl, a, _, _, rfl, rfl, s3 _ _ ha, by show 0 < sizeLine; decide, ?_⟩
        exact after H3 z r [] [] s3 sr3 .nil rfl (Nat.zero_le _)
      | @cons z0 h0 zt Rt hz0 hzt =>
        rw [if_pos (by simp)]
        obtain ⟨x0, dx0, rfl, hx0, st0⟩ := hz0.st
        have at0 : atI (V.ref x0 :: zt).reverse (-1) = some (.ref x0) := by rw [List.reverse_cons]; exact atI_last _ _
        refine ⟨_, rfl, 1, rfl, a, _, -1, _, rfl, rfl, SqL.of ha, at0, _, rfl, .ref x0, .ref x, h0, r, rfl, hz0, sr, _, rfl, ?_⟩
        have est : LD.stepM (h0 :: Rt) r = if LD.meetsB h0 r = true then (h0.1, LD.laterO h0.2 r.2) :: Rt else r :: h0 :: Rt := rfl
        have hzl' : zt.length + 1 ≤ i := hzl
        cases hm : LD.meetsB h0 r with
        | true =>
          rw [hm, if_pos rfl] at est
          refine iteT ?_
          refine ⟨_, rfl, 1, rfl, a, _, -1, _, rfl, rfl, SqL.of ha, at0, x0, dx0, _, rfl, hx0, rfl, x0, _, _, rfl, st0, ?_⟩
          refine ⟨_, rfl, 1, rfl, a, _, -1, _, rfl, rfl, SqL.of ha, at0, x0, dx0, _, rfl, hx0, rfl, x0, _, _, rfl, st0, ?_⟩
          refine ⟨_, rfl, x, dx, _, rfl, hx, rfl, x, _, _, rfl, st, h0.2, r.2, rfl, fun z dz nz ndz nez => ?_⟩
          refine mk_init (r := (h0.1, LD.laterO h0.2 r.2)) nz ndz nez (rb_later hz0.1 sr.1) fun H3 s3 sr3 => ⟨rfl, _, rfl, 1, rfl, a, _, -1, zt.length, rfl, rfl, s3 _ _ ha, ?_, ?_⟩
          · rw [List.reverse_cons, show zt.length = zt.reverse.length from List.length_reverse.symm]
            exact ixN_last _ _
          · rw [List.reverse_cons, show zt.length = zt.reverse.length from List.length_reverse.symm, set_last]
            exact after H3 z _ zt Rt s3 sr3 hzt est (by omega)
        | false =>
          rw [hm, if_neg (by simp)] at est
          refine iteF ?_
          refine ⟨_, rfl, .inl ⟨rfl, _, SqL.of ha⟩, _, rfl, x, dx, _, rfl, hx, rfl, x, _, _, rfl, st, _, rfl, x, dx, _, rfl, hx, rfl, x, _, _, rfl, st, fun z dz nz ndz nez => ?_⟩
          refine mk_init (r := r) nz ndz nez sr.1 fun H3 s3 sr3 => ⟨rfl, a, _, _, rfl, rfl, s3 _ _ ha, ?_, ?_⟩
          · rw [List.length_reverse]
            exact small1000 (by have := hlen; show zt.length + 1 ≤ 1000; omega)
          · exact after H3 z r (.ref x0 :: zt) (h0 :: Rt) s3 sr3 (.cons hz0 hzt) est hzl
    · rintro σ H' ⟨y, zs, R, rfl, ha, hz, hR, hzl, eN, tN, hl'⟩
      have ll := hss.length
      refine ⟨_, rfl, fin a zs R ss H' na eN tN ha hz ?_ hmem hpw (by omega)⟩
      rw [hR, List.take_of_length_le (by omega)]
end
end K14

set_option Elab.async false
set_option linter.all false
set_option maxRecDepth 100000
set_option maxHeartbeats 1600000
namespace K14
open PySem PySem.Spec PyProof.Rows L2 LT LamX
abbrev nRows : List Str := ["_law_pot_here", "_law_most", "_law_base", "_law_found", "_law_k", "_law_way", "_law_first", "_law_last"]
theorem scRows : FnScope nRows ["_law_pot_here", "_law_most"] (defScope sRows) := ⟨rfl, rfl, rfl, by decide +kernel, rfl, by decide +kernel, by decide +kernel⟩
/-- a pair of days stands at v -/
def TR (H : Hp) (v : V) (r : Row) : Prop := RBd r ∧ ∃ t, v = .ref t ∧ H t = some (.tup [.int r.1, enc r.2])
inductive TRs (H : Hp) : List V → List Row → Prop
  | nil : TRs H [] []
  | cons {v : V} {r : Row} {vs : List V} {rs : List Row} : TR H v r → TRs H vs rs → TRs H (v :: vs) (r :: rs)
theorem TR.extB {p : Addr} {H H' : Hp} {v : V} {r : Row} (h : TR H v r) (hp : Pot H p) (s : SameB p H H') : TR H' v r := by
  obtain ⟨b, t, e, ht⟩ := h
  exact ⟨b, t, e, s _ _ (ne_of_pot hp ht) ht⟩
theorem TR.ext {H H' : Hp} {v : V} {r : Row} (h : TR H v r) (e : ExtN H H') : TR H' v r := by
  obtain ⟨b, t, ev, ht⟩ := h
  exact ⟨b, t, ev, e _ _ ht nofun⟩
theorem TR.updL {a : Addr} {H : Hp} {o : HO} {v : V} {r : Row} {zs : List V} (h : TR H v r) (hl : H a = some (.lst zs)) : TR (upd H a o) v r := by
  obtain ⟨b, t, e, ht⟩ := h
  exact ⟨b, t, e, by rw [upd_ne (ne_of ht hl nofun)]; exact ht⟩
theorem TRs.imp {H H' : Hp} {vs : List V} {rs : List Row} (h : TRs H vs rs) (f : ∀ v r, TR H v r → TR H' v r) : TRs H' vs rs := by
  induction h with
  | nil => exact .nil
  | cons a _ ih => exact .cons (f _ _ a) ih
theorem TRs.length {H : Hp} {vs : List V} {rs : List Row} (h : TRs H vs rs) : vs.length = rs.length := by
  induction h with
  | nil => rfl
  | cons a _ ih => rw [List.length_cons, List.length_cons, ih]
theorem TRs.append {H : Hp} {vs us : List V} {rs ss : List Row} (h : TRs H vs rs) (g : TRs H us ss) : TRs H (vs ++ us) (rs ++ ss) := by
  induction h with
  | nil => exact g
  | cons a _ ih => exact .cons a ih
theorem TRs.at {H : Hp} {vs : List V} {rs : List Row} (h : TRs H vs rs) : ∀ {i : Nat} {v : V}, vs[i]? = some v → ∃ r, rs[i]? = some r ∧ TR H v r := by
  induction h with
  | nil => intro i v e; cases e
  | cons a _ ih =>
    intro i v e
    cases i with
    | zero => cases e; exact ⟨_, rfl, a⟩
    | succ i => exact ih e
theorem TRs.rb {H : Hp} {vs : List V} {rs : List Row} (h : TRs H vs rs) : ∀ r ∈ rs, RBd r := by
  induction h with
  | nil => exact nofun
  | cons a _ ih =>
    intro r hr
    rcases List.mem_cons.mp hr with rfl | hr
    · exact a.1
    · exact ih r hr
/-- the ways behind an if are joined -/
theorem join {α : Type} {J : α → Hp → Prop} {sl : α → L2.St} {rest : L2.St → Hp → Prop} {goal : Prop} (k : (∀ a Hx, J a Hx → rest (sl a) Hx) → goal) (h : ∀ a Hx, J a Hx → rest (sl a) Hx) : goal := k h
section
variable {P : Program} {w : World} {K : PySem.W.Frag} {mg : Str → Option Value} {base : Heap} {C CN : Addr}
def spRows : Sp := fun vs H Q _ => ∃ p n, vs = [.ref p, .int n] ∧ Pot H p ∧ 0 ≤ n ∧ n ≤ 100 ∧
  ∀ (q : Addr) (zs : List V) (rs : List Row) (H' : Hp), H q = none → q ≠ p → H' q = some (.lst zs) → TRs H' zs rs → (rs.length : Int) ≤ n → Pot H' p → SameB p H H' → Q (.ref q) H'
/-- what holds in a turn of rows -/
structure Jr (p q : Addr) (H : Hp) (zs : List V) (rs : List Row) (Hx : Hp) : Prop where
  hp : Pot Hx p
  sb : SameB p H Hx
  hq : Hx q = some (.lst zs)
  tr : TRs Hx zs rs
theorem Jr.step {p q : Addr} {H Hx Hy : Hp} {zs : List V} {rs : List Row} (j : Jr p q H zs rs Hx) (n : q ≠ p) (hp : Pot Hy p) (s : SameB p Hx Hy) : Jr p q H zs rs Hy :=
  ⟨hp, j.sb.trans s, s _ _ n j.hq, j.tr.imp fun _ _ t => t.extB j.hp s⟩
theorem ok_rows {f fT fF : Addr} {fd fdT fdF : FuncData} {k : Nat} (F : Fun K "_law_rows" "_law_rows" sRows f fd) (T : Tx mg) (FT : TakeFn K mg fT fdT) (FF : PotFn K mg "_law_far" sFar fF fdF) : FnOk P w K mg base CX0 (k + 3) f fd ["_law_pot_here", "_law_most"] spRows := by
  have GT : FnOk P w K mg base CX0 (k + 1) fT fdT ["_law_pot_here", "_law_room"] spTake := ok_take FT.fn T
  have GF : FnOk P w K mg base CX0 (k + 2) fF fdF ["_law_pot_here"] (spFar 0 (10 ^ 56)) := ok_far FF.fn T FT
  refine F.ok scRows (fun vs H Q E h => ?_) (fun cdv A outer s H vs Q E hr h => ?_)
  · obtain ⟨p, n, rfl, _⟩ := h
    rfl
  · obtain ⟨p, n, rfl, hp, n0, n1, q⟩ := h
    have nd := scRows.nd
    have hr1 : Room (k + 1) _ := hr.mono (by omega)
    refine ⟨_, pss_cons (ps_set (i := 2) nd rfl (.inl rfl) pe_int)
      (pss_cons (ps_if (pt_cmpR op_eq (pe_call GT hr1 (by rfl) FT.gl FT.fn.kp FT.bd .nil pass0 (pa_cons (pv 0) (pa_cons pe_int pa_nil))) pe_int (nomark _)) (pss_one (ps_set (i := 2) nd rfl (.inl rfl) (pe_call GF hr (by rfl) FF.gl FF.fn.kp FF.bd .nil pass0 (pa_cons (pv 0) pa_nil)))) pss_nil)
      (pss_cons (ps_set (i := 3) nd rfl (.inl rfl) (pe_lst pa_nil))
      (pss_cons (ps_for PassesOwn.never rfl (pi_range1 (by rfl) T.range (pa_cons (pe_call GT hr1 (by rfl) FT.gl FT.fn.kp FT.bd .nil pass0 (pa_cons (pv 0) (pa_cons (pe_op op_add (pv 1) pe_int) pa_nil))) pa_nil)) (pg_name (i := 4) nd rfl (.inl rfl))
        (pss_cons (ps_set (i := 5) nd rfl (.inl rfl) (pe_call GT hr1 (by rfl) FT.gl FT.fn.kp FT.bd .nil pass0 (pa_cons (pv 0) (pa_cons pe_int pa_nil))))
        (pss_cons (ps_set (i := 6) nd rfl (.inl rfl) (pe_op op_add (pv 2) (pe_call GT hr1 (by rfl) FT.gl FT.fn.kp FT.bd .nil pass0 (pa_cons (pv 0) (pa_cons pe_int pa_nil)))))
        (pss_cons (ps_if (pt_cmpR op_eq (pv 5) pe_int (nomark _)) (pss_one (ps_set (i := 6) nd rfl (.inl rfl) (pe_call GF hr (by rfl) FF.gl FF.fn.kp FF.bd .nil pass0 (pa_cons (pv 0) pa_nil)))) pss_nil)
        (pss_cons (ps_set (i := 7) nd rfl (.inl rfl) (pe_op op_add (pv 6) (pe_call GT hr1 (by rfl) FT.gl FT.fn.kp FT.bd .nil pass0 (pa_cons (pv 0) (pa_cons pe_int pa_nil)))))
        (pss_cons (ps_if (pt_cmpR op_eq (pv 5) pe_int (nomark _)) (pss_one (ps_set (i := 7) nd rfl (.inl rfl) (pe_op op_add (pv 6) (pe_call GF hr (by rfl) FF.gl FF.fn.kp FF.bd .nil pass0 (pa_cons (pv 0) pa_nil))))) pss_nil)
        (pss_cons (ps_if (PW.pt (pw_and (pt_cmpR op_eq (pv 5) pe_int (nomark _)) (pw_and1 (pt_cmpR op_eq (pe_call GT hr1 (by rfl) FT.gl FT.fn.kp FT.bd .nil pass0 (pa_cons (pv 0) (pa_cons pe_int pa_nil))) pe_int (nomark _))))) (pss_one (ps_set (i := 7) nd rfl (.inl rfl) pe_non)) pss_nil)
        (pss_one (ps_expr (pe_bm PySem.F.plainAttrs_list PySem.F.slot_list_append PySem.F.type_list_append mt_append (pv 3) (pa_cons (pe_tup (pa_cons (pv 6) (pa_cons (pv 7) pa_nil))) pa_nil)))))))))))
      (pss_one (ps_ret (pv 3)))))), ?_⟩
    refine ⟨_, rfl, p, 3, rfl, hp, by decide, by decide, fun d H1 _ _ hp1 sb1 => ?_⟩
    refine ⟨rfl, _, rfl, ?_⟩
    apply join (α := Int) (J := fun b Hx => 0 ≤ b ∧ b ≤ 10 ^ 56 ∧ Pot Hx p ∧ SameB p H Hx) (sl := fun b => [some (.ref p), some (.int n), some (.int b), none, none, none, none, none])
    · intro h
      refine ite2 ?y ?n
      case n =>
        intro _
        exact h 0 H1 ⟨by decide, by decide, hp1, sb1⟩
      case y =>
        intro _
        exact ⟨_, rfl, p, rfl, hp1, fun d H2 d0 d1 hp2 sb2 => h d H2 ⟨d0, d1, hp2, sb1.trans sb2⟩⟩
    rintro b H2 ⟨b0, b1, hp2, sb2⟩
    refine ⟨by show 0 ≤ sizeLine; decide, fun q0 nq => ?_⟩
    have nqp : q0 ≠ p := hp2.ne nq
    have nq0 : H q0 = none := sb2.none hp2 nq
    have j3 : Jr p q0 H [] [] (upd H2 q0 (.lst [])) := ⟨hp2.upd nqp, sb2.trans (SameB.of (same_upd nq)), upd_same, .nil⟩
    generalize upd H2 q0 (.lst []) = H3 at *
    refine ⟨_, rfl, _, rfl, _, _, rfl, rfl, p, _, rfl, j3.hp, by omega, by omega, fun m H4 m0 m1 hp4 sb4 => ?_⟩
    refine ⟨m, rfl, by omega, by omega, for_range (lo := 0) (n := m.toNat) (fun i σ H' => ∃ y4 y5 y6 y7 zs rs, σ = [some (.ref p), some (.int n), some (.int b), some (.ref q0), y4, y5, y6, y7] ∧ Jr p q0 H zs rs H' ∧ rs.length = i) ⟨none, none, none, none, [], [], rfl, j3.step nqp hp4 sb4, rfl⟩ ?_ ?_⟩
    · rintro i σ H5 hi ⟨y4, y5, y6, y7, zs, rs, rfl, j5, hrl⟩
      refine ⟨_, rfl, p, 6, rfl, j5.hp, by decide, by decide, fun way H6 w0 w1 hp6 sb6 => ?_⟩
      have j6 := j5.step nqp hp6 sb6
      refine ⟨_, rfl, _, rfl, p, 41, rfl, j6.hp, by decide, by decide, fun d7 H7 a0 a1 hp7 sb7 => ⟨_, _, rfl, rfl, ?_⟩⟩
      have j7 := j6.step nqp hp7 sb7
      apply join (α := Int) (J := fun f Hx => 0 ≤ f ∧ f ≤ 10 ^ 56 + 50 ∧ Jr p q0 H zs rs Hx) (sl := fun f => [some (.ref p), some (.int n), some (.int b), some (.ref q0), some (.int (0 + (i : Nat))), some (.int way), some (.int f), y7])
      · intro h
        refine ⟨_, rfl, rfl, _, rfl, ite2 ?y ?n⟩
        case n =>
          intro _
          exact h (b + d7) H7 ⟨by omega, by omega, j7⟩
        case y =>
          intro _
          exact ⟨_, rfl, p, rfl, j7.hp, fun d H8 d0 d1 hp8 sb8 => h d H8 ⟨d0, by omega, j7.step nqp hp8 sb8⟩⟩
      rintro fst H8 ⟨f0, f1, j8⟩
      refine ⟨_, rfl, _, rfl, p, 8, rfl, j8.hp, by decide, by decide, fun d9 H9 a0 a1 hp9 sb9 => ⟨_, _, rfl, rfl, ?_⟩⟩
      have j9 := j8.step nqp hp9 sb9
      apply join (α := Int) (J := fun l Hx => fst ≤ l ∧ l ≤ fst + 10 ^ 56 ∧ Jr p q0 H zs rs Hx) (sl := fun l => [some (.ref p), some (.int n), some (.int b), some (.ref q0), some (.int (0 + (i : Nat))), some (.int way), some (.int fst), some (.int l)])
      · intro h
        refine ⟨_, rfl, rfl, _, rfl, ite2 ?y ?n⟩
        case n =>
          intro _
          exact h (fst + d9) H9 ⟨by omega, by omega, j9⟩
        case y =>
          intro _
          exact ⟨_, rfl, _, rfl, p, rfl, j9.hp, fun d H10 d0 d1 hp10 sb10 => ⟨_, _, rfl, rfl, h (fst + d) H10 ⟨by omega, by omega, j9.step nqp hp10 sb10⟩⟩⟩
      rintro lst H10 ⟨l0, l1, j10⟩
      apply join (α := Option Int) (J := fun l Hx => (l = none ∨ l = some lst) ∧ Jr p q0 H zs rs Hx) (sl := fun l => [some (.ref p), some (.int n), some (.int b), some (.ref q0), some (.int (0 + (i : Nat))), some (.int way), some (.int fst), some (enc l)])
      · intro h
        have hn := fun Hx j => h none Hx ⟨.inl rfl, j⟩
        have hs := fun Hx j => h (some lst) Hx ⟨.inr rfl, j⟩
        refine ⟨_, rfl, rfl, _, rfl, ite2 ?y ?n⟩
        case n =>
          intro _
          exact iteF (hs H10 j10)
        case y =>
          intro _
          refine ⟨_, rfl, p, 3, rfl, j10.hp, by decide, by decide, fun d H11 _ _ hp11 sb11 => ⟨rfl, _, rfl, ite2 (fun _ => ?_) (fun _ => ?_)⟩⟩
          · exact hn H11 (j10.step nqp hp11 sb11)
          · exact hs H11 (j10.step nqp hp11 sb11)
      rintro lo H11 ⟨hlo, j11⟩
      refine ⟨_, rfl, .inl ⟨rfl, _, SqL.of j11.hq⟩, _, rfl, _, rfl, by show 2 ≤ sizeLine; decide, fun t nt => ?_⟩
      have hq12 : upd H11 t (.tup [.int fst, enc lo]) q0 = some (.lst zs) := by
        rw [upd_ne (ne_of_none j11.hq nt)]
        exact j11.hq
      have rb : RBd (fst, lo) := by
        rcases hlo with rfl | rfl
        · exact ⟨⟨f0, nofun⟩, by show fst ≤ _; omega, nofun⟩
        · exact ⟨⟨f0, fun j ej => by cases ej; exact l0⟩, by show fst ≤ _; omega, fun j ej => by cases ej; omega⟩
      have ntp : t ≠ p := j11.hp.ne nt
      have tz := j11.tr.length
      refine ⟨q0, zs, _, rfl, rfl, hq12, small1000 (by omega), ?_⟩
      refine ⟨_, _, _, _, zs ++ [.ref t], rs ++ [(fst, lo)], rfl, ⟨(j11.hp.upd ntp).upd nqp, fun c o hc hco => ?_, upd_same, ?_⟩, by rw [List.length_append, hrl]; rfl⟩
      · rw [upd_ne (ne_of_none hco nq0)]
        exact (j11.sb.trans (SameB.of (same_upd nt))) c o hc hco
      · refine TRs.append (j11.tr.imp fun v r tr => (tr.ext (extN_same (same_upd nt))).updL hq12) (.cons ⟨rb, t, rfl, ?_⟩ .nil)
        rw [upd_ne (ne_of upd_same hq12 nofun)]
        exact upd_same
    · rintro σ H5 ⟨y4, y5, y6, y7, zs, rs, rfl, j5, hrl⟩
      exact ⟨_, rfl, q q0 zs rs H5 nq0 nqp j5.hq j5.tr (by omega) j5.hp j5.sb⟩
end
end K14

set_option Elab.async false
set_option linter.all false
set_option maxRecDepth 100000
set_option maxHeartbeats 1600000
namespace K14
open PySem PySem.Spec PyProof.Rows L2 LT LamX
abbrev nHanded : List Str := ["_law_pot_here", "_law_rows_here", "_law_found", "_law_first", "_law_last"]
theorem scHanded : FnScope nHanded ["_law_pot_here", "_law_rows_here"] (defScope sHanded) := ⟨rfl, rfl, rfl, by decide +kernel, rfl, by decide +kernel, by decide +kernel⟩
theorem SRs.take_snoc {C : Addr} {H : Hp} {us : List V} {rs : List Row} {i : Nat} {v : V} {r : Row} (h : SRs C H us (rs.take i)) (e : rs[i]? = some r) (s : SR C H v r) : SRs C H (us ++ [v]) (rs.take (i + 1)) := by
  rw [List.take_add_one, e]
  exact h.append (.cons s .nil)
theorem SR.extB {C p : Addr} {H H' : Hp} {v : V} {r : Row} (h : SR C H v r) (hp : Pot H p) (s : SameB p H H') : SR C H' v r := by
  obtain ⟨b, x, dx, e, hx⟩ := h
  exact ⟨b, x, dx, e, s _ _ (ne_of_pot hp hx) hx⟩
theorem SRs.imp {C : Addr} {H H' : Hp} {vs : List V} {rs : List Row} (h : SRs C H vs rs) (f : ∀ v r, SR C H v r → SR C H' v r) : SRs C H' vs rs := by
  induction h with
  | nil => exact .nil
  | cons a _ ih => exact .cons (f _ _ a) ih
section
variable {P : Program} {w : World} {K : PySem.W.Frag} {mg : Str → Option Value} {base : Heap} {C CN : Addr} {cM PM cY PY : Addr}
def spHanded (C : Addr) : Sp := fun vs H Q _ => ∃ p q zs rs, vs = [.ref p, .ref q] ∧ Pot H p ∧ H q = some (.lst zs) ∧ TRs H zs rs ∧ rs.length ≤ 100 ∧
  ∀ a xs ss H', H a = none → a ≠ p → Sd H' a xs → SRs C H' xs ss → (∀ r, r ∈ ss ↔ r ∈ rs) → (∃ tl, ss = rs ++ tl) → ss.length ≤ rs.length + 1 → Pot H' p → SameB p H H' → Q (.ref a) H'
theorem ok_handed {f fT : Addr} {fd fdT : FuncData} (F : Fun K "_law_handed" "_law_handed" sHanded f fd) (T : Tx mg) (S : Pm K mg C CN) (FT : TakeFn K mg fT fdT) : FnOk P w K mg base CX0 6 f fd ["_law_pot_here", "_law_rows_here"] (spHanded C) := by
  obtain ⟨_, _, FD⟩ := S.day
  obtain ⟨_, _, FW⟩ := S.whole
  obtain ⟨_, _, M, FI, bI⟩ := S.init
  have Z := S.ct
  have GI : FnOk P w K mg base (L2.CX P w) 4 _ _ ["self", "first", "last"] (spInit C CN) := ok_init FI T Z FD FW
  have GT : FnOk P w K mg base CX0 1 fT fdT ["_law_pot_here", "_law_room"] spTake := ok_take FT.fn T
  refine F.ok scHanded (fun vs H Q E h => ?_) (fun cdv A outer s H vs Q E hr h => ?_)
  · obtain ⟨p, q, zs, rs, rfl, _⟩ := h
    rfl
  · obtain ⟨p, q, zs, rs, rfl, hp, hq, hz, hl, fin⟩ := h
    have nd := scHanded.nd
    have hu := hr.units
    have hr1 : Room 1 _ := hr.mono (by decide)
    refine ⟨_, pss_cons (ps_setLc (i := 2) (own := [("_law_first", 3), ("_law_last", 4)]) (g := gTup K 2 (gCons (gName 3) (gCons (gName 4) gNil))) (tt := tYes) rfl nd rfl rfl (sw_true rfl rfl rfl rfl) (pi_list (pv 1)) (blkOk_by (N := nHanded) (sc := defScope sHanded) (by decide +kernel))
          (fun _ _ _ _ _ => pg_tup rfl (pgs_cons (pg_name (i := 3) nd rfl (Or.inl rfl)) (pgs_cons (pg_name (i := 4) nd rfl (Or.inl rfl)) pgs_nil))) (fun _ _ _ _ _ => pts_nil)
          (fun _ _ _ _ _ => pe_make M GI hr (by rfl) Z.mgC bI .nil passL (pa_cons (pv 3) (pa_cons (pv 4) pa_nil))))
      (pss_cons (ps_if (PW.pt (pw_and (pt_cmpR (op_neNil hu) (pv 2) (pe_lst pa_nil) (nomark _)) (pw_and1 (pt_cmpR op_eq (pe_call GT hr1 (by rfl) FT.gl FT.fn.kp FT.bd .nil pass0 (pa_cons (pv 0) (pa_cons pe_int pa_nil))) pe_int (nomark _)))))
          (pss_one (ps_expr (pe_bm PySem.F.plainAttrs_list PySem.F.slot_list_append PySem.F.type_list_append mt_append (pv 2) (pa_cons (pe_ix ix_list (pv 2) (pe_call GT hr1 (by rfl) FT.gl FT.fn.kp FT.bd .nil pass0 (pa_cons (pv 0) (pa_cons (pe_callB call_len_seq (by rfl) T.len PySem.boot_len (pa_cons (pv 2) pa_nil)) pa_nil))) (fun _ _ => rfl)) pa_nil)))) pss_nil)
      (pss_one (ps_ret (pe_ix ix_list (pe_lst (pa_cons (pv 2) (pa_cons (pe_callTy call_tuple_of (by rfl) T.tuple (by decide +kernel) (pa_cons (pv 2) pa_nil)) pa_nil))) (pe_call GT hr1 (by rfl) FT.gl FT.fn.kp FT.bd .nil pass0 (pa_cons (pv 0) (pa_cons pe_int pa_nil))) (fun _ _ => rfl))))), ?_⟩
    refine ⟨_, rfl, q, rfl, ⟨_, SqL.of hq⟩, fun D nD => ?_⟩
    have zl := hz.length
    refine lc_list (K := K) (a := q) (xs := zs) (fun i H' => Same H H' ∧ ∃ us, H' D = some (.lst us) ∧ SRs C H' us (rs.take i) ∧ us.length = i) ⟨same_upd nD, [], upd_same, .nil, rfl⟩ (fun i H' _ h => h.1.seq (SqL.of hq)) ?_ ?_
    · rintro i v H1 hv ⟨sm, us, hD, hs, hul⟩
      obtain ⟨r, er, tr⟩ := hz.at hv
      obtain ⟨rb, t, rfl, ht⟩ := tr.ext (extN_same sm)
      have hi : i < rs.length := (List.getElem?_eq_some_iff.mp er).1
      refine ⟨t, _, rfl, SqT.of ht, rfl, _, _, rfl, _, _, rfl, rfl, rfl, _, rfl, _, rfl, fun x dx nx ndx nex => ?_⟩
      refine mk_init (r := r) nx ndx nex rb.rb fun H2 s2 sr2 => ⟨rfl, us, s2 _ _ hD, small1000 (by omega), fun b o e => ?_, us ++ [.ref x], upd_same, ?_, by rw [List.length_append, hul]; rfl⟩
      · rw [upd_ne (ne_of_none e nD)]
        exact s2 _ _ (sm b o e)
      · exact ((hs.ext (extN_same s2)).updL (s2 _ _ hD)).take_snoc er (sr2.updL (s2 _ _ hD))
    · rintro H1 ⟨sm, us, hD, hs, hul⟩
      rw [List.take_of_length_le (by omega)] at hs
      have hp1 := hp.mono sm
      have nDp : D ≠ p := fun e => by
        obtain ⟨_, _, h, _⟩ := hp
        rw [e, h] at nD
        cases nD
      apply join (α := List V × List Row) (J := fun x Hx => Hx D = some (.lst x.1) ∧ SRs C Hx x.1 x.2 ∧ (∀ r, r ∈ x.2 ↔ r ∈ rs) ∧ (∃ tl, x.2 = rs ++ tl) ∧ x.2.length ≤ rs.length + 1 ∧ Pot Hx p ∧ SameB p H Hx) (sl := fun _ => [some (.ref p), some (.ref q), some (.ref D), none, none])
      · intro h
        refine ⟨_, rfl, by show 0 ≤ sizeLine; decide, fun e ne => ⟨D, e, us, rfl, rfl, ?_, upd_same, _, rfl, ?_⟩⟩
        · rw [upd_ne (ne_of_none hD ne)]
          exact hD
        have s2 := same_upd (o := .lst []) ne
        have hs2 := hs.ext (extN_same s2)
        have hD2 := s2 _ _ hD
        have sb2 : SameB p H (upd H1 e (.lst [])) := SameB.of (sm.trans s2)
        have hp2 := hp1.mono s2
        generalize upd H1 e (.lst []) = H2 at *
        have go := h (us, rs) H2 ⟨hD2, hs2, fun _ => Iff.rfl, ⟨[], (List.append_nil rs).symm⟩, Nat.le_succ _, hp2, sb2⟩
        cases us with
        | nil => exact iteF (iteF go)
        | cons u us =>
          refine iteT ?_
          refine ⟨_, rfl, p, 3, rfl, hp2, by decide, by decide, fun d H3 _ _ hp3 sb3 => ⟨rfl, _, rfl, ?_⟩⟩
          have hD3 := sb3 _ _ nDp hD2
          have hs3 : SRs C H3 (u :: us) rs := hs2.imp fun _ _ z => z.extB hp2 sb3
          have sb3' := sb2.trans sb3
          refine ite2 (fun _ => ?_) (fun _ => ?_)
          · refine ⟨_, rfl, .inl ⟨rfl, _, SqL.of hD3⟩, _, rfl, _, rfl, _, rfl, D, _, rfl, .inl (SqL.of hD3), ?_⟩
            have ul : (u :: us).length = rs.length := hs3.length
            refine ⟨p, _, rfl, hp3, by rw [ul]; have := hs3.length; simp only [List.length_cons] at this; omega, by rw [ul]; omega, fun j H4 j0 j1 hp4 sb4 => ?_⟩
            have hD4 := sb4 _ _ nDp hD3
            have hs4 : SRs C H4 (u :: us) rs := hs3.imp fun _ _ z => z.extB hp3 sb4
            obtain ⟨n, rfl⟩ := Int.eq_ofNat_of_zero_le j0
            have jl : n < (u :: us).length := by omega
            have ej : (u :: us)[n]? = some ((u :: us)[n]) := List.getElem?_eq_getElem jl
            obtain ⟨rj, erj, srj⟩ := hs4.at ej
            refine ⟨D, _, _, (u :: us)[n], rfl, rfl, SqL.of hD4, ?_, ?_⟩
            · exact atI_nat ej
            · refine ⟨D, _, _, rfl, rfl, hD4, small1000 (by omega), ?_⟩
              refine h ((u :: us) ++ [(u :: us)[n]], rs ++ [rj]) _ ⟨upd_same, (hs4.updL hD4).append (.cons (srj.updL hD4) .nil), fun r => ?_, ⟨[rj], rfl⟩, by rw [List.length_append]; exact Nat.le_refl _, hp4.upd nDp, fun c o hc hco => ?_⟩
              · rw [List.mem_append, List.mem_singleton]
                exact ⟨fun z => z.elim id fun e => by rw [e]; exact List.mem_of_getElem? erj, .inl⟩
              · rw [upd_ne (ne_of_none hco nD)]
                exact (sb3'.trans sb4) c o hc hco
          · exact h (u :: us, rs) H3 ⟨hD3, hs3, fun _ => Iff.rfl, ⟨[], (List.append_nil rs).symm⟩, Nat.le_succ _, hp3, sb3'⟩
      rintro ⟨xs, ss⟩ H5 ⟨hD5, hs5, hm5, hq5, hl5, hp5, sb5⟩
      have hD5 : H5 D = some (.lst xs) := hD5
      refine ⟨_, rfl, _, rfl, D, _, rfl, .inl ⟨SqL.of hD5, fun t nt => ?_⟩⟩
      have s6 := same_upd (o := .tup xs) nt
      refine ⟨by show 2 ≤ sizeLine; decide, fun e ne => ?_⟩
      have s7 := same_upd (o := .lst [V.ref D, .ref t]) ne
      have s67 := s6.trans s7
      have ht7 := s7 _ _ (upd_same (H := H5) (a := t) (o := .tup xs))
      have he7 := upd_same (H := upd H5 t (.tup xs)) (a := e) (o := .lst [V.ref D, .ref t])
      have nt0 : H t = none := sb5.none hp5 nt
      have ntp : t ≠ p := hp5.ne nt
      have nep : e ≠ p := (hp5.mono s6).ne ne
      generalize upd (upd H5 t (.tup xs)) e (.lst [V.ref D, .ref t]) = H7 at *
      have hp7 := hp5.mono s67
      have sb7 := sb5.trans (SameB.of s67)
      refine ⟨_, rfl, p, 2, rfl, hp7, by decide, by decide, fun d H8 d0 d1 hp8 sb8 => ?_⟩
      have hs8 : SRs C H8 xs ss := (hs5.ext (extN_same s67)).imp fun _ _ z => z.extB hp7 sb8
      have hd : d = 0 ∨ d = 1 := by omega
      rcases hd with rfl | rfl
      · exact ⟨e, _, 0, _, rfl, rfl, SqL.of (sb8 _ _ nep he7), rfl, fin D xs ss H8 nD nDp (.inl (sb8 _ _ nDp (s67 _ _ hD5))) hs8 hm5 hq5 hl5 hp8 (sb7.trans sb8)⟩
      · exact ⟨e, _, 1, _, rfl, rfl, SqL.of (sb8 _ _ nep he7), rfl, fin t xs ss H8 nt0 ntp (.inr (sb8 _ _ ntp ht7)) hs8 hm5 hq5 hl5 hp8 (sb7.trans sb8)⟩
end
end K14

set_option Elab.async false
set_option linter.all false
set_option maxRecDepth 100000
set_option maxHeartbeats 1600000
namespace K14
open PySem PySem.Spec PyProof.Rows L2 LT LamX
abbrev nIn : List Str := ["_law_rows_here", "_law_day", "_law_first", "_law_last"]
abbrev nMarks : List Str := ["_law_rows_here", "_law_first", "_law_last"]
theorem scIn : FnScope nIn ["_law_rows_here", "_law_day"] (defScope sIn) := ⟨rfl, rfl, rfl, by decide +kernel, rfl, by decide +kernel, by decide +kernel⟩
theorem scMarks : FnScope nMarks ["_law_rows_here"] (defScope sMarks) := ⟨rfl, rfl, rfl, by decide +kernel, rfl, by decide +kernel, by decide +kernel⟩
def endR : Row → Row
  | (a, none) => (a, some a)
  | (a, some j) => (a, some j)
theorem endR_rb {r : Row} (h : RB r) : RB (endR r) := by
  obtain ⟨a, x⟩ := r
  cases x with
  | none => exact ⟨⟨h.ok.1, fun j ej => by cases ej; exact Int.le_refl _⟩, h.b1, fun j ej => by cases ej; exact h.b1⟩
  | some j => exact h
def marks (rs : List Row) : List Int := [0] ++ rs.map (·.1) ++ rs.filterMap fun r => r.2.map (· + 1)
section
variable {P : Program} {w : World} {K : PySem.W.Frag} {mg : Str → Option Value} {base : Heap} {C CN : Addr} {cM PM cY PY : Addr}
def spIn : Sp := fun vs H Q _ => ∃ q zs rs d, vs = [.ref q, .int d] ∧ H q = some (.lst zs) ∧ TRs H zs rs ∧ rs.length ≤ 1000 ∧ ∀ H', Same H H' → Q (.bl (LD.insB rs d)) H'
theorem ok_in {f : Addr} {fd : FuncData} {k : Nat} (F : Fun K "_law_in" "_law_in" sIn f fd) (T : Tx mg) : FnOk P w K mg base CX0 (k + 1) f fd ["_law_rows_here", "_law_day"] spIn := by
  refine F.ok scIn (fun vs H Q E h => ?_) (fun cdv A outer s H vs Q E hr h => ?_)
  · obtain ⟨q, zs, rs, d, rfl, _⟩ := h
    rfl
  · obtain ⟨q, zs, rs, d, rfl, hq, hz, hl, fin⟩ := h
    have nd := scIn.nd
    refine ⟨_, pss_one (ps_ret (pe_callB (cr_any rfl) (by rfl) T.any (by decide +kernel) (pa_cons (pe_lc (own := [("_law_first", 2), ("_law_last", 3)]) (g := gTup K 2 (gCons (gName 2) (gCons (gName 3) gNil))) (tt := tYes) rfl nd (pi_list (pv 0)) (blkOk_by (N := nIn) (sc := defScope sIn) (by decide +kernel))
          (fun _ _ _ _ _ => pg_tup rfl (pgs_cons (pg_name (i := 2) nd rfl (Or.inl rfl)) (pgs_cons (pg_name (i := 3) nd rfl (Or.inl rfl)) pgs_nil))) (fun _ _ _ _ _ => pts_nil)
          (fun _ _ _ _ _ => pe_and (pe_cmpR op_le (pv 2) (pv 1) (nomark _)) (pe_one (pe_or (pe_cmpR op_isN (pv 3) pe_non (nomark _)) (pe_one (pe_cmpR op_le (pv 1) (pv 3) (nomark _))))))) pa_nil))), ?_⟩
    refine ⟨_, rfl, q, rfl, ⟨_, SqL.of hq⟩, fun D nD => ?_⟩
    have zl := hz.length
    refine lc_list (K := K) (a := q) (xs := zs) (fun i H' => Same H H' ∧ H' D = some (.lst ((rs.take i).map fun r => V.bl (LD.inB r d)))) ⟨same_upd nD, upd_same⟩ (fun i H' _ h => h.1.seq (SqL.of hq)) ?_ ?_
    · rintro i v H1 hv ⟨sm, hD⟩
      obtain ⟨r, er, tr⟩ := hz.at hv
      obtain ⟨rb, t, rfl, ht⟩ := tr.ext (extN_same sm)
      have hi : i < rs.length := (List.getElem?_eq_some_iff.mp er).1
      refine ⟨t, _, rfl, SqT.of ht, rfl, _, _, rfl, _, _, rfl, rfl, rfl, ?_⟩
      have after : ∃ acc, H1 D = some (.lst acc) ∧ acc.length < sizeLine ∧ (Same H (upd H1 D (.lst (acc ++ [.bl (LD.inB r d)]))) ∧ upd H1 D (.lst (acc ++ [.bl (LD.inB r d)])) D = some (.lst ((rs.take (i + 1)).map fun r => V.bl (LD.inB r d)))) := by
        refine ⟨_, hD, small1000 (by rw [List.length_map, List.length_take]; omega), fun b o e => ?_, ?_⟩
        · rw [upd_ne (ne_of_none e nD)]
          exact sm b o e
        · rw [upd_same, List.take_add_one, er, List.map_append]
          rfl
      obtain ⟨a, x⟩ := r
      unfold LD.inB at after
      refine ⟨_, rfl, _, rfl, a, d, rfl, rfl, _, rfl, ?_⟩
      cases hb : decide (a ≤ d) with
      | false =>
        simp only [hb, Bool.false_and] at after
        exact after
      | true =>
        simp only [hb, Bool.true_and] at after
        cases x with
        | none => exact ⟨_, rfl, rfl, _, rfl, after⟩
        | some j => exact ⟨_, rfl, rfl, _, rfl, _, rfl, _, rfl, d, j, rfl, rfl, after⟩
    · rintro H1 ⟨sm, hD⟩
      rw [List.take_of_length_le (by omega)] at hD
      refine ⟨D, rs.map fun r => LD.inB r d, rfl, SqL.of (by rw [hD, List.map_map]; rfl), ?_⟩
      rw [List.any_map]
      exact fin H1 sm
end
end K14

set_option Elab.async false
set_option linter.all false
set_option maxRecDepth 100000
set_option maxHeartbeats 1600000
namespace K14
open PySem PySem.Spec PyProof.Rows L2 LT LamX
section
variable {P : Program} {w : World} {K : PySem.W.Frag} {mg : Str → Option Value} {base : Heap} {C CN : Addr} {cM PM cY PY : Addr}
def spMarks : Sp := fun vs H Q _ => ∃ q zs rs, vs = [.ref q] ∧ H q = some (.lst zs) ∧ TRs H zs rs ∧ rs.length ≤ 100 ∧ ∀ a H', H a = none → Same H H' → H' a = some (.lst ((marks rs).map V.int)) → Q (.ref a) H'
theorem fm_len {α β : Type} (f : α → Option β) (l : List α) : (l.filterMap f).length ≤ l.length := List.length_filterMap_le f l
theorem ok_marks {f : Addr} {fd : FuncData} {k : Nat} (F : Fun K "_law_marks" "_law_marks" sMarks f fd) : FnOk P w K mg base CX0 (k + 1) f fd ["_law_rows_here"] spMarks := by
  refine F.ok scMarks (fun vs H Q E h => ?_) (fun cdv A outer s H vs Q E hr h => ?_)
  · obtain ⟨q, zs, rs, rfl, _⟩ := h
    rfl
  · obtain ⟨q, zs, rs, rfl, hq, hz, hl, fin⟩ := h
    have nd := scMarks.nd
    refine ⟨_, pss_one (ps_ret (pe_op op_cat (pe_op op_cat (pe_lst (pa_cons pe_int pa_nil)) (pe_lc (own := [("_law_first", 1), ("_law_last", 2)]) (g := gTup K 2 (gCons (gName 1) (gCons (gName 2) gNil))) (tt := tYes) rfl nd (pi_list (pv 0)) (blkOk_by (N := nMarks) (sc := defScope sMarks) (by decide +kernel))
          (fun _ _ _ _ _ => pg_tup rfl (pgs_cons (pg_name (i := 1) nd rfl (Or.inl rfl)) (pgs_cons (pg_name (i := 2) nd rfl (Or.inl rfl)) pgs_nil))) (fun _ _ _ _ _ => pts_nil) (fun _ _ _ _ _ => pv 1)))
        (pe_lc (own := [("_law_first", 1), ("_law_last", 2)]) (g := gTup K 2 (gCons (gName 1) (gCons (gName 2) gNil))) rfl nd (pi_list (pv 0)) (blkOk_by (N := nMarks) (sc := defScope sMarks) (by decide +kernel))
          (fun _ _ _ _ _ => pg_tup rfl (pgs_cons (pg_name (i := 1) nd rfl (Or.inl rfl)) (pgs_cons (pg_name (i := 2) nd rfl (Or.inl rfl)) pgs_nil))) (fun _ _ _ _ _ => pts_one (pt_cmpR op_notN (pv 2) pe_non (nomark _))) (fun _ _ _ _ _ => pe_op (r := rI0 fun i j => V.int (i + j)) op_add (pv 2) pe_int)))), ?_⟩
    have zl := hz.length
    refine ⟨by show 1 ≤ sizeLine; decide, fun l0 n0 => ?_⟩
    have s0 := same_upd (o := .lst [V.int 0]) n0
    have e0 := upd_same (H := H) (a := l0) (o := .lst [V.int 0])
    generalize upd H l0 (.lst [V.int 0]) = H0 at *
    refine ⟨_, rfl, q, rfl, ⟨_, SqL.of (s0 _ _ hq)⟩, fun D nD => ?_⟩
    refine lc_list (K := K) (a := q) (xs := zs) (fun i H' => Same H0 H' ∧ H' D = some (.lst ((rs.take i).map fun r => V.int r.1))) ⟨same_upd nD, upd_same⟩ (fun i H' _ h => h.1.seq (SqL.of (s0 _ _ hq))) ?_ ?_
    · rintro i v H1 hv ⟨sm, hD⟩
      obtain ⟨r, er, tr⟩ := hz.at hv
      obtain ⟨rb, t, rfl, ht⟩ := tr.ext (extN_same (s0.trans sm))
      refine ⟨t, _, rfl, SqT.of ht, rfl, _, _, rfl, _, _, rfl, rfl, rfl, _, rfl, _, hD, small1000 (by rw [List.length_map, List.length_take]; omega), fun b o e => ?_, ?_⟩
      · rw [upd_ne (ne_of_none e nD)]
        exact sm b o e
      · rw [upd_same, List.take_add_one, er, List.map_append]
        rfl
    rintro H1 ⟨sm1, hD⟩
    rw [List.take_of_length_le (by omega)] at hD
    refine ⟨l0, D, _, _, rfl, rfl, sm1 _ _ e0, hD, ?_, fun a1 na1 => ?_⟩
    · rw [List.length_map]
      exact Nat.le_of_lt (small1000 (by show 1 + _ ≤ 1000; omega))
    have s2 := same_upd (o := .lst ([V.int 0] ++ rs.map fun r => V.int r.1)) na1
    have e2 := upd_same (H := H1) (a := a1) (o := .lst ([V.int 0] ++ rs.map fun r => V.int r.1))
    have sm2 := (s0.trans sm1).trans s2
    generalize upd H1 a1 (.lst ([V.int 0] ++ rs.map fun r => V.int r.1)) = H2 at *
    refine ⟨_, rfl, q, rfl, ⟨_, SqL.of (sm2 _ _ hq)⟩, fun D2 nD2 => ?_⟩
    refine lc_list (K := K) (a := q) (xs := zs) (fun i H' => Same H2 H' ∧ H' D2 = some (.lst (((rs.take i).filterMap fun r => r.2.map (· + 1)).map V.int))) ⟨same_upd nD2, upd_same⟩ (fun i H' _ h => h.1.seq (SqL.of (sm2 _ _ hq))) ?_ ?_
    · rintro i v H3 hv ⟨sm, hD3⟩
      obtain ⟨⟨a, x⟩, er, tr⟩ := hz.at hv
      obtain ⟨rb, t, rfl, ht⟩ := tr.ext (extN_same (sm2.trans sm))
      refine ⟨t, _, rfl, SqT.of ht, rfl, _, _, rfl, _, _, rfl, rfl, rfl, _, rfl, rfl, _, rfl, ?_⟩
      cases x with
      | none =>
        refine iteF ⟨sm, ?_⟩
        rw [hD3, List.take_add_one, er, List.filterMap_append]
        rw [show ((some (a, none) : Option Row).toList.filterMap fun r => r.2.map (· + 1)) = [] from rfl, List.append_nil]
      | some j =>
        refine iteT ⟨_, rfl, j, 1, rfl, rfl, _, hD3, ?_, fun b o e => ?_, ?_⟩
        · rw [List.length_map]
          have := fm_len (fun r : Row => r.2.map (· + 1)) (rs.take i)
          rw [List.length_take] at this
          exact small1000 (by omega)
        · rw [upd_ne (ne_of_none e nD2)]
          exact sm b o e
        · rw [upd_same, List.take_add_one, er, List.filterMap_append, List.map_append]
          rfl
    rintro H3 ⟨sm3, hD3⟩
    rw [List.take_of_length_le (by omega)] at hD3
    refine ⟨a1, D2, _, _, rfl, rfl, sm3 _ _ e2, hD3, ?_, fun a2 na2 => ?_⟩
    · rw [List.length_append, List.length_map, List.length_map]
      have := fm_len (fun r : Row => r.2.map (· + 1)) rs
      exact Nat.le_of_lt (small1000 (by show 1 + _ + _ ≤ 1000; omega))
    have sm4 := sm2.trans sm3
    refine fin a2 _ (sm4.free na2) (sm4.trans (same_upd na2)) ?_
    rw [upd_same]
    unfold marks
    rw [List.map_append, List.map_append, List.map_map]
    rfl
end
end K14

set_option Elab.async false
set_option linter.all false
set_option maxRecDepth 100000
set_option maxHeartbeats 1600000
namespace K14
open PySem PySem.Spec PyProof.Rows L2 LT LamX
abbrev nDue : List Str := ["_law_marks_here", "_law_wanted_here", "_law_found", "_law_day", "_law_is_on"]
theorem scDue : FnScope nDue ["_law_marks_here", "_law_wanted_here"] (defScope sDue) := ⟨rfl, rfl, rfl, by decide +kernel, rfl, by decide +kernel, by decide +kernel⟩
/-- a pair of days, of whatever size -/
def DR (H : Hp) (v : V) (r : Row) : Prop := ∃ t, v = .ref t ∧ H t = some (.tup [.int r.1, enc r.2])
inductive DRs (H : Hp) : List V → List Row → Prop
  | nil : DRs H [] []
  | cons {v : V} {r : Row} {vs : List V} {rs : List Row} : DR H v r → DRs H vs rs → DRs H (v :: vs) (r :: rs)
theorem DR.ext {H H' : Hp} {v : V} {r : Row} (h : DR H v r) (e : Same H H') : DR H' v r := by
  obtain ⟨t, ev, ht⟩ := h
  exact ⟨t, ev, e _ _ ht⟩
theorem DRs.imp {H H' : Hp} {vs : List V} {rs : List Row} (h : DRs H vs rs) (f : ∀ v r, DR H v r → DR H' v r) : DRs H' vs rs := by
  induction h with
  | nil => exact .nil
  | cons a _ ih => exact .cons (f _ _ a) ih
theorem DR.updL {a : Addr} {H : Hp} {o : HO} {v : V} {r : Row} {zs : List V} (h : DR H v r) (hl : H a = some (.lst zs)) : DR (upd H a o) v r := by
  obtain ⟨t, e, ht⟩ := h
  exact ⟨t, e, by rw [upd_ne (ne_of ht hl nofun)]; exact ht⟩
theorem DRs.append {H : Hp} {vs us : List V} {rs ss : List Row} (h : DRs H vs rs) (g : DRs H us ss) : DRs H (vs ++ us) (rs ++ ss) := by
  induction h with
  | nil => exact g
  | cons a _ ih => exact .cons a ih
theorem DRs.reverse {H : Hp} {vs : List V} {rs : List Row} (h : DRs H vs rs) : DRs H vs.reverse rs.reverse := by
  induction h with
  | nil => exact .nil
  | cons a _ ih =>
    rw [List.reverse_cons, List.reverse_cons]
    exact ih.append (.cons a .nil)
theorem DRs.length {H : Hp} {vs : List V} {rs : List Row} (h : DRs H vs rs) : vs.length = rs.length := by
  induction h with
  | nil => rfl
  | cons a _ ih => rw [List.length_cons, List.length_cons, ih]
theorem DRs.at {H : Hp} {vs : List V} {rs : List Row} (h : DRs H vs rs) : ∀ {i : Nat} {v : V}, vs[i]? = some v → ∃ r, rs[i]? = some r ∧ DR H v r := by
  induction h with
  | nil => intro i v e; cases e
  | cons a _ ih =>
    intro i v e
    cases i with
    | zero => cases e; exact ⟨_, rfl, a⟩
    | succ i => exact ih e
def TTd : V → (V → Hp → VK → Prop) → Hp → VK → Prop := fun z tl H Q => ∃ (q : Addr) (ms : List Int) (wd : Int → Bool), z = .ref q ∧ H q = some (.lst (ms.map V.int)) ∧ ms.length ≤ 400 ∧
  (∀ (d : Int) (Hx : Hp) (Q' : VK), Same H Hx → (∀ Hy, Same Hx Hy → Q' (.bl (wd d)) Hy) → tl (.int d) Hx Q') ∧
  ∀ (a : Addr) (us : List V) (R : List Row) (ns : List Int) (H' : Hp), H a = none → Same H H' → ns.Pairwise (· < ·) → (∀ k, k ∈ ns ↔ k ∈ ms) → R = ns.foldl (LD.stepD wd) [] → us.length ≤ 400 → H' a = some (.lst us.reverse) → DRs H' us R → Q (.ref a) H'
theorem due_takes {X : Cx} (T : Tx X.mg) (hr : Room 3 X.A) (g : Addr) (cdg : Value) (qn : Str) : Takes2 X nDue "_law_due" (defScope sDue) g cdg (defBody sDue) "_law_wanted_here" qn TTd := by
  intro f c' s H Q z tl act hc hf hT
  obtain ⟨q, ms, wd, rfl, hq, hml, hw, fin⟩ := hT
  have nd := scDue.nd
  have hu : (X.A.deeper (envOfC "_law_due" (defScope sDue) s.heap.objs.size g cdg)).units + 64 < cLine := (hr.deeper _).units
  refine ⟨_, pss_cons (ps_set (i := 2) nd rfl (.inl rfl) (pe_lst pa_nil))
    (pss_cons (ps_for PassesOwn.never rfl (pi_list (pe_callB (cr_sortedSetA rfl) (by rfl) T.sorted (by decide +kernel) (pa_cons (pe_callTy (cr_setL rfl) (by rfl) T.set (by decide +kernel) (pa_cons (pv 0) pa_nil)) pa_nil))) (pg_name (i := 3) nd rfl (.inl rfl))
      (pss_cons (ps_set (i := 4) nd rfl (.inl rfl) (pe_and (pe_cmpR (op_neNil hu) (pv 2) (pe_lst pa_nil) (nomark _)) (pe_one (pe_cmpR op_isN (pe_ix ix_tup (pe_ix ix_list (pv 2) (pe_un un_neg pe_int) (fun _ _ => rfl)) pe_int (fun _ _ => rfl)) pe_non (nomark _)))))
      (pss_cons (ps_if (PW.pt (pw_and (pt_val (act _ _ _ _ (pa_cons (pv 3) pa_nil) rfl)) (pw_and1 (pt_not (pt_val (pv 4)))))) (pss_one (ps_expr (pe_bm PySem.F.plainAttrs_list PySem.F.slot_list_append PySem.F.type_list_append mt_append (pv 2) (pa_cons (pe_tup (pa_cons (pv 3) (pa_cons pe_non pa_nil))) pa_nil)))) pss_nil)
      (pss_one (ps_if (PW.pt (pw_and (pt_val (pv 4)) (pw_and1 (pt_not (pt_val (act _ _ _ _ (pa_cons (pv 3) pa_nil) rfl)))))) (pss_one (ps_asg (pe_tup (pa_cons (pe_ix ix_tup (pe_ix ix_list (pv 2) (pe_un un_neg pe_int) (fun _ _ => rfl)) pe_int (fun _ _ => rfl)) (pa_cons (pe_op op_sub (pv 3) pe_int) pa_nil))) (pg_sub (pv 2) (pe_un un_neg pe_int) set_list))) pss_nil)))))
    (pss_one (ps_ret (pv 2)))), ?_⟩
  refine ⟨by show 0 ≤ sizeLine; decide, fun a na => ?_⟩
  have s0 := same_upd (o := .lst []) na
  have e0 := upd_same (H := H) (a := a) (o := .lst [])
  generalize upd H a (.lst []) = H0 at *
  refine ⟨_, rfl, q, ms, rfl, SqL.of (s0 _ _ hq), by omega, fun st c nst hcl => ?_⟩
  have s1 := same_upd (o := SetO X.w st (fun j => decide (j ∈ ms)) c) nst
  have e1 := upd_same (H := H0) (a := st) (o := SetO X.w st (fun j => decide (j ∈ ms)) c)
  refine ⟨st, _, _, rfl, upd_same, by omega, fun ns l hpw hmem hnl nl => ⟨l, rfl, ⟨_, SqL.of upd_same⟩, ?_⟩⟩
  have s2 := same_upd (o := .lst (ns.map V.int)) nl
  have e2 := upd_same (H := upd H0 st (SetO X.w st (fun j => decide (j ∈ ms)) c)) (a := l) (o := .lst (ns.map V.int))
  have ha2 := s2 _ _ (s1 _ _ e0)
  have sm2 := (s0.trans s1).trans s2
  have nla : l ≠ a := fun e => by
    subst e
    have := (s1 _ _ e0).symm.trans nl
    cases this
  have hmem' : ∀ k, k ∈ ns ↔ k ∈ ms := fun k => by rw [hmem k, decide_eq_true_eq]
  refine for_list (K := X.K) (xs := ns.map V.int) (fun i σ H' => ∃ y3 y4 us R, σ = [some (.ref q), some (.ref f), some (.ref a), y3, y4] ∧ Same H H' ∧ H' a = some (.lst us.reverse) ∧ DRs H' us R ∧ R = (ns.take i).foldl (LD.stepD wd) [] ∧ us.length ≤ i ∧ H' l = some (.lst (ns.map V.int)))
    ⟨none, none, [], [], rfl, sm2, ha2, .nil, rfl, Nat.le_refl _, e2⟩ (fun i σ H' _ h => ?_) ?_ ?_
  · obtain ⟨_, _, _, _, _, _, _, _, _, _, hl'⟩ := h
    exact SqL.of hl'
  · rintro i v σ H3 hv ⟨y3, y4, us, R, rfl, sm3, ha3, hd3, hR, hul, hl3⟩
    rw [List.getElem?_map] at hv
    obtain ⟨d, ed, rfl⟩ := Option.map_eq_some_iff.mp hv
    have hi : i < ns.length := (List.getElem?_eq_some_iff.mp ed).1
    have eR : (ns.take (i + 1)).foldl (LD.stepD wd) [] = LD.stepD wd R d := by
      rw [List.take_add_one, ed, List.foldl_append, hR]
      rfl
    have done : ∀ (Hx : Hp) (us' : List V) (y4' : Option V), Same H Hx → Hx a = some (.lst us'.reverse) → DRs Hx us' (LD.stepD wd R d) → us'.length ≤ i + 1 → Hx l = some (.lst (ns.map V.int)) →
        ∃ y3 y4 us R, ([some (.ref q), some (.ref f), some (.ref a), some (.int d), y4'] : L2.St) = [some (.ref q), some (.ref f), some (.ref a), y3, y4] ∧ Same H Hx ∧ Hx a = some (.lst us.reverse) ∧ DRs Hx us R ∧ R = (ns.take (i + 1)).foldl (LD.stepD wd) [] ∧ us.length ≤ i + 1 ∧ Hx l = some (.lst (ns.map V.int)) :=
      fun Hx us' y4' h1 h2 h3 h4 h5 => ⟨_, _, us', _, rfl, h1, h2, h3, eR.symm, h4, h5⟩
    refine ⟨_, rfl, by show 0 ≤ sizeLine; decide, fun e ne => ⟨a, e, us.reverse, rfl, rfl, same_upd ne _ _ ha3, upd_same, _, rfl, ?_⟩⟩
    have se := same_upd (o := .lst []) ne
    generalize upd H3 e (.lst []) = He at *
    cases hd3 with
    | nil =>
      rw [show (!([] : List V).reverse.isEmpty) = false from rfl]
      refine iteF ?_
      have es : LD.stepD wd [] d = if wd d = true then [(d, none)] else [] := rfl
      refine ⟨rfl, _, rfl, se _ _ (sm3 _ _ hc), hw d He _ (sm3.trans se) fun Hy sy => ⟨_, rfl, ?_⟩⟩
      have sY := se.trans sy
      have hdY : DRs Hy [] [] := DRs.nil.imp fun _ _ z => z.ext sY
      cases hwd : wd d with
      | true =>
        rw [hwd, if_pos rfl] at es
        refine iteT ⟨_, rfl, _, rfl, iteT ?_⟩
        refine ⟨_, rfl, .inl ⟨rfl, _, SqL.of (sY _ _ ha3)⟩, _, rfl, by show 2 ≤ sizeLine; decide, fun t nt => ?_⟩
        have st := same_upd (o := .tup [V.int d, V.non]) nt
        have et := upd_same (H := Hy) (a := t) (o := .tup [V.int d, V.non])
        have haT := st _ _ (sY _ _ ha3)
        have hlT := st _ _ (sY _ _ hl3)
        have smT := (sm3.trans sY).trans st
        have hdT : DRs (upd Hy t (.tup [V.int d, V.non])) [] [] := hdY.imp fun _ _ z => z.ext st
        generalize upd Hy t (.tup [V.int d, V.non]) = HT at *
        refine ⟨a, _, _, rfl, rfl, haT, small1000 (by rw [List.length_reverse]; omega), ?_⟩
        refine ⟨_, rfl, _, rfl, iteF ?_⟩
        refine done _ (.ref t :: []) _ ?_ (by rw [upd_same]; exact congrArg (fun l => some (HO.lst l)) List.reverse_cons.symm) ?_ (Nat.succ_le_succ hul) (by rw [upd_ne nla]; exact hlT)
        · exact fun b o e => by rw [upd_ne (ne_of_none e na)]; exact smT b o e
        · rw [es]
          exact .cons ⟨t, rfl, by rw [upd_ne (ne_of et haT nofun)]; exact et⟩ (hdT.imp fun _ _ z => z.updL haT)
      | false =>
        rw [hwd, if_neg (by simp)] at es
        refine iteF ⟨_, rfl, _, rfl, iteF ?_⟩
        exact done _ [] _ (sm3.trans sY) (sY _ _ ha3) (by rw [es]; exact hdY) (Nat.le_succ_of_le hul) (sY _ _ hl3)
    | @cons z0 r0 zt Rt hz0 hzt =>
      obtain ⟨t0, rfl, ht0⟩ := hz0
      rw [show (!(V.ref t0 :: zt).reverse.isEmpty) = true by simp]
      refine iteT ?_
      have at0 : atI (V.ref t0 :: zt).reverse (-1) = some (.ref t0) := by rw [List.reverse_cons]; exact atI_last _ _
      refine ⟨_, rfl, 1, rfl, a, _, -1, _, rfl, rfl, SqL.of (se _ _ ha3), at0, t0, _, 1, _, rfl, rfl, SqT.of (se _ _ ht0), rfl, rfl, ?_⟩
      obtain ⟨fs, x⟩ := r0
      have dR : DRs H3 (.ref t0 :: zt) ((fs, x) :: Rt) := .cons ⟨t0, rfl, ht0⟩ hzt
      cases x with
      | some j =>
        have es : LD.stepD wd ((fs, some j) :: Rt) d = if wd d = true then (d, none) :: (fs, some j) :: Rt else (fs, some j) :: Rt := rfl
        refine ⟨rfl, _, rfl, se _ _ (sm3 _ _ hc), hw d He _ (sm3.trans se) fun Hy sy => ⟨_, rfl, ?_⟩⟩
        have sY := se.trans sy
        have hdY : DRs Hy (V.ref t0 :: zt) ((fs, some j) :: Rt) := dR.imp fun _ _ z => z.ext sY
        cases hwd : wd d with
        | true =>
          rw [hwd, if_pos rfl] at es
          refine iteT ⟨_, rfl, _, rfl, iteT ?_⟩
          refine ⟨_, rfl, .inl ⟨rfl, _, SqL.of (sY _ _ ha3)⟩, _, rfl, by show 2 ≤ sizeLine; decide, fun t nt => ?_⟩
          have st := same_upd (o := .tup [V.int d, V.non]) nt
          have et := upd_same (H := Hy) (a := t) (o := .tup [V.int d, V.non])
          have haT := st _ _ (sY _ _ ha3)
          have hlT := st _ _ (sY _ _ hl3)
          have smT := (sm3.trans sY).trans st
          have hdT : DRs (upd Hy t (.tup [V.int d, V.non])) (V.ref t0 :: zt) ((fs, some j) :: Rt) := hdY.imp fun _ _ z => z.ext st
          generalize upd Hy t (.tup [V.int d, V.non]) = HT at *
          refine ⟨a, _, _, rfl, rfl, haT, small1000 (by rw [List.length_reverse]; omega), ?_⟩
          refine ⟨_, rfl, _, rfl, iteF ?_⟩
          refine done _ (.ref t :: (V.ref t0 :: zt)) _ ?_ (by rw [upd_same]; exact congrArg (fun l => some (HO.lst l)) List.reverse_cons.symm) ?_ (Nat.succ_le_succ hul) (by rw [upd_ne nla]; exact hlT)
          · exact fun b o e => by rw [upd_ne (ne_of_none e na)]; exact smT b o e
          · rw [es]
            exact .cons ⟨t, rfl, by rw [upd_ne (ne_of et haT nofun)]; exact et⟩ (hdT.imp fun _ _ z => z.updL haT)
        | false =>
          rw [hwd, if_neg (by simp)] at es
          refine iteF ⟨_, rfl, _, rfl, iteF ?_⟩
          exact done _ (V.ref t0 :: zt) _ (sm3.trans sY) (sY _ _ ha3) (by rw [es]; exact hdY) (Nat.le_succ_of_le hul) (sY _ _ hl3)
      | none =>
        have es : LD.stepD wd ((fs, none) :: Rt) d = if wd d = true then (fs, none) :: Rt else (fs, some (d - 1)) :: Rt := rfl
        refine ⟨rfl, _, rfl, se _ _ (sm3 _ _ hc), hw d He _ (sm3.trans se) fun Hy sy => ⟨_, rfl, ?_⟩⟩
        have sY := se.trans sy
        cases hwd : wd d with
        | true =>
          rw [hwd, if_pos rfl] at es
          refine iteT ⟨_, rfl, _, rfl, iteF ?_⟩
          refine ⟨_, rfl, _, rfl, iteT ?_⟩
          refine ⟨rfl, _, rfl, sY _ _ (sm3 _ _ hc), hw d Hy _ (sm3.trans sY) fun Hw sw => ⟨_, rfl, ?_⟩⟩
          rw [hwd]
          refine iteF ?_
          have sW := sY.trans sw
          exact done _ (.ref t0 :: zt) _ (sm3.trans sW) (sW _ _ ha3) (by rw [es]; exact dR.imp fun _ _ z => z.ext sW) (Nat.le_succ_of_le hul) (sW _ _ hl3)
        | false =>
          rw [hwd, if_neg (by simp)] at es
          refine iteF ?_
          refine ⟨_, rfl, _, rfl, iteT ?_⟩
          refine ⟨rfl, _, rfl, sY _ _ (sm3 _ _ hc), hw d Hy _ (sm3.trans sY) fun Hw sw => ⟨_, rfl, ?_⟩⟩
          rw [hwd]
          refine iteT ?_
          have sW := sY.trans sw
          have haW := sW _ _ ha3
          refine ⟨_, rfl, 1, rfl, a, _, -1, _, rfl, rfl, SqL.of haW, at0, t0, _, 0, _, rfl, rfl, SqT.of (sW _ _ ht0), rfl, _, rfl, _, _, rfl, rfl, by show 2 ≤ sizeLine; decide, fun t nt => ?_⟩
          have st := same_upd (o := .tup [V.int fs, V.int (d - 1)]) nt
          have et := upd_same (H := Hw) (a := t) (o := .tup [V.int fs, V.int (d - 1)])
          have haT := st _ _ haW
          have hlT := st _ _ (sW _ _ hl3)
          have smT := (sm3.trans sW).trans st
          have hdT : DRs (upd Hw t (.tup [V.int fs, V.int (d - 1)])) zt Rt := (hzt.imp fun _ _ z => z.ext sW).imp fun _ _ z => z.ext st
          generalize upd Hw t (.tup [V.int fs, V.int (d - 1)]) = HT at *
          refine ⟨_, rfl, 1, rfl, a, _, -1, zt.length, rfl, rfl, haT, ?_, ?_⟩
          · rw [List.reverse_cons, show zt.length = zt.reverse.length from List.length_reverse.symm]
            exact ixN_last _ _
          · rw [List.reverse_cons, show zt.length = zt.reverse.length from List.length_reverse.symm, set_last]
            refine done _ (.ref t :: zt) _ ?_ (by rw [upd_same, List.reverse_cons]) ?_ (Nat.le_succ_of_le hul) (by rw [upd_ne nla]; exact hlT)
            · exact fun b o e => by rw [upd_ne (ne_of_none e na)]; exact smT b o e
            · rw [es]
              exact .cons ⟨t, rfl, by rw [upd_ne (ne_of et haT nofun)]; exact et⟩ (hdT.imp fun _ _ z => z.updL haT)
  · rintro σ H3 ⟨y3, y4, us, R, rfl, sm3, ha3, hd3, hR, hul, hl3⟩
    rw [List.length_map] at hul hR
    refine ⟨_, rfl, fin a us R ns H3 na sm3 hpw hmem' ?_ (by omega) ha3 hd3⟩
    rw [hR, List.take_of_length_le (Nat.le_refl _)]
end K14

set_option Elab.async false
set_option linter.all false
set_option maxRecDepth 100000
set_option maxHeartbeats 1600000
namespace K14
open PySem PySem.Spec PyProof.Rows L2 LT LamX
abbrev nRead : List Str := ["_law_told_here", "_law_one"]
theorem scRead : FnScope nRead ["_law_told_here"] (defScope sRead) := ⟨rfl, rfl, rfl, by decide +kernel, rfl, by decide +kernel, by decide +kernel⟩
/-! ### bounds -/
theorem rb_stepM {R : List Row} {r : Row} (h : ∀ u ∈ R, RB u) (hr : RB r) : (∀ u ∈ LD.stepM R r, RB u) ∧ (LD.stepM R r).length ≤ R.length + 1 := by
  cases R with
  | nil => exact ⟨fun u hu => by rw [List.mem_singleton.mp hu]; exact hr, Nat.le_refl _⟩
  | cons a t =>
    have es : LD.stepM (a :: t) r = if LD.meetsB a r = true then (a.1, LD.laterO a.2 r.2) :: t else r :: a :: t := rfl
    rw [es]
    split
    · refine ⟨fun u hu => ?_, Nat.le_succ _⟩
      rcases List.mem_cons.mp hu with rfl | hu
      · exact rb_later (h a (.head _)) hr
      · exact h u (.tail _ hu)
    · refine ⟨fun u hu => ?_, Nat.le_refl _⟩
      rcases List.mem_cons.mp hu with rfl | hu
      · exact hr
      · exact h u hu
theorem rb_foldM : ∀ (ss R : List Row), (∀ u ∈ R, RB u) → (∀ u ∈ ss, RB u) → (∀ u ∈ ss.foldl LD.stepM R, RB u) ∧ (ss.foldl LD.stepM R).length ≤ R.length + ss.length
  | [], R, h, _ => ⟨h, Nat.le_refl _⟩
  | r :: ss, R, h, hs => by
    obtain ⟨h1, h2⟩ := rb_stepM h (hs r (.head _))
    obtain ⟨g1, g2⟩ := rb_foldM ss (LD.stepM R r) h1 fun u hu => hs u (.tail _ hu)
    refine ⟨g1, ?_⟩
    rw [List.foldl_cons, List.length_cons]
    omega
theorem RB.sm {r : Row} (h : RB r) : Sm r := by
  have h0 := h.ok.1
  have h1 := h.b1
  refine ⟨by omega, fun j ej => ?_⟩
  have h2 := h.b2 j ej
  have h3 := h.ok.2 j ej
  omega
/-! ### the marks -/
theorem marks_nn {rs : List Row} (h : ∀ r ∈ rs, RB r) : ∀ k ∈ marks rs, 0 ≤ k := fun k hk => by
  unfold marks at hk
  rcases List.mem_append.mp hk with hk | hk
  · rcases List.mem_append.mp hk with hk | hk
    · rw [List.mem_singleton.mp hk]
      decide
    · obtain ⟨r, hr, rfl⟩ := List.mem_map.mp hk
      exact (h r hr).ok.1
  · obtain ⟨r, hr, e⟩ := List.mem_filterMap.mp hk
    obtain ⟨j, ej, rfl⟩ := Option.map_eq_some_iff.mp e
    have h1 := (h r hr).ok.1
    have h2 := (h r hr).ok.2 j ej
    omega
theorem marks_f {rs : List Row} : ∀ r ∈ rs, r.1 ∈ marks rs := fun r hr => List.mem_append_left _ (List.mem_append_right _ (List.mem_map.mpr ⟨r, hr, rfl⟩))
theorem marks_l {rs : List Row} : ∀ r ∈ rs, ∀ j, r.2 = some j → j + 1 ∈ marks rs := fun r hr j e => List.mem_append_right _ (List.mem_filterMap.mpr ⟨r, hr, by rw [e]; rfl⟩)
theorem marks_len (rs : List Row) : (marks rs).length ≤ 2 * rs.length + 1 := by
  unfold marks
  rw [List.length_append, List.length_append, List.length_map]
  have := fm_len (fun r : Row => r.2.map (· + 1)) rs
  show 1 + _ + _ ≤ _
  omega
theorem due_core {rs ss : List Row} {ns : List Int} (h : ∀ r ∈ rs, RB r) (hp : ∀ r, r ∈ ss ↔ r ∈ rs) (srt : ss.Pairwise (fun a b => a.1 ≤ b.1)) (pw : ns.Pairwise (· < ·)) (hm : ∀ k, k ∈ ns ↔ k ∈ marks rs) :
    ns.foldl (LD.stepD (LD.insB rs)) [] = mergedOf ss :=
  LD.core (fun r hr => (h r hr).ok) hp srt pw (fun n hn => marks_nn h n ((hm n).mp hn)) (fun r hr => (hm _).mpr (marks_f r hr)) (fun r hr j e => (hm _).mpr (marks_l r hr j e))
def srt (rs : List Row) : List Row := rs.mergeSort fun a b => decide (a.1 ≤ b.1)
theorem srt_mem (rs : List Row) (r : Row) : r ∈ srt rs ↔ r ∈ rs := (List.mergeSort_perm rs _).mem_iff
theorem srt_pw (rs : List Row) : (srt rs).Pairwise (fun a b => a.1 ≤ b.1) := by
  have sr := List.pairwise_mergeSort (le := fun a b : Row => decide (a.1 ≤ b.1)) (fun a b c h1 h2 => by
    simp only [decide_eq_true_eq] at *
    omega) (fun a b => by
    rw [Bool.or_eq_true, decide_eq_true_eq, decide_eq_true_eq]
    omega) rs
  exact sr.imp fun h => of_decide_eq_true h
theorem srt_len (rs : List Row) : (srt rs).length = rs.length := List.length_mergeSort rs
/-! ### the days of rows, told in one way (the last row ahead) -/
def canOf (rs : List Row) : List Row := mergedOf (srt rs)
theorem merged_spec {ss : List Row} (h : ∀ r ∈ ss, RB r) (pw : ss.Pairwise (fun a b => a.1 ≤ b.1)) : LD.Can (mergedOf ss) ∧ ∀ d, LD.Ins (mergedOf ss) d ↔ LD.Ins ss d := by
  obtain ⟨c1, c2⟩ := LD.foldM_ok ss [] trivial (fun r hr => (h r hr).ok) pw fun u t e => by cases e
  refine ⟨c1, fun d => (c2 d).trans ⟨fun z => z.elim (fun y => absurd y LD.not_nil) id, .inr⟩⟩
theorem ins_mem {rs ss : List Row} (h : ∀ r, r ∈ ss ↔ r ∈ rs) (d : Int) : LD.Ins ss d ↔ LD.Ins rs d :=
  ⟨fun ⟨r, hr, z⟩ => ⟨r, (h r).mp hr, z⟩, fun ⟨r, hr, z⟩ => ⟨r, (h r).mpr hr, z⟩⟩
theorem canOf_spec {rs : List Row} (h : ∀ r ∈ rs, RB r) : LD.Can (canOf rs) ∧ ∀ d, LD.Ins (canOf rs) d ↔ LD.Ins rs d := by
  obtain ⟨c1, c2⟩ := merged_spec (ss := srt rs) (fun r hr => h r ((srt_mem rs r).mp hr)) (srt_pw rs)
  exact ⟨c1, fun d => (c2 d).trans (ins_mem (srt_mem rs) d)⟩
theorem can_eq {rs ss : List Row} (h : ∀ r ∈ rs, RB r) (hp : ∀ r, r ∈ ss ↔ r ∈ rs) (pw : ss.Pairwise (fun a b => a.1 ≤ b.1)) : mergedOf ss = canOf rs := by
  obtain ⟨c1, c2⟩ := merged_spec (ss := ss) (fun r hr => h r ((hp r).mp hr)) pw
  obtain ⟨g1, g2⟩ := canOf_spec h
  exact LD.uniq c1 g1 fun d => by rw [c2, g2, ins_mem hp]
theorem canOf_congr {rs ss : List Row} (h : ∀ r ∈ rs, RB r) (h' : ∀ r ∈ ss, RB r) (e : ∀ d, LD.Ins rs d ↔ LD.Ins ss d) : canOf rs = canOf ss := by
  obtain ⟨c1, c2⟩ := canOf_spec h
  obtain ⟨g1, g2⟩ := canOf_spec h'
  exact LD.uniq c1 g1 fun d => by rw [c2, g2, e]
theorem canOf_rb {rs : List Row} (h : ∀ r ∈ rs, RB r) : (∀ r ∈ canOf rs, RB r) ∧ (canOf rs).length ≤ rs.length := by
  obtain ⟨g1, g2⟩ := rb_foldM (srt rs) [] nofun fun u hu => h u ((srt_mem rs u).mp hu)
  rw [srt_len, List.length_nil, Nat.zero_add] at g2
  exact ⟨g1, g2⟩
theorem canOf_again {rs : List Row} (h : ∀ r ∈ rs, RB r) : canOf (canOf rs).reverse = canOf rs :=
  canOf_congr (fun r hr => (canOf_rb h).1 r (List.mem_reverse.mp hr)) h fun d => by
    rw [← (canOf_spec h).2 d]
    exact ins_mem (fun r => List.mem_reverse) d
theorem DRs.dp {K : PySem.W.Frag} {H : Hp} {vs : List V} {rs : List Row} (h : DRs H vs rs) : DpAll K H vs (rs.map rowD) := by
  induction h with
  | nil => exact .nil
  | cons a _ ih =>
    obtain ⟨t, rfl, ht⟩ := a
    exact .cons (.tup (SqT.of ht) (.cons (.int _) (.cons (endD_dp _) .nil))) ih
theorem DRs.ext {H H' : Hp} {vs : List V} {rs : List Row} (h : DRs H vs rs) (e : ExtN H H') : DRs H' vs rs := h.imp fun v r ⟨t, ev, ht⟩ => ⟨t, ev, e _ _ ht nofun⟩
/-! ### what is new -/
def NewN (H : Hp) (a : Addr) : Prop := ∀ o, H a = some o → ∃ ps, o = .tbl ps
theorem newN_of {H H1 : Hp} {a : Addr} (e : ExtN H H1) (n : H1 a = none) : NewN H a := fun o h => by
  cases o with
  | tbl ps => exact ⟨ps, rfl⟩
  | _ =>
    have := e a _ h nofun
    rw [n] at this
    cases this
theorem NewN.of {H : Hp} {a : Addr} (n : H a = none) : NewN H a := fun o h => by rw [n] at h; cases h
theorem NewN.back {H H1 : Hp} {a : Addr} (e : ExtN H H1) (n : NewN H1 a) : NewN H a := fun o h => by
  cases o with
  | tbl ps => exact ⟨ps, rfl⟩
  | _ => exact absurd (n _ (e a _ h nofun)) (fun ⟨_, z⟩ => nomatch z)
theorem extN_updW {H H' : Hp} {a : Addr} {o : HO} (e : ExtN H H') (n : NewN H a) : ExtN H (upd H' a o) := fun b u h t => by
  rw [upd_ne (fun z => by
    subst z
    obtain ⟨ps, z⟩ := n _ h
    exact t ps z)]
  exact e b u h t
theorem ne_self (z : Str) : (!decide (V.str z = V.str z)) = false := by simp
/-- a last day of merged rows is one of theirs -/
theorem last_stepM {R : List Row} {r : Row} {Pj : Int → Prop} (h : ∀ u ∈ R, ∀ j, u.2 = some j → Pj j) (hr : ∀ j, r.2 = some j → Pj j) : ∀ u ∈ LD.stepM R r, ∀ j, u.2 = some j → Pj j := by
  cases R with
  | nil =>
    intro u hu
    rw [List.mem_singleton.mp hu]
    exact hr
  | cons a t =>
    have es : LD.stepM (a :: t) r = if LD.meetsB a r = true then (a.1, LD.laterO a.2 r.2) :: t else r :: a :: t := rfl
    rw [es]
    split
    · intro u hu j ej
      rcases List.mem_cons.mp hu with rfl | hu
      · obtain ⟨x, y, ex, ey, _, _, rfl | rfl⟩ := LD.laterO_le ej
        · exact h a (.head _) _ ex
        · exact hr _ ey
      · exact h u (.tail _ hu) j ej
    · intro u hu
      rcases List.mem_cons.mp hu with rfl | hu
      · exact hr
      · exact h u hu
theorem last_foldM {Pj : Int → Prop} : ∀ (ss R : List Row), (∀ u ∈ R, ∀ j, u.2 = some j → Pj j) → (∀ u ∈ ss, ∀ j, u.2 = some j → Pj j) → ∀ u ∈ ss.foldl LD.stepM R, ∀ j, u.2 = some j → Pj j
  | [], R, h, _ => h
  | r :: ss, R, h, hs => last_foldM ss (LD.stepM R r) (last_stepM h (hs r (.head _))) fun u hu => hs u (.tail _ hu)
theorem last_canOf {Pj : Int → Prop} {rs : List Row} (h : ∀ u ∈ rs, ∀ j, u.2 = some j → Pj j) : ∀ u ∈ canOf rs, ∀ j, u.2 = some j → Pj j :=
  last_foldM (srt rs) [] nofun fun u hu => h u ((srt_mem rs u).mp hu)
section
variable {P : Program} {w : World} {K : PySem.W.Frag} {mg : Str → Option Value} {base : Heap} {C CN : Addr} {cM PM cY PY : Addr}
def spRead (C : Addr) : Sp := fun vs H Q _ => ∃ q zs rs, vs = [.ref q] ∧ H q = some (.lst zs) ∧ SRs C H zs rs ∧ rs.length ≤ 500 ∧ ∀ H', Same H H' → Q (.str (shRows rs)) H'
theorem ok_read {f : Addr} {fd : FuncData} (F : Fun K "_law_read" "_law_read" sRead f fd) (T : Tx mg) (S : Pm K mg C CN) : FnG P w K mg base CX0 2 f fd ["_law_told_here"] (spRead C) := by
  obtain ⟨_, _, F1⟩ := S.first
  obtain ⟨_, _, F2⟩ := S.last
  have Z := S.ct
  have G1 : FnOk P w K mg base CX0 1 _ _ ["self"] (spGet C fun a _ => a) := ok_first F1.fn Z
  have G2 : FnOk P w K mg base CX0 1 _ _ ["self"] (spGet C fun _ b => b) := ok_last F2.fn Z
  refine okG F scRead (fun h => ?_) (fun cdv A outer s H vs Q E hG hr h => ?_)
  · obtain ⟨q, zs, rs, rfl, _⟩ := h
    rfl
  · obtain ⟨q, zs, rs, rfl, hq, hz, hl, fin⟩ := h
    have nd := scRead.nd
    have hu := hr.units
    have hG2 : (cxOf CX0 P w K mg base nRead "_law_read" (defScope sRead) f cdv A outer s H E).nox.A.guards = some [] := hG
    refine ⟨_, pss_cons (ps_if (PW.pt (pw_or (pt_not (pt_val (pe_callB call_isi (by rfl) T.isi (by decide +kernel) (pa_cons (pv 0) (pa_cons (pe_bltn (v := .ty "list") (by rfl) T.list (by decide +kernel) rfl) pa_nil)))))
          (pw_or1 (pt_not (pt_val (pe_callB (cr_all rfl) (by rfl) T.all (by decide +kernel) (pa_cons (pe_lc (own := [("_law_one", 1)]) (g := gName 1) (tt := tYes) rfl nd (pi_list (pv 0)) (blkOk_by (N := nRead) (sc := defScope sRead) (by decide +kernel))
            (fun _ _ _ _ _ => pg_name (i := 1) nd rfl (Or.inl rfl)) (fun _ _ _ _ _ => pts_nil)
            (fun _ _ _ _ _ => pe_callB (r := rIsi K) call_isi (by rfl) T.isi (by decide +kernel) (pa_cons (pv 1) (pa_cons (pe_glob (v := .ref C) (by rfl) Z.mgC rfl) pa_nil)))) pa_nil))))))) (pss_one (ps_ret pe_non)) pss_nil)
      (pss_one (ps_ret (pe_callB (call_reprRows hG2 hu) (by rfl) T.repr (by decide +kernel) (pa_cons (pe_lc (own := [("_law_one", 1)]) (g := gName 1) (tt := tYes) rfl nd (pi_list (pv 0)) (blkOk_by (N := nRead) (sc := defScope sRead) (by decide +kernel))
            (fun _ _ _ _ _ => pg_name (i := 1) nd rfl (Or.inl rfl)) (fun _ _ _ _ _ => pts_nil)
            (fun _ _ _ _ _ => pe_tup (pa_cons (pe_meth0 (pv 1) Z.cl F1.me G1 hr F1.bd .nil pass0) (pa_cons (pe_meth0 (pv 1) Z.cl F2.me G2 hr F2.bd .nil pass0) pa_nil)))) pa_nil)))), ?_⟩
    have zl := hz.length
    refine ⟨_, rfl, .ref q, .ty "list", .type "list", _, true, rfl, .ty _, .base (.lst hq), kit_ty (show kitB "list" "list" = some true by decide +kernel), _, rfl, ?_⟩
    refine ⟨_, rfl, q, rfl, ⟨_, SqL.of hq⟩, fun D nD => ?_⟩
    refine lc_list (K := K) (a := q) (xs := zs) (fun i H' => Same H H' ∧ H' D = some (.lst (List.replicate i (.bl true)))) ⟨same_upd nD, upd_same⟩ (fun i H' _ p => p.1.seq (SqL.of hq)) ?_ ?_
    · rintro i v H2 hv ⟨sm, eD⟩
      obtain ⟨r, er, sr⟩ := hz.at hv
      obtain ⟨x, dx, rfl, hx, _⟩ := (sr.ext (extN_same sm)).st
      have hi : i < zs.length := (List.getElem?_eq_some_iff.mp hv).1
      refine ⟨rfl, _, rfl, .ref x, .ref C, .ref C, .ref C, true, rfl, .own C, .base (.ins hx Z.cl Z.ha Z.hn Z.ht Z.hm), S.own, ?_⟩
      refine ⟨_, eD, ?_, fun b o e => ?_, ?_⟩
      · rw [List.length_replicate]
        exact small1000 (by omega)
      · rw [upd_ne (ne_of_none e nD)]
        exact sm b o e
      · rw [upd_same, List.replicate_succ']
    rintro H2 ⟨sm2, eD⟩
    refine ⟨D, List.replicate zs.length true, rfl, SqL.of (by rw [List.map_replicate]; exact eD), _, rfl, ?_⟩
    rw [all_true _ fun b hb => List.eq_of_mem_replicate hb]
    refine iteF ?_
    refine ⟨_, rfl, q, rfl, ⟨_, SqL.of (sm2 _ _ hq)⟩, fun D2 nD2 => ?_⟩
    refine lc_list (K := K) (a := q) (xs := zs) (fun i H' => Same H2 H' ∧ ∃ us, H' D2 = some (.lst us) ∧ DRs H' us (rs.take i) ∧ us.length = i) ⟨same_upd nD2, [], upd_same, .nil, rfl⟩ (fun i H' _ p => p.1.seq (SqL.of (sm2 _ _ hq))) ?_ ?_
    · rintro i v H3 hv ⟨sm, us, hD, hu', hul⟩
      obtain ⟨r, er, sr⟩ := hz.at hv
      obtain ⟨x, dx, rfl, hx, st⟩ := (sr.ext (extN_same (sm2.trans sm))).st
      have hi : i < zs.length := (List.getElem?_eq_some_iff.mp hv).1
      refine ⟨rfl, _, rfl, x, dx, _, rfl, hx, rfl, x, _, _, rfl, st, _, rfl, x, dx, _, rfl, hx, rfl, x, _, _, rfl, st, by show 2 ≤ sizeLine; decide, fun t nt => ?_⟩
      have s2 := same_upd (o := .tup [.int r.1, enc r.2]) nt
      have hD2 := s2 _ _ hD
      have ht2 := upd_same (H := H3) (a := t) (o := .tup [.int r.1, enc r.2])
      generalize upd H3 t (.tup [.int r.1, enc r.2]) = Hy at *
      refine ⟨us, hD2, small1000 (by omega), fun b o e => ?_, us ++ [.ref t], upd_same, ?_, by rw [List.length_append, hul]; rfl⟩
      · rw [upd_ne (ne_of_none e nD2)]
        exact s2 _ _ (sm b o e)
      · rw [List.take_add_one, er]
        refine DRs.append (hu'.imp fun v r z => (z.ext s2).updL hD2) (.cons ⟨t, rfl, ?_⟩ .nil)
        rw [upd_ne (ne_of ht2 hD2 nofun)]
        exact ht2
    rintro H3 ⟨sm3, us, hD, hu', hul⟩
    rw [List.take_of_length_le (by omega)] at hu'
    exact ⟨.ref D2, rs, rfl, .lst (SqL.of hD) hu'.dp, fun r hr => (hz.rb r hr).sm, hl, fin H3 (sm2.trans sm3)⟩
end
end K14

set_option Elab.async false
set_option linter.all false
set_option maxRecDepth 100000
set_option maxHeartbeats 3200000
namespace K14
open PySem PySem.Spec PyProof.Rows L2 LT LamX
abbrev nOver : List Str := ["some", "others", "found", "here", "there", "first", "last", "ends_here", "ends_there"]
abbrev nGaps : List Str := ["stretches", "found", "start", "stretch"]
theorem scEarly : FnScope ["one", "other"] ["one", "other"] (defScope sEarly) := ⟨rfl, rfl, rfl, by decide +kernel, rfl, by decide +kernel, by decide +kernel⟩
theorem scOver : FnScope nOver ["some", "others"] (defScope sOver) := ⟨rfl, rfl, rfl, by decide +kernel, rfl, by decide +kernel, by decide +kernel⟩
theorem scGaps : FnScope nGaps ["stretches"] (defScope sGaps) := ⟨rfl, rfl, rfl, by decide +kernel, rfl, by decide +kernel, by decide +kernel⟩
theorem enc_eq {x y : Option Int} : decide (enc x = enc y) = decide (x = y) := by
  cases x <;> cases y <;> simp [enc]
theorem enc_scal (x y : Option Int) : scal (enc x) (enc y) = true := by cases x <;> cases y <;> rfl
section
variable {P : Program} {w : World} {K : PySem.W.Frag} {mg : Str → Option Value} {base : Heap} {C CN : Addr} {cM PM cY PY : Addr}
def spEarly : Sp := fun vs H Q _ => ∃ a b, vs = [enc a, enc b] ∧ Q (enc (LD.earlierO a b)) H
theorem ok_early {f : Addr} {fd : FuncData} {k : Nat} (F : Fun K "earlier_end" "earlier_end" sEarly f fd) (T : Tx mg) : FnOk P w K mg base CX0 (k + 1) f fd ["one", "other"] spEarly := by
  refine F.ok scEarly (fun vs H Q E h => ?_) (fun cdv A outer s H vs Q E hr h => ?_)
  · obtain ⟨a, b, rfl, _⟩ := h
    rfl
  · obtain ⟨a, b, rfl, q⟩ := h
    refine ⟨_, pss_cons (ps_if (pt_cmpR op_isN (pv 0) pe_non (nomark _)) (pss_one (ps_ret (pv 1))) pss_nil)
      (pss_cons (ps_if (pt_cmpR op_isN (pv 1) pe_non (nomark _)) (pss_one (ps_ret (pv 0))) pss_nil)
      (pss_one (ps_ret (pe_callB (call_min2 rfl) (by rfl) T.min (by decide +kernel) (pa_cons (pv 0) (pa_cons (pv 1) pa_nil)))))), ?_⟩
    refine ⟨_, rfl, rfl, _, rfl, ?_⟩
    cases a with
    | none => exact ⟨_, rfl, q⟩
    | some i =>
      refine ⟨_, rfl, rfl, _, rfl, ?_⟩
      cases b with
      | none => exact ⟨_, rfl, q⟩
      | some j => exact ⟨_, rfl, _, rfl, i, j, rfl, q⟩
structure Po (K : PySem.W.Frag) (mg : Str → Option Value) (C CN : Addr) : Prop extends Pm K mg C CN where
  early : ∃ f fd, Has K mg "earlier_end" ["one", "other"] sEarly f fd
def spOver (C : Addr) : Sp := fun vs H Q _ => ∃ p q xs ys S O, vs = [.ref p, .ref q] ∧ H p = some (.lst xs) ∧ SRs C H xs S ∧ H q = some (.lst ys) ∧ SRs C H ys O ∧ S.length + O.length ≤ 900 ∧
  ∀ a zs H', H a = none → Same H H' → H' a = some (.lst zs) → SRs C H' zs (LD.ov S O) → Q (.ref a) H'
theorem drop_cons {α : Type} {l : List α} {i : Nat} {v : α} (h : l[i]? = some v) : l.drop i = v :: l.drop (i + 1) := by
  obtain ⟨hi, rfl⟩ := List.getElem?_eq_some_iff.mp h
  exact List.drop_eq_getElem_cons hi
theorem ok_over {f : Addr} {fd : FuncData} (F : Fun K "overlaps" "overlaps" sOver f fd) (T : Tx mg) (S : Po K mg C CN) : FnOk P w K mg base CX0 6 f fd ["some", "others"] (spOver C) := by
  obtain ⟨_, _, F1⟩ := S.first
  obtain ⟨_, _, F2⟩ := S.last
  obtain ⟨_, _, FE⟩ := S.early
  obtain ⟨_, _, FD⟩ := S.day
  obtain ⟨_, _, FW⟩ := S.whole
  obtain ⟨_, _, M, FI, bI⟩ := S.init
  have Z := S.ct
  have G1 : FnOk P w K mg base CX0 1 _ _ ["self"] (spGet C fun a _ => a) := ok_first F1.fn Z
  have G2 : FnOk P w K mg base CX0 1 _ _ ["self"] (spGet C fun _ b => b) := ok_last F2.fn Z
  have GE : FnOk P w K mg base CX0 1 _ _ ["one", "other"] spEarly := ok_early FE.fn T
  have GI : FnOk P w K mg base (L2.CX P w) 4 _ _ ["self", "first", "last"] (spInit C CN) := ok_init FI T Z FD FW
  refine F.ok scOver (fun vs H Q E h => ?_) (fun cdv A outer s H vs Q E hr h => ?_)
  · obtain ⟨p, q, xs, ys, S, O, rfl, _⟩ := h
    rfl
  · obtain ⟨p, q, xs, ys, S, O, rfl, hp, hx, hq, hy, hl, fin⟩ := h
    have nd := scOver.nd
    have hr1 : Room 1 _ := hr.mono (by decide)
    refine ⟨_, pss_cons (ps_set (i := 2) nd rfl (.inl rfl) (pe_lst pa_nil))
      (pss_cons (ps_asg2 pe_int (pg_name (i := 3) nd rfl (.inl rfl)) (pg_name (i := 4) nd rfl (.inl rfl)))
      (pss_cons (ps_while PassesOwn.never (PW.pt (pw_and (pt_cmpR op_lt (pv 3) (pe_callB call_len_seq (by rfl) T.len PySem.boot_len (pa_cons (pv 0) pa_nil)) (nomark _)) (pw_and1 (pt_cmpR op_lt (pv 4) (pe_callB call_len_seq (by rfl) T.len PySem.boot_len (pa_cons (pv 1) pa_nil)) (nomark _)))))
        (pss_cons (ps_set (i := 5) nd rfl (.inl rfl) (pe_callB (call_max2 rfl) (by rfl) T.max (by decide +kernel) (pa_cons (pe_meth0 (pe_ix ix_list (pv 0) (pv 3) (fun _ _ => rfl)) Z.cl F1.me G1 hr1 F1.bd .nil pass0) (pa_cons (pe_meth0 (pe_ix ix_list (pv 1) (pv 4) (fun _ _ => rfl)) Z.cl F1.me G1 hr1 F1.bd .nil pass0) pa_nil))))
        (pss_cons (ps_set (i := 6) nd rfl (.inl rfl) (pe_call GE hr1 (by rfl) FE.gl FE.fn.kp FE.bd .nil pass0 (pa_cons (pe_meth0 (pe_ix ix_list (pv 0) (pv 3) (fun _ _ => rfl)) Z.cl F2.me G2 hr1 F2.bd .nil pass0) (pa_cons (pe_meth0 (pe_ix ix_list (pv 1) (pv 4) (fun _ _ => rfl)) Z.cl F2.me G2 hr1 F2.bd .nil pass0) pa_nil))))
        (pss_cons (ps_if (PW.pt (pw_or (pt_cmpR op_isN (pv 6) pe_non (nomark _)) (pw_or1 (pt_cmpR op_le (pv 5) (pv 6) (nomark _))))) (pss_one (ps_expr (pe_bm PySem.F.plainAttrs_list PySem.F.slot_list_append PySem.F.type_list_append mt_append (pv 2) (pa_cons (pe_make M GI hr (by rfl) Z.mgC bI .nil passL (pa_cons (pv 5) (pa_cons (pv 6) pa_nil))) pa_nil)))) pss_nil)
        (pss_cons (ps_set (i := 7) nd rfl (.inl rfl) (pe_cmpR op_eq (pe_meth0 (pe_ix ix_list (pv 0) (pv 3) (fun _ _ => rfl)) Z.cl F2.me G2 hr1 F2.bd .nil pass0) (pv 6) (nomark _)))
        (pss_cons (ps_set (i := 8) nd rfl (.inl rfl) (pe_cmpR op_eq (pe_meth0 (pe_ix ix_list (pv 1) (pv 4) (fun _ _ => rfl)) Z.cl F2.me G2 hr1 F2.bd .nil pass0) (pv 6) (nomark _)))
        (pss_cons (ps_if (pt_val (pv 7)) (pss_one (ps_aug (i := 3) nd rfl (.inl rfl) pe_int ip_add)) pss_nil)
        (pss_one (ps_if (pt_val (pv 8)) (pss_one (ps_aug (i := 4) nd rfl (.inl rfl) pe_int ip_add)) pss_nil)))))))))
      (pss_one (ps_ret (pv 2))))), ?_⟩
    refine ⟨by show 0 ≤ sizeLine; decide, fun a na => ?_⟩
    have s0 := same_upd (o := .lst []) na
    have e0 := upd_same (H := H) (a := a) (o := .lst [])
    generalize upd H a (.lst []) = H0 at *
    have xl := hx.length
    have yl := hy.length
    refine ⟨fun m σ H' => ∃ (i j : Nat) (y5 y6 y7 y8 : Option V) (us : List V) (R : List Row), σ = [some (.ref p), some (.ref q), some (.ref a), some (.int i), some (.int j), y5, y6, y7, y8] ∧ m = (S.length - i) + (O.length - j) ∧ Same H H' ∧ H' a = some (.lst us) ∧ SRs C H' us R ∧
        R ++ LD.ov (S.drop i) (O.drop j) = LD.ov S O, ⟨_, 0, 0, none, none, none, none, [], [], rfl, rfl, s0, e0, .nil, rfl⟩, ?_⟩
    rintro m σ H1 ⟨i, j, y5, y6, y7, y8, us, R, rfl, rfl, s1, ha, hu, hov⟩
    refine ⟨_, rfl, _, rfl, p, _, rfl, .inl (SqL.of (s1 _ _ hp)), _, _, rfl, rfl, _, rfl, ?_⟩
    have stop : (S.drop i = [] ∨ O.drop j = []) → R = LD.ov S O := fun h => by
      rw [← hov]
      rcases h with h | h
      · rw [h, LD.ov_nil, List.append_nil]
      · rw [h, LD.ov_nil2, List.append_nil]
    by_cases hi : i < xs.length
    · rw [decide_eq_true (show ((i : Nat) : Int) < ((xs.length : Nat) : Int) by omega)]
      refine iteT ?_
      refine ⟨_, rfl, _, rfl, q, _, rfl, .inl (SqL.of (s1 _ _ hq)), _, _, rfl, rfl, _, rfl, ?_⟩
      by_cases hj : j < ys.length
      · rw [decide_eq_true (show ((j : Nat) : Int) < ((ys.length : Nat) : Int) by omega)]
        refine iteT ?_
        have exi : xs[i]? = some xs[i] := List.getElem?_eq_getElem hi
        have eyj : ys[j]? = some ys[j] := List.getElem?_eq_getElem hj
        obtain ⟨r, er, sr⟩ := hx.at exi
        obtain ⟨u, eu, su⟩ := hy.at eyj
        have rbr := sr.1
        have rbu := su.1
        obtain ⟨x, dx, evx, hxx, stx⟩ := (sr.ext (extN_same s1)).st
        obtain ⟨y, dy, evy, hyy, sty⟩ := (su.ext (extN_same s1)).st
        have atx : atI xs ((i : Nat) : Int) = some (.ref x) := atI_nat (by rw [exi, evx])
        have aty : atI ys ((j : Nat) : Int) = some (.ref y) := atI_nat (by rw [eyj, evy])
        have dS := drop_cons er
        have dO := drop_cons eu
        have hp1 := s1 _ _ hp
        have hq1 := s1 _ _ hq
        have hr0 := rbr.ok.1
        have hu0 := rbu.ok.1
        have hrb := rbr.b1
        have hub := rbu.b1
        refine ⟨fun σ' H' => ∃ (i' j' : Nat) (y5 y6 y7 y8 : Option V) (us : List V) (R : List Row), σ' = [some (.ref p), some (.ref q), some (.ref a), some (.int i'), some (.int j'), y5, y6, y7, y8] ∧ (S.length - i') + (O.length - j') < (S.length - i) + (O.length - j) ∧ Same H H' ∧ H' a = some (.lst us) ∧ SRs C H' us R ∧
          R ++ LD.ov (S.drop i') (O.drop j') = LD.ov S O, fun σ' H' ⟨i', j', z5, z6, z7, z8, us', R', h1, h2, h3⟩ => ⟨_, h2, i', j', z5, z6, z7, z8, us', R', h1, rfl, h3⟩, ?_⟩
        refine ⟨_, rfl, _, rfl, p, _, _, _, rfl, rfl, SqL.of hp1, atx, x, dx, _, rfl, hxx, rfl, x, _, _, rfl, stx, ?_⟩
        refine ⟨_, rfl, _, rfl, q, _, _, _, rfl, rfl, SqL.of hq1, aty, y, dy, _, rfl, hyy, rfl, y, _, _, rfl, sty, r.1, u.1, rfl, ?_⟩
        refine ⟨_, rfl, _, rfl, p, _, _, _, rfl, rfl, SqL.of hp1, atx, x, dx, _, rfl, hxx, rfl, x, _, _, rfl, stx, ?_⟩
        refine ⟨_, rfl, _, rfl, q, _, _, _, rfl, rfl, SqL.of hq1, aty, y, dy, _, rfl, hyy, rfl, y, _, _, rfl, sty, r.2, u.2, rfl, ?_⟩
        have hov2 := hov
        rw [dS, dO, LD.ov_cons, ← dS, ← dO] at hov2
        have hor := LD.earlier_or r.2 u.2
        have hb2 : ∀ k, LD.earlierO r.2 u.2 = some k → k ≤ 10 ^ 58 := fun k ek => by
          rcases hor with e | e
          · exact rbr.b2 k (e.trans ek)
          · exact rbu.b2 k (e.trans ek)
        have fe : (if u.1 > r.1 then u.1 else r.1) = LD.mx r.1 u.1 := rfl
        have f0 : 0 ≤ LD.mx r.1 u.1 ∧ LD.mx r.1 u.1 ≤ 10 ^ 58 := by
          unfold LD.mx
          split <;> omega
        rw [fe]
        generalize LD.mx r.1 u.1 = fs at *
        generalize LD.earlierO r.2 u.2 = l at *
        have ul : us.length ≤ 900 := by
          have h1 := hu.length
          have h2 := LD.ov_len _ S O (Nat.le_refl _)
          have h3 := congrArg List.length hov
          rw [List.length_append] at h3
          omega
        apply join (α := List V × List Row) (J := fun z Hx => Same H Hx ∧ Hx a = some (.lst z.1) ∧ SRs C Hx z.1 z.2 ∧ z.2 = R ++ (if LD.fitsB fs l = true then [(fs, l)] else [])) (sl := fun _ => [some (.ref p), some (.ref q), some (.ref a), some (.int i), some (.int j), some (.int fs), some (enc l), y7, y8])
        · intro h
          have put : ∀ (z : Addr) (H3 : Hp), LD.fitsB fs l = true → Same H1 H3 → SR C H3 (.ref z) (fs, l) → Same H (upd H3 a (.lst (us ++ [.ref z]))) ∧ upd H3 a (.lst (us ++ [.ref z])) a = some (.lst (us ++ [.ref z])) ∧ SRs C (upd H3 a (.lst (us ++ [.ref z]))) (us ++ [.ref z]) (R ++ [(fs, l)]) ∧ R ++ [(fs, l)] = R ++ (if LD.fitsB fs l = true then [(fs, l)] else []) := fun z H3 hf s3 sr3 =>
            ⟨fun b o e => by rw [upd_ne (ne_of_none e na)]; exact s3 _ _ (s1 b o e), upd_same, ((hu.ext (extN_same s3)).updL (s3 _ _ ha)).append (.cons (sr3.updL (s3 _ _ ha)) .nil), by rw [if_pos hf]⟩
          have skip : LD.fitsB fs l = false → Same H H1 ∧ H1 a = some (.lst us) ∧ SRs C H1 us R ∧ R = R ++ (if LD.fitsB fs l = true then [(fs, l)] else []) := fun hf => ⟨s1, ha, hu, by rw [hf, if_neg (by simp), List.append_nil]⟩
          refine ⟨_, rfl, rfl, _, rfl, ?_⟩
          cases l with
          | none =>
            refine iteT (iteT ?_)
            refine ⟨_, rfl, .inl ⟨rfl, _, SqL.of ha⟩, _, rfl, _, rfl, fun z dz nz ndz nez => ?_⟩
            exact mk_init (r := (fs, none)) nz ndz nez ⟨⟨f0.1, nofun⟩, f0.2, nofun⟩ fun H3 s3 sr3 => ⟨rfl, a, _, _, rfl, rfl, s3 _ _ ha, small1000 (by omega), h (us ++ [.ref z], R ++ [(fs, none)]) _ (put z H3 rfl s3 sr3)⟩
          | some k =>
            refine iteF ?_
            refine ⟨_, rfl, _, rfl, fs, k, rfl, rfl, _, rfl, ?_⟩
            cases hf : decide (fs ≤ k) with
            | true =>
              refine iteT ?_
              refine ⟨_, rfl, .inl ⟨rfl, _, SqL.of ha⟩, _, rfl, _, rfl, fun z dz nz ndz nez => ?_⟩
              exact mk_init (r := (fs, some k)) nz ndz nez ⟨⟨f0.1, fun m em => by cases em; exact of_decide_eq_true hf⟩, f0.2, hb2⟩ fun H3 s3 sr3 => ⟨rfl, a, _, _, rfl, rfl, s3 _ _ ha, small1000 (by omega), h (us ++ [.ref z], R ++ [(fs, some k)]) _ (put z H3 hf s3 sr3)⟩
            | false => exact iteF (h (us, R) H1 (skip hf))
        rintro ⟨us2, R2⟩ H2 ⟨s2, ha2, hu2, eR2⟩
        have ha2 : H2 a = some (.lst us2) := ha2
        have hu2 : SRs C H2 us2 R2 := hu2
        have eR2 : R2 = R ++ (if LD.fitsB fs l = true then [(fs, l)] else []) := eR2
        obtain ⟨x', dx', evx', hxx', stx'⟩ := (sr.ext (extN_same s2)).st
        obtain ⟨y', dy', evy', hyy', sty'⟩ := (su.ext (extN_same s2)).st
        rw [evx] at evx'
        cases evx'
        rw [evy] at evy'
        cases evy'
        refine ⟨_, rfl, _, rfl, p, _, _, _, rfl, rfl, SqL.of (s2 _ _ hp), atx, x, dx', _, rfl, hxx', rfl, x, _, _, rfl, stx', _, rfl, enc_scal _ _, ?_⟩
        refine ⟨_, rfl, _, rfl, q, _, _, _, rfl, rfl, SqL.of (s2 _ _ hq), aty, y, dy', _, rfl, hyy', rfl, y, _, _, rfl, sty', _, rfl, enc_scal _ _, ?_⟩
        rw [enc_eq, enc_eq]
        have hi' : i < S.length := by omega
        have hj' : j < O.length := by omega
        have done : ∀ (i' j' : Nat) (b1 b2 : Bool), i' = (if r.2 = l then i + 1 else i) → j' = (if u.2 = l then j + 1 else j) → ∃ (i'' j'' : Nat) (y5 y6 y7 y8 : Option V) (us : List V) (R : List Row), ([some (.ref p), some (.ref q), some (.ref a), some (.int i'), some (.int j'), some (.int fs), some (enc l), some (.bl b1), some (.bl b2)] : L2.St) = [some (.ref p), some (.ref q), some (.ref a), some (.int i''), some (.int j''), y5, y6, y7, y8] ∧
            (S.length - i'') + (O.length - j'') < (S.length - i) + (O.length - j) ∧ Same H H2 ∧ H2 a = some (.lst us) ∧ SRs C H2 us R ∧ R ++ LD.ov (S.drop i'') (O.drop j'') = LD.ov S O := by
          intro i' j' b1 b2 ei ej
          refine ⟨i', j', _, _, _, _, us2, R2, rfl, ?_, s2, ha2, hu2, ?_⟩
          · rcases hor with e | e
            · rw [if_pos e] at ei
              split at ej <;> omega
            · rw [if_pos e] at ej
              split at ei <;> omega
          · rw [eR2, List.append_assoc, ← hov2]
            congr 2
            have e1 : S.drop i' = if r.2 = l then S.drop (i + 1) else S.drop i := by
              rw [ei]
              split <;> rfl
            have e2 : O.drop j' = if u.2 = l then O.drop (j + 1) else O.drop j := by
              rw [ej]
              split <;> rfl
            rw [e1, e2]
        by_cases e1 : r.2 = l
        · rw [decide_eq_true e1]
          refine ⟨_, rfl, _, rfl, iteT ⟨_, rfl, _, _, rfl, rfl, ?_⟩⟩
          by_cases e2 : u.2 = l
          · rw [decide_eq_true e2]
            refine ⟨_, rfl, _, rfl, iteT ⟨_, rfl, _, _, rfl, rfl, ?_⟩⟩
            exact done (i + 1) (j + 1) true true (by rw [if_pos e1]) (by rw [if_pos e2])
          · rw [decide_eq_false e2]
            refine ⟨_, rfl, _, rfl, iteF ?_⟩
            exact done (i + 1) j true false (by rw [if_pos e1]) (by rw [if_neg e2])
        · rw [decide_eq_false e1]
          refine ⟨_, rfl, _, rfl, iteF ?_⟩
          by_cases e2 : u.2 = l
          · rw [decide_eq_true e2]
            refine ⟨_, rfl, _, rfl, iteT ⟨_, rfl, _, _, rfl, rfl, ?_⟩⟩
            exact done i (j + 1) false true (by rw [if_neg e1]) (by rw [if_pos e2])
          · exact absurd (hor.resolve_left e1) e2
      · rw [decide_eq_false (show ¬ ((j : Nat) : Int) < ((ys.length : Nat) : Int) by omega)]
        refine iteF ⟨_, rfl, ?_⟩
        have := stop (.inr (List.drop_eq_nil_of_le (by omega)))
        rw [this] at hu
        exact fin a us H1 na s1 ha hu
    · rw [decide_eq_false (show ¬ ((i : Nat) : Int) < ((xs.length : Nat) : Int) by omega)]
      refine iteF ⟨_, rfl, ?_⟩
      have := stop (.inl (List.drop_eq_nil_of_le (by omega)))
      rw [this] at hu
      exact fin a us H1 na s1 ha hu
end
end K14

set_option Elab.async false
set_option linter.all false
set_option maxRecDepth 100000
set_option maxHeartbeats 3200000
namespace K14
open PySem PySem.Spec PyProof.Rows L2 LT LamX
abbrev nTwo : List Str := ["some", "others"]
theorem scEither : FnScope nTwo nTwo (defScope sEither) := ⟨rfl, rfl, rfl, by decide +kernel, rfl, by decide +kernel, by decide +kernel⟩
theorem scBoth : FnScope nTwo nTwo (defScope sBoth) := ⟨rfl, rfl, rfl, by decide +kernel, rfl, by decide +kernel, by decide +kernel⟩
theorem scOnly : FnScope nTwo nTwo (defScope sOnly) := ⟨rfl, rfl, rfl, by decide +kernel, rfl, by decide +kernel, by decide +kernel⟩
def gpT (l : Option Int) (t : List Row) : List Row := match l with
  | none => []
  | some j => LD.gp (j + 1) t
theorem gp_cons (st f : Int) (l : Option Int) (t : List Row) : LD.gp st ((f, l) :: t) = (if st < f then [(st, some (f - 1))] else []) ++ gpT l t := by cases l <;> rfl
section
variable {P : Program} {w : World} {K : PySem.W.Frag} {mg : Str → Option Value} {base : Heap} {C CN : Addr} {cM PM cY PY : Addr}
def spGaps (C : Addr) : Sp := fun vs H Q _ => ∃ p xs L, vs = [.ref p] ∧ H p = some (.lst xs) ∧ SRs C H xs L ∧ L.length ≤ 400 ∧ (∀ r ∈ L, ∀ j, r.2 = some j → j + 1 ≤ 10 ^ 58) ∧
  ∀ a zs H', H a = none → Same H H' → H' a = some (.lst zs) → SRs C H' zs (LD.gp 0 L) → Q (.ref a) H'
theorem ok_gaps {f : Addr} {fd : FuncData} (F : Fun K "gaps" "gaps" sGaps f fd) (T : Tx mg) (S : Po K mg C CN) : FnOk P w K mg base CX0 6 f fd ["stretches"] (spGaps C) := by
  obtain ⟨_, _, F1⟩ := S.first
  obtain ⟨_, _, F2⟩ := S.last
  obtain ⟨_, _, FD⟩ := S.day
  obtain ⟨_, _, FW⟩ := S.whole
  obtain ⟨_, _, M, FI, bI⟩ := S.init
  have Z := S.ct
  have G1 : FnOk P w K mg base CX0 1 _ _ ["self"] (spGet C fun a _ => a) := ok_first F1.fn Z
  have G2 : FnOk P w K mg base CX0 1 _ _ ["self"] (spGet C fun _ b => b) := ok_last F2.fn Z
  have GI : FnOk P w K mg base (L2.CX P w) 4 _ _ ["self", "first", "last"] (spInit C CN) := ok_init FI T Z FD FW
  obtain ⟨d1, v1, b1⟩ := FI.binds1 (ps := ["self", "first", "last"]) 2 0 (by simp) (by rfl) (fun _ _ _ _ _ _ _ us its h1 h2 => match us, its, h1, h2 with | [_, _], [_], _, _ => ⟨_, rfl, rfl⟩)
  refine F.ok scGaps (fun vs H Q E h => ?_) (fun cdv A outer s H vs Q E hr h => ?_)
  · obtain ⟨p, xs, L, rfl, _⟩ := h
    rfl
  · obtain ⟨p, xs, L, rfl, hp, hx, hl, hb, fin⟩ := h
    have nd := scGaps.nd
    have hr1 : Room 1 _ := hr.mono (by decide)
    refine ⟨_, pss_cons (ps_set (i := 1) nd rfl (.inl rfl) (pe_lst pa_nil))
      (pss_cons (ps_set (i := 2) nd rfl (.inl rfl) pe_int)
      (pss_cons (ps_for PassesOwn.never rfl (pi_list (pv 0)) (pg_name (i := 3) nd rfl (.inl rfl))
        (pss_cons (ps_if (pt_cmpR op_lt (pv 2) (pe_meth0 (pv 3) Z.cl F1.me G1 hr1 F1.bd .nil pass0) (nomark _)) (pss_one (ps_expr (pe_bm PySem.F.plainAttrs_list PySem.F.slot_list_append PySem.F.type_list_append mt_append (pv 1) (pa_cons (pe_make M GI hr (by rfl) Z.mgC bI .nil passL (pa_cons (pv 2) (pa_cons (pe_op op_sub (pe_meth0 (pv 3) Z.cl F1.me G1 hr1 F1.bd .nil pass0) pe_int) pa_nil))) pa_nil)))) pss_nil)
        (pss_cons (ps_if (pt_cmpR op_isN (pe_meth0 (pv 3) Z.cl F2.me G2 hr1 F2.bd .nil pass0) pe_non (nomark _)) (pss_one (ps_ret (pv 1))) pss_nil)
        (pss_one (ps_set (i := 2) nd rfl (.inl rfl) (pe_op op_add (pe_meth0 (pv 3) Z.cl F2.me G2 hr1 F2.bd .nil pass0) pe_int))))))
      (pss_cons (ps_expr (pe_bm PySem.F.plainAttrs_list PySem.F.slot_list_append PySem.F.type_list_append mt_append (pv 1) (pa_cons (pe_make M GI hr (by rfl) Z.mgC b1 v1 passL (pa_cons (pv 2) pa_nil)) pa_nil)))
      (pss_one (ps_ret (pv 1)))))), ?_⟩
    refine ⟨by show 0 ≤ sizeLine; decide, fun a na => ?_⟩
    have s0 := same_upd (o := .lst []) na
    have e0 := upd_same (H := H) (a := a) (o := .lst [])
    generalize upd H a (.lst []) = H0 at *
    have xl := hx.length
    refine ⟨_, rfl, p, rfl, ⟨_, SqL.of (s0 _ _ hp)⟩, ?_⟩
    have fits : ∀ {us : List V} {R : List Row} {Hx : Hp} {st : Int} {i : Nat}, SRs C Hx us R → R ++ LD.gp st (L.drop i) = LD.gp 0 L → us.length ≤ 500 := fun {us R Hx st i} hu e => by
      have h1 := hu.length
      have h2 := LD.gp_len L 0
      have h3 := congrArg List.length e
      rw [List.length_append] at h3
      omega
    refine for_list (K := K) (xs := xs) (fun i σ H' => ∃ (st : Int) (y3 : Option V) (us : List V) (R : List Row), σ = [some (.ref p), some (.ref a), some (.int st), y3] ∧ 0 ≤ st ∧ st ≤ 10 ^ 58 ∧ Same H H' ∧ H' a = some (.lst us) ∧ SRs C H' us R ∧ R ++ LD.gp st (L.drop i) = LD.gp 0 L)
      ⟨0, none, [], [], rfl, by decide, by decide, s0, e0, .nil, rfl⟩ (fun i σ H' _ h => ?_) ?_ ?_
    · obtain ⟨_, _, _, _, _, _, _, s1, _⟩ := h
      exact SqL.of (s1 _ _ hp)
    · rintro i v σ H1 hv ⟨st, y3, us, R, rfl, st0, st1, s1, ha, hu, hg⟩
      obtain ⟨r, er, sr⟩ := hx.at hv
      have rbr := sr.1
      obtain ⟨x, dx, rfl, hxx, stx⟩ := (sr.ext (extN_same s1)).st
      have dL := drop_cons er
      have ul := fits hu hg
      have r0 := rbr.ok.1
      have rb := rbr.b1
      have hbr := hb r (List.mem_of_getElem? er)
      rw [dL] at hg
      obtain ⟨f, l⟩ := r
      have r0 : 0 ≤ f := r0
      have rb : f ≤ 10 ^ 58 := rb
      rw [gp_cons] at hg
      apply join (α := List V × List Row) (J := fun z Hx => Same H Hx ∧ Hx a = some (.lst z.1) ∧ SRs C Hx z.1 z.2 ∧ z.2 = R ++ (if st < f then [(st, some (f - 1))] else [])) (sl := fun _ => [some (.ref p), some (.ref a), some (.int st), some (.ref x)])
      · intro h
        refine ⟨_, rfl, _, rfl, x, dx, _, rfl, hxx, rfl, x, _, _, rfl, stx, st, f, rfl, rfl, _, rfl, ?_⟩
        by_cases hlt : st < f
        · rw [decide_eq_true hlt]
          refine iteT ?_
          refine ⟨_, rfl, .inl ⟨rfl, _, SqL.of ha⟩, _, rfl, _, rfl, x, dx, _, rfl, hxx, rfl, x, _, _, rfl, stx, f, 1, rfl, rfl, fun z dz nz ndz nez => ?_⟩
          refine mk_init (r := (st, some (f - 1))) nz ndz nez ⟨⟨st0, fun j ej => by cases ej; show st ≤ f - 1; omega⟩, st1, fun j ej => by cases ej; omega⟩ fun H3 s3 sr3 => ⟨rfl, a, _, _, rfl, rfl, s3 _ _ ha, small1000 (by omega), ?_⟩
          exact h (us ++ [.ref z], R ++ [(st, some (f - 1))]) _ ⟨fun b o e => by rw [upd_ne (ne_of_none e na)]; exact s3 _ _ (s1 b o e), upd_same, ((hu.ext (extN_same s3)).updL (s3 _ _ ha)).append (.cons (sr3.updL (s3 _ _ ha)) .nil), by rw [if_pos hlt]⟩
        · rw [decide_eq_false hlt]
          exact iteF (h (us, R) H1 ⟨s1, ha, hu, by rw [if_neg hlt, List.append_nil]⟩)
      rintro ⟨us2, R2⟩ H2 ⟨s2, ha2, hu2, eR2⟩
      have ha2 : H2 a = some (.lst us2) := ha2
      have hu2 : SRs C H2 us2 R2 := hu2
      have eR2 : R2 = R ++ (if st < f then [(st, some (f - 1))] else []) := eR2
      obtain ⟨x', dx', evx', hxx', stx'⟩ := (sr.ext (extN_same s2)).st
      cases evx'
      rw [← List.append_assoc, ← eR2] at hg
      refine ⟨_, rfl, x, dx', _, rfl, hxx', rfl, x, _, _, rfl, stx', rfl, _, rfl, ?_⟩
      cases l with
      | none =>
        refine iteT ⟨_, rfl, ?_⟩
        have hg : R2 ++ [] = LD.gp 0 L := hg
        rw [List.append_nil] at hg
        rw [hg] at hu2
        exact fin a us2 H2 na s2 ha2 hu2
      | some j =>
        have h1 := rbr.ok.2 j rfl
        have h1 : f ≤ j := h1
        have h2 := hbr j rfl
        refine iteF ⟨_, rfl, x, dx', _, rfl, hxx', rfl, x, _, _, rfl, stx', j, 1, rfl, rfl, ?_⟩
        exact ⟨j + 1, _, us2, R2, rfl, by omega, h2, s2, ha2, hu2, hg⟩
    · rintro σ H1 ⟨st, y3, us, R, rfl, st0, st1, s1, ha, hu, hg⟩
      have ul := fits hu hg
      rw [List.drop_eq_nil_of_le (by omega)] at hg
      refine ⟨_, rfl, .inl ⟨rfl, _, SqL.of ha⟩, _, rfl, fun z dz nz ndz nez => ?_⟩
      refine mk_init (r := (st, none)) nz ndz nez ⟨⟨st0, nofun⟩, st1, nofun⟩ fun H3 s3 sr3 => ⟨rfl, a, _, _, rfl, rfl, s3 _ _ ha, small1000 (by omega), ?_⟩
      refine ⟨_, rfl, fin a (us ++ [.ref z]) _ na (fun b o e => by rw [upd_ne (ne_of_none e na)]; exact s3 _ _ (s1 b o e)) upd_same ?_⟩
      rw [← hg]
      exact ((hu.ext (extN_same s3)).updL (s3 _ _ ha)).append (.cons (sr3.updL (s3 _ _ ha)) .nil)
/-! ### the tellers of two lists -/
def eitherB (a b : Bool) : Bool := a || b
def bothB (a b : Bool) : Bool := a && b
def onlyB (a b : Bool) : Bool := a && !b
def spTell (C PM PY : Addr) (g : Bool → Bool → Bool) : Sp := fun vs H Q _ => ∃ p q xs ys rs ms, vs = [.ref p, .ref q] ∧ Sd H p xs ∧ Sd H q ys ∧ SRs C H xs rs ∧ SRs C H ys ms ∧ rs.length ≤ 100 ∧ ms.length ≤ 100 ∧ (∀ r ∈ ms, ∀ j, r.2 = some j → j + 1 ≤ 10 ^ 58) ∧ Tabs (TT2 PM PY) H ∧
  ∀ a zs L H', NewN H a → ExtN H H' → Tabs (TT2 PM PY) H' → H' a = some (.lst zs) → SRs C H' zs L → LD.Asc L → (∀ d, LD.Ins L d ↔ g (LD.insB rs d) (LD.insB ms d) = true) → L.length ≤ 400 → Q (.ref a) H'
structure Pt (K : PySem.W.Frag) (mg : Str → Option Value) (C CN cM : Addr) : Prop extends Po K mg C CN where
  over : ∃ f fd, Has K mg "overlaps" ["some", "others"] sOver f fd
  gaps : ∃ f fd, Has K mg "gaps" ["stretches"] sGaps f fd
  merged : ∃ f fd, FunC K "merged" "merged" sMerged f cM fd ∧ L2.Binds K fd ["stretches"] [] ∧ mg "merged" = some (.ref f)
theorem insB_app {rs ms : List Row} {d : Int} : LD.insB (rs ++ ms) d = (LD.insB rs d || LD.insB ms d) := by
  unfold LD.insB
  rw [List.any_append]
theorem isin {C : Addr} {H : Hp} {xs : List V} {rs : List Row} (h : SRs C H xs rs) : ∀ v ∈ xs, ∃ x dx fs, v = .ref x ∧ H x = some (.ins C dx fs) := fun v hv => by
  obtain ⟨r, _, sr⟩ := h.mem hv
  obtain ⟨x, dx, e, hx, _⟩ := sr.st
  exact ⟨x, dx, _, e, hx⟩
theorem ok_either {f : Addr} {fd : FuncData} (F : Fun K "either_days" "either_days" sEither f fd) (T : Tx mg) (S : Pt K mg C CN cM) (B : Tb base mg cM PM cY PY) : FnOk P w K mg base CX0 7 f fd ["some", "others"] (spTell C PM PY eitherB) := by
  obtain ⟨_, _, FC⟩ := S.chk
  obtain ⟨_, _, FG, bG, gG⟩ := S.merged
  have GC : FnOk P w K mg base CX0 1 _ _ ["thing"] (spChk C) := ok_chk FC.fn T S.ct S.own
  have GG : FnOk P w K mg base CX0 6 _ _ ["stretches"] (spMerged C PM PY) := ok_merged FG T S.toPm B
  refine F.ok scEither (fun vs H Q E h => ?_) (fun cdv A outer s H vs Q E hr h => ?_)
  · obtain ⟨p, q, xs, ys, rs, ms, rfl, _⟩ := h
    rfl
  · obtain ⟨p, q, xs, ys, rs, ms, rfl, hp, hq, hx, hy, hlr, hlm, hb, hT, fin⟩ := h
    have hr1 : Room 1 _ := hr.mono (by decide)
    refine ⟨_, pss_cons (ps_expr (pe_call GC hr1 (by rfl) FC.gl FC.fn.kp FC.bd .nil pass0 (pa_cons (pv 0) pa_nil)))
      (pss_cons (ps_expr (pe_call GC hr1 (by rfl) FC.gl FC.fn.kp FC.bd .nil pass0 (pa_cons (pv 1) pa_nil)))
      (pss_one (ps_ret (pe_call GG hr (by rfl) gG FG.kp bG .nil pass0 (pa_cons (pe_lst (StX.pa_star (pv 0) (StX.pa_star (pv 1) pa_nil))) pa_nil))))), ?_⟩
    have xl := hx.length
    have yl := hy.length
    refine ⟨_, rfl, p, xs, rfl, hp, by omega, isin hx, fun H1 s1 => ?_⟩
    have e1 := extN_same s1
    refine ⟨_, rfl, q, ys, rfl, hq.ext e1, by omega, isin (hy.ext e1), fun H2 s2 => ?_⟩
    have s12 := s1.trans s2
    have e2 := extN_same s12
    refine ⟨_, rfl, p, xs, rfl, ((hp.ext e2).sq (K := K)).symm, _, rfl, q, ys, rfl, ((hq.ext e2).sq (K := K)).symm, ?_⟩
    refine ⟨?_, fun l nl => ?_⟩
    · rw [List.append_nil]
      exact Nat.le_of_lt (small1000 (by rw [List.length_append]; omega))
    have s3 := same_upd (o := .lst (xs ++ (ys ++ []))) nl
    have el := upd_same (H := H2) (a := l) (o := .lst (xs ++ (ys ++ [])))
    generalize upd H2 l (.lst (xs ++ (ys ++ []))) = H3 at *
    have s13 := s12.trans s3
    have e3 := extN_same s13
    have hxy : SRs C H3 (xs ++ (ys ++ [])) (rs ++ ms) := by
      rw [List.append_nil]
      exact (hx.ext e3).append (hy.ext e3)
    refine ⟨l, _, rs ++ ms, rfl, .inl el, hxy, by rw [List.length_append]; omega, hT.ext s13, fun a zs R ss H4 na e4 T4 ha hz hR hm hpw hzl => ?_⟩
    have okr := hxy.rb
    rw [can_eq okr hm hpw] at hR
    subst hR
    obtain ⟨c1, c2⟩ := canOf_spec okr
    have cl := (canOf_rb okr).2
    rw [List.length_append] at cl
    refine fin a zs.reverse (canOf (rs ++ ms)).reverse H4 (.of (s13.free na)) (e3.trans e4) T4 ha hz.reverse (LD.asc_of c1) (fun d => ?_) (by rw [List.length_reverse]; omega)
    rw [LD.ins_rev, c2, ← LD.insB_iff, insB_app]
    rfl
theorem ok_both {f : Addr} {fd : FuncData} (F : Fun K "both_days" "both_days" sBoth f fd) (T : Tx mg) (S : Pt K mg C CN cM) (B : Tb base mg cM PM cY PY) : FnOk P w K mg base CX0 7 f fd ["some", "others"] (spTell C PM PY bothB) := by
  obtain ⟨_, _, FC⟩ := S.chk
  obtain ⟨_, _, FG, bG, gG⟩ := S.merged
  obtain ⟨_, _, FO⟩ := S.over
  have GC : FnOk P w K mg base CX0 1 _ _ ["thing"] (spChk C) := ok_chk FC.fn T S.ct S.own
  have GG : FnOk P w K mg base CX0 6 _ _ ["stretches"] (spMerged C PM PY) := ok_merged FG T S.toPm B
  have GO : FnOk P w K mg base CX0 6 _ _ ["some", "others"] (spOver C) := ok_over FO.fn T S.toPo
  refine F.ok scBoth (fun vs H Q E h => ?_) (fun cdv A outer s H vs Q E hr h => ?_)
  · obtain ⟨p, q, xs, ys, rs, ms, rfl, _⟩ := h
    rfl
  · obtain ⟨p, q, xs, ys, rs, ms, rfl, hp, hq, hx, hy, hlr, hlm, hb, hT, fin⟩ := h
    have hr1 : Room 1 _ := hr.mono (by decide)
    refine ⟨_, pss_cons (ps_expr (pe_call GC hr1 (by rfl) FC.gl FC.fn.kp FC.bd .nil pass0 (pa_cons (pv 0) pa_nil)))
      (pss_cons (ps_expr (pe_call GC hr1 (by rfl) FC.gl FC.fn.kp FC.bd .nil pass0 (pa_cons (pv 1) pa_nil)))
      (pss_one (ps_ret (pe_call GO hr (by rfl) FO.gl FO.fn.kp FO.bd .nil pass0 (pa_cons (pe_call GG hr (by rfl) gG FG.kp bG .nil pass0 (pa_cons (pv 0) pa_nil)) (pa_cons (pe_call GG hr (by rfl) gG FG.kp bG .nil pass0 (pa_cons (pv 1) pa_nil)) pa_nil)))))), ?_⟩
    have xl := hx.length
    have yl := hy.length
    refine ⟨_, rfl, p, xs, rfl, hp, by omega, isin hx, fun H1 s1 => ?_⟩
    have e1 := extN_same s1
    refine ⟨_, rfl, q, ys, rfl, hq.ext e1, by omega, isin (hy.ext e1), fun H2 s2 => ?_⟩
    have s12 := s1.trans s2
    have e2 := extN_same s12
    refine ⟨_, rfl, p, xs, rs, rfl, hp.ext e2, hx.ext e2, by omega, hT.ext s12, fun a1 z1 R1 ss1 H3 n1 e3 T3 h1 hz1 hR1 hm1 hp1 _ => ?_⟩
    have e13 := e2.trans e3
    refine ⟨_, rfl, q, ys, ms, rfl, hq.ext e13, hy.ext e13, by omega, T3, fun a2 z2 R2 ss2 H4 n2 e4 T4 h2 hz2 hR2 hm2 hp2 _ => ?_⟩
    rw [can_eq hx.rb hm1 hp1] at hR1
    rw [can_eq hy.rb hm2 hp2] at hR2
    subst hR1 hR2
    obtain ⟨c1, c2⟩ := canOf_spec hx.rb
    obtain ⟨g1, g2⟩ := canOf_spec hy.rb
    have l1 := (canOf_rb hx.rb).2
    have l2 := (canOf_rb hy.rb).2
    have e14 := e13.trans e4
    refine ⟨a1, a2, _, _, (canOf rs).reverse, (canOf ms).reverse, rfl, e4 _ _ h1 nofun, (hz1.reverse).ext e4, h2, hz2.reverse, by rw [List.length_reverse, List.length_reverse]; omega, fun a zs H5 na s5 ha hz => ?_⟩
    obtain ⟨o1, o2, _⟩ := LD.ov_ok _ (canOf rs).reverse (canOf ms).reverse (Nat.le_refl _) (LD.asc_of c1) (LD.asc_of g1)
    have ol := LD.ov_len _ (canOf rs).reverse (canOf ms).reverse (Nat.le_refl _)
    rw [List.length_reverse, List.length_reverse] at ol
    refine fin a zs _ H5 (newN_of e14 na) (e14.trans (extN_same s5)) (T4.ext s5) ha hz o1 (fun d => ?_) (by omega)
    rw [o2, LD.ins_rev, LD.ins_rev, c2, g2, ← LD.insB_iff, ← LD.insB_iff]
    unfold bothB
    rw [Bool.and_eq_true]
theorem ok_only {f : Addr} {fd : FuncData} (F : Fun K "only_days" "only_days" sOnly f fd) (T : Tx mg) (S : Pt K mg C CN cM) (B : Tb base mg cM PM cY PY) : FnOk P w K mg base CX0 7 f fd ["some", "others"] (spTell C PM PY onlyB) := by
  obtain ⟨_, _, FC⟩ := S.chk
  obtain ⟨_, _, FG, bG, gG⟩ := S.merged
  obtain ⟨_, _, FO⟩ := S.over
  obtain ⟨_, _, FA⟩ := S.gaps
  have GC : FnOk P w K mg base CX0 1 _ _ ["thing"] (spChk C) := ok_chk FC.fn T S.ct S.own
  have GG : FnOk P w K mg base CX0 6 _ _ ["stretches"] (spMerged C PM PY) := ok_merged FG T S.toPm B
  have GO : FnOk P w K mg base CX0 6 _ _ ["some", "others"] (spOver C) := ok_over FO.fn T S.toPo
  have GA : FnOk P w K mg base CX0 6 _ _ ["stretches"] (spGaps C) := ok_gaps FA.fn T S.toPo
  refine F.ok scOnly (fun vs H Q E h => ?_) (fun cdv A outer s H vs Q E hr h => ?_)
  · obtain ⟨p, q, xs, ys, rs, ms, rfl, _⟩ := h
    rfl
  · obtain ⟨p, q, xs, ys, rs, ms, rfl, hp, hq, hx, hy, hlr, hlm, hb, hT, fin⟩ := h
    have hr1 : Room 1 _ := hr.mono (by decide)
    refine ⟨_, pss_cons (ps_expr (pe_call GC hr1 (by rfl) FC.gl FC.fn.kp FC.bd .nil pass0 (pa_cons (pv 0) pa_nil)))
      (pss_cons (ps_expr (pe_call GC hr1 (by rfl) FC.gl FC.fn.kp FC.bd .nil pass0 (pa_cons (pv 1) pa_nil)))
      (pss_one (ps_ret (pe_call GO hr (by rfl) FO.gl FO.fn.kp FO.bd .nil pass0 (pa_cons (pe_call GG hr (by rfl) gG FG.kp bG .nil pass0 (pa_cons (pv 0) pa_nil)) (pa_cons (pe_call GA hr (by rfl) FA.gl FA.fn.kp FA.bd .nil pass0 (pa_cons (pe_call GG hr (by rfl) gG FG.kp bG .nil pass0 (pa_cons (pv 1) pa_nil)) pa_nil)) pa_nil)))))), ?_⟩
    have xl := hx.length
    have yl := hy.length
    refine ⟨_, rfl, p, xs, rfl, hp, by omega, isin hx, fun H1 s1 => ?_⟩
    have e1 := extN_same s1
    refine ⟨_, rfl, q, ys, rfl, hq.ext e1, by omega, isin (hy.ext e1), fun H2 s2 => ?_⟩
    have s12 := s1.trans s2
    have e2 := extN_same s12
    refine ⟨_, rfl, p, xs, rs, rfl, hp.ext e2, hx.ext e2, by omega, hT.ext s12, fun a1 z1 R1 ss1 H3 n1 e3 T3 h1 hz1 hR1 hm1 hp1 _ => ?_⟩
    have e13 := e2.trans e3
    refine ⟨_, rfl, q, ys, ms, rfl, hq.ext e13, hy.ext e13, by omega, T3, fun a2 z2 R2 ss2 H4 n2 e4 T4 h2 hz2 hR2 hm2 hp2 _ => ?_⟩
    rw [can_eq hx.rb hm1 hp1] at hR1
    rw [can_eq hy.rb hm2 hp2] at hR2
    subst hR1 hR2
    obtain ⟨c1, c2⟩ := canOf_spec hx.rb
    obtain ⟨g1, g2⟩ := canOf_spec hy.rb
    have l1 := (canOf_rb hx.rb).2
    have l2 := (canOf_rb hy.rb).2
    have e14 := e13.trans e4
    refine ⟨a2, _, (canOf ms).reverse, rfl, h2, hz2.reverse, by rw [List.length_reverse]; omega, fun r hr => last_canOf hb r (List.mem_reverse.mp hr), fun a3 z3 H5 n3 s5 h3 hz3 => ?_⟩
    have e15 := e14.trans (extN_same s5)
    obtain ⟨k1, k2, _⟩ := LD.gp_ok (canOf ms).reverse 0 (Int.le_refl _) (LD.asc_of g1) fun r hr => ((LD.asc_of g1).ok r hr).1
    have kl := LD.gp_len (canOf ms).reverse 0
    rw [List.length_reverse] at kl
    refine ⟨a1, a3, _, _, (canOf rs).reverse, LD.gp 0 (canOf ms).reverse, rfl, s5 _ _ (e4 _ _ h1 nofun), ((hz1.reverse).ext e4).ext (extN_same s5), h3, hz3, by rw [List.length_reverse]; omega, fun a zs H6 na s6 ha hz => ?_⟩
    obtain ⟨o1, o2, _⟩ := LD.ov_ok _ (canOf rs).reverse (LD.gp 0 (canOf ms).reverse) (Nat.le_refl _) (LD.asc_of c1) k1
    have ol := LD.ov_len _ (canOf rs).reverse (LD.gp 0 (canOf ms).reverse) (Nat.le_refl _)
    rw [List.length_reverse] at ol
    refine fin a zs _ H6 (newN_of e15 na) (e15.trans (extN_same s6)) ((T4.ext s5).ext s6) ha hz o1 (fun d => ?_) (by omega)
    rw [o2, LD.ins_rev, k2, LD.ins_rev, c2, g2, ← LD.insB_iff, ← LD.insB_iff]
    unfold onlyB
    rw [Bool.and_eq_true, Bool.not_eq_true']
    constructor
    · rintro ⟨h1, _, h2⟩
      exact ⟨h1, by cases h : LD.insB ms d <;> first | rfl | exact absurd h h2⟩
    · rintro ⟨h1, h2⟩
      refine ⟨h1, ?_, by rw [h2]; exact nofun⟩
      obtain ⟨r, hr, hi⟩ := LD.insB_iff.mp h1
      have h3 := (hx.rb r hr).ok.1
      have h4 := hi.1
      omega
end
end K14

set_option Elab.async false
set_option linter.all false
set_option maxRecDepth 100000
set_option maxHeartbeats 3200000
namespace K14
open PySem PySem.Spec PyProof.Rows L2 LT LamX
/-! ### two by their names -/
def gF {α : Type} : List α → List α → List α
  | [], [b, a] => [a, b]
  | _, _ => []
def gS {α : Type} : List α → List α → List α
  | [], [a, b] => [a, b]
  | _, _ => []
theorem gF_vals {vs zs : List V} {us ws : List Value} (r : Vals vs us) (z : Vals zs ws) : Vals (gF vs zs) (gF us ws) := by
  cases r with
  | cons h r => exact .nil
  | nil =>
    cases z with
    | nil => exact .nil
    | cons k z =>
      cases z with
      | nil => exact .nil
      | cons k2 z =>
        cases z with
        | nil => exact .cons k2 (.cons k .nil)
        | cons k3 z => exact .nil
theorem gS_vals {vs zs : List V} {us ws : List Value} (r : Vals vs us) (z : Vals zs ws) : Vals (gS vs zs) (gS us ws) := by
  cases r with
  | cons h r => exact .nil
  | nil =>
    cases z with
    | nil => exact .nil
    | cons k z =>
      cases z with
      | nil => exact .nil
      | cons k2 z =>
        cases z with
        | nil => exact .cons k (.cons k2 .nil)
        | cons k3 z => exact .nil
theorem kb_gF {K : PySem.W.Frag} {y qual : Str} {st : Stmt} {f : Addr} {fd : FuncData} {ps ks : List Str} (F : Fun K y qual st f fd) (hp : ps.length = 2)
    (h : ∀ (kV doc pm : Value) (an : Option Addr) (cdv ct : Value) (u w : Value),
      bindArgs (PySem.W.fnOf y qual (defArgs st) (defBody st) (defScope st) .none kV doc pm an cdv ct) ⟨[], ks.zip [u, w]⟩ = pure (ps.zip [w, u])) : KBinds K fd ps ks gF gF := by
  obtain ⟨oc, od, kV, doc, pm, an, cdv, ct, osl, rfl, lk, hcd⟩ := F.ex
  refine ⟨fun s us ws _ hl => ?_, gF_vals⟩
  match us, ws, hl with
  | [], [u, w], _ => exact .of_eq (h kV doc pm an cdv ct u w)
  | [], [], h => rw [hp] at h; cases h
  | [], [_], h => rw [hp] at h; cases h
  | [], _ :: _ :: _ :: _, h => rw [hp] at h; cases h
  | _ :: _, _, h => rw [hp] at h; cases h
theorem kb_gS {K : PySem.W.Frag} {y qual : Str} {st : Stmt} {f : Addr} {fd : FuncData} {ps ks : List Str} (F : Fun K y qual st f fd) (hp : ps.length = 2)
    (h : ∀ (kV doc pm : Value) (an : Option Addr) (cdv ct : Value) (u w : Value),
      bindArgs (PySem.W.fnOf y qual (defArgs st) (defBody st) (defScope st) .none kV doc pm an cdv ct) ⟨[], ks.zip [u, w]⟩ = pure (ps.zip [u, w])) : KBinds K fd ps ks gS gS := by
  obtain ⟨oc, od, kV, doc, pm, an, cdv, ct, osl, rfl, lk, hcd⟩ := F.ex
  refine ⟨fun s us ws _ hl => ?_, gS_vals⟩
  match us, ws, hl with
  | [], [u, w], _ => exact .of_eq (h kV doc pm an cdv ct u w)
  | [], [], h => rw [hp] at h; cases h
  | [], [_], h => rw [hp] at h; cases h
  | [], _ :: _ :: _ :: _, h => rw [hp] at h; cases h
  | _ :: _, _, h => rw [hp] at h; cases h
abbrev nTold : List Str := ["_law_way", "_law_one_list", "_law_other_list"]
abbrev nWanted : List Str := ["_law_way", "_law_rows_here", "_law_more", "_law_day", "_law_one", "_law_other"]
abbrev nShown : List Str := ["_law_handed_here", "_law_one"]
theorem scTold : FnScope nTold nTold (defScope sTold) := ⟨rfl, rfl, rfl, by decide +kernel, rfl, by decide +kernel, by decide +kernel⟩
theorem scWanted : FnScope nWanted ["_law_way", "_law_rows_here", "_law_more", "_law_day"] (defScope sWanted) := ⟨rfl, rfl, rfl, by decide +kernel, rfl, by decide +kernel, by decide +kernel⟩
theorem scShown : FnScope nShown ["_law_handed_here"] (defScope sShown) := ⟨rfl, rfl, rfl, by decide +kernel, rfl, by decide +kernel, by decide +kernel⟩
def wantB (k : Int) (a b : Bool) : Bool := if k = 0 then a || b else if k = 1 then a && b else if k = 2 then a && !b else b && !a
theorem four {k : Int} (h0 : 0 ≤ k) (h4 : k < 4) : k = 0 ∨ k = 1 ∨ k = 2 ∨ k = 3 := by omega
theorem insB_congr {rs ss : List Row} (h : ∀ r, r ∈ ss ↔ r ∈ rs) (d : Int) : LD.insB ss d = LD.insB rs d := by
  rw [Bool.eq_iff_iff, LD.insB_iff, LD.insB_iff]
  exact ins_mem h d
section
variable {P : Program} {w : World} {K : PySem.W.Frag} {mg : Str → Option Value} {base : Heap} {C CN : Addr} {cM PM cY PY : Addr}
/-- the lists of the two sides stand -/
structure Two (C p q : Addr) (H : Hp) (xs ys : List V) (rs ms : List Row) : Prop where
  hp : Sd H p xs
  hq : Sd H q ys
  hx : SRs C H xs rs
  hy : SRs C H ys ms
theorem Two.ext {C p q : Addr} {H H' : Hp} {xs ys : List V} {rs ms : List Row} (t : Two C p q H xs ys rs ms) (e : ExtN H H') : Two C p q H' xs ys rs ms := ⟨t.hp.ext e, t.hq.ext e, t.hx.ext e, t.hy.ext e⟩
/-- short lists of drawn rows -/
structure Few (rs ms : List Row) : Prop where
  lr : rs.length ≤ 100
  lm : ms.length ≤ 100
  br : ∀ r ∈ rs, ∀ j, r.2 = some j → j + 1 ≤ 10 ^ 58
  bm : ∀ r ∈ ms, ∀ j, r.2 = some j → j + 1 ≤ 10 ^ 58
def spTold (C PM PY : Addr) : Sp := fun vs H Q _ => ∃ k p q xs ys rs ms, vs = [.int k, .ref p, .ref q] ∧ 0 ≤ k ∧ k < 4 ∧ Two C p q H xs ys rs ms ∧ Few rs ms ∧ Tabs (TT2 PM PY) H ∧
  ∀ a zs L H', NewN H a → ExtN H H' → Tabs (TT2 PM PY) H' → H' a = some (.lst zs) → SRs C H' zs L → LD.Asc L → (∀ d, LD.Ins L d ↔ wantB k (LD.insB rs d) (LD.insB ms d) = true) → L.length ≤ 400 → Q (.ref a) H'
structure Pu (K : PySem.W.Frag) (mg : Str → Option Value) (C CN cM : Addr) : Prop extends Pt K mg C CN cM where
  either : ∃ f fd, Has K mg "either_days" ["some", "others"] sEither f fd ∧ KBinds K fd ["some", "others"] ["others", "some"] gF gF
  both : ∃ f fd, Has K mg "both_days" ["some", "others"] sBoth f fd ∧ KBinds K fd ["some", "others"] ["some", "others"] gS gS
  only : ∃ f fd, Has K mg "only_days" ["some", "others"] sOnly f fd ∧ KBinds K fd ["some", "others"] ["others", "some"] gF gF
theorem ok_told {f : Addr} {fd : FuncData} (F : Fun K "_law_told" "_law_told" sTold f fd) (T : Tx mg) (S : Pu K mg C CN cM) (B : Tb base mg cM PM cY PY) : FnOk P w K mg base CX0 8 f fd nTold (spTold C PM PY) := by
  obtain ⟨_, _, FE, kE⟩ := S.either
  obtain ⟨_, _, FB, kB⟩ := S.both
  obtain ⟨_, _, FO, kO⟩ := S.only
  have GE : FnOk P w K mg base CX0 7 _ _ ["some", "others"] (spTell C PM PY eitherB) := ok_either FE.fn T S.toPt B
  have GB : FnOk P w K mg base CX0 7 _ _ ["some", "others"] (spTell C PM PY bothB) := ok_both FB.fn T S.toPt B
  have GO : FnOk P w K mg base CX0 7 _ _ ["some", "others"] (spTell C PM PY onlyB) := ok_only FO.fn T S.toPt B
  refine F.ok scTold (fun vs H Q E h => ?_) (fun cdv A outer s H vs Q E hr h => ?_)
  · obtain ⟨k, p, q, xs, ys, rs, ms, rfl, _⟩ := h
    rfl
  · obtain ⟨k, p, q, xs, ys, rs, ms, rfl, k0, k4, tw, fw, hT, fin⟩ := h
    refine ⟨_, pss_cons (ps_if (pt_cmpR op_eq (pv 0) pe_int (nomark _)) (pss_one (ps_ret (pe_callKw GE hr (by rfl) FE.gl FE.fn.kp kE pass0 (pk_cons (pv 2) (pk_cons (pv 1) pk_nil))))) pss_nil)
      (pss_cons (ps_if (pt_cmpR op_eq (pv 0) pe_int (nomark _)) (pss_one (ps_ret (pe_callKw GB hr (by rfl) FB.gl FB.fn.kp kB pass0 (pk_cons (pv 1) (pk_cons (pv 2) pk_nil))))) pss_nil)
      (pss_cons (ps_if (pt_cmpR op_eq (pv 0) pe_int (nomark _)) (pss_one (ps_ret (pe_call GO hr (by rfl) FO.gl FO.fn.kp FO.bd .nil pass0 (pa_cons (pv 1) (pa_cons (pv 2) pa_nil))))) pss_nil)
      (pss_one (ps_ret (pe_callKw GO hr (by rfl) FO.gl FO.fn.kp kO pass0 (pk_cons (pv 1) (pk_cons (pv 2) pk_nil))))))), ?_⟩
    refine ⟨_, rfl, rfl, _, rfl, ?_⟩
    rw [dec_int]
    rcases four k0 k4 with rfl | rfl | rfl | rfl
    · refine iteT ?_
      exact ⟨_, rfl, _, rfl, p, q, xs, ys, rs, ms, rfl, tw.hp, tw.hq, tw.hx, tw.hy, fw.lr, fw.lm, fw.bm, hT, fun a zs L H' n e t ha hz ac hi ll => fin a zs L H' n e t ha hz ac hi ll⟩
    · refine iteF ⟨_, rfl, rfl, _, rfl, ?_⟩
      rw [dec_int]
      refine iteT ?_
      exact ⟨_, rfl, _, rfl, p, q, xs, ys, rs, ms, rfl, tw.hp, tw.hq, tw.hx, tw.hy, fw.lr, fw.lm, fw.bm, hT, fun a zs L H' n e t ha hz ac hi ll => fin a zs L H' n e t ha hz ac hi ll⟩
    · refine iteF ⟨_, rfl, rfl, _, rfl, ?_⟩
      rw [dec_int]
      refine iteF ⟨_, rfl, rfl, _, rfl, ?_⟩
      rw [dec_int]
      refine iteT ?_
      exact ⟨_, rfl, _, rfl, p, q, xs, ys, rs, ms, rfl, tw.hp, tw.hq, tw.hx, tw.hy, fw.lr, fw.lm, fw.bm, hT, fun a zs L H' n e t ha hz ac hi ll => fin a zs L H' n e t ha hz ac hi ll⟩
    · refine iteF ⟨_, rfl, rfl, _, rfl, ?_⟩
      rw [dec_int]
      refine iteF ⟨_, rfl, rfl, _, rfl, ?_⟩
      rw [dec_int]
      refine iteF ?_
      exact ⟨_, rfl, _, rfl, q, p, ys, xs, ms, rs, rfl, tw.hq, tw.hp, tw.hy, tw.hx, fw.lm, fw.lr, fw.br, hT, fun a zs L H' n e t ha hz ac hi ll => fin a zs L H' n e t ha hz ac hi ll⟩
def spWanted : Sp := fun vs H Q _ => ∃ k q m zs us rs ms d, vs = [.int k, .ref q, .ref m, .int d] ∧ 0 ≤ k ∧ k < 4 ∧ H q = some (.lst zs) ∧ TRs H zs rs ∧ rs.length ≤ 1000 ∧ H m = some (.lst us) ∧ TRs H us ms ∧ ms.length ≤ 1000 ∧
  ∀ H', Same H H' → Q (.bl (wantB k (LD.insB rs d) (LD.insB ms d))) H'
theorem ok_wanted {f fI : Addr} {fd fdI : FuncData} (F : Fun K "_law_wanted" "_law_wanted" sWanted f fd) (T : Tx mg) (FI : Has K mg "_law_in" ["_law_rows_here", "_law_day"] sIn fI fdI) : FnOk P w K mg base CX0 2 f fd ["_law_way", "_law_rows_here", "_law_more", "_law_day"] spWanted := by
  have GI : FnOk P w K mg base CX0 1 _ _ ["_law_rows_here", "_law_day"] spIn := ok_in FI.fn T
  refine F.ok scWanted (fun vs H Q E h => ?_) (fun cdv A outer s H vs Q E hr h => ?_)
  · obtain ⟨k, q, m, zs, us, rs, ms, d, rfl, _⟩ := h
    rfl
  · obtain ⟨k, q, m, zs, us, rs, ms, d, rfl, k0, k4, hq, hz, hl, hm, hu, hl2, fin⟩ := h
    have nd := scWanted.nd
    refine ⟨_, pss_cons (ps_par (i := 4) (j := 5) (by rfl) nd rfl rfl (by decide) rfl rfl (pa_cons (pe_call GI hr (by rfl) FI.gl FI.fn.kp FI.bd .nil pass0 (pa_cons (pv 1) (pa_cons (pv 3) pa_nil))) (pa_cons (pe_call GI hr (by rfl) FI.gl FI.fn.kp FI.bd .nil pass0 (pa_cons (pv 2) (pa_cons (pv 3) pa_nil))) pa_nil)) (by rfl))
      (pss_one (ps_ret (pe_ix ix_list (pe_lst (pa_cons (pe_or (pv 4) (pe_one (pv 5))) (pa_cons (pe_and (pv 4) (pe_one (pv 5))) (pa_cons (pe_and (pv 4) (pe_one (pe_not (pv 5)))) (pa_cons (pe_and (pv 5) (pe_one (pe_not (pv 4)))) pa_nil))))) (pv 0) (fun _ _ => rfl)))), ?_⟩
    refine ⟨_, rfl, _, rfl, q, zs, rs, d, rfl, hq, hz, hl, fun H1 s1 => ?_⟩
    refine ⟨_, rfl, _, rfl, m, us, ms, d, rfl, s1 _ _ hm, hu.imp fun _ _ z => z.ext (extN_same s1), hl2, fun H2 s2 => ?_⟩
    refine ⟨_, _, rfl, ?_⟩
    have s12 := s1.trans s2
    have fin2 : ∀ l, H2 l = none → ∀ o, Q (.bl (wantB k (LD.insB rs d) (LD.insB ms d))) (upd H2 l o) := fun l nl o => fin _ (s12.trans (same_upd nl))
    generalize LD.insB rs d = a at *
    generalize LD.insB ms d = b at *
    cases a with
    | true =>
      refine ⟨_, rfl, _, rfl, _, rfl, _, rfl, _, rfl, _, rfl, _, rfl, _, rfl, _, rfl, ?_⟩
      cases b with
      | true =>
        refine ⟨_, rfl, _, rfl, _, rfl, _, rfl, by show 4 ≤ sizeLine; decide, fun l nl => ⟨_, rfl, l, _, k, .bl (wantB k true true), rfl, rfl, SqL.of upd_same, ?_, fin2 l nl _⟩⟩
        rcases four k0 k4 with rfl | rfl | rfl | rfl <;> rfl
      | false =>
        refine ⟨_, rfl, _, rfl, by show 4 ≤ sizeLine; decide, fun l nl => ⟨_, rfl, l, _, k, .bl (wantB k true false), rfl, rfl, SqL.of upd_same, ?_, fin2 l nl _⟩⟩
        rcases four k0 k4 with rfl | rfl | rfl | rfl <;> rfl
    | false =>
      refine ⟨_, rfl, _, rfl, _, rfl, _, rfl, _, rfl, _, rfl, _, rfl, ?_⟩
      cases b with
      | true =>
        refine ⟨_, rfl, _, rfl, _, rfl, _, rfl, by show 4 ≤ sizeLine; decide, fun l nl => ⟨_, rfl, l, _, k, .bl (wantB k false true), rfl, rfl, SqL.of upd_same, ?_, fin2 l nl _⟩⟩
        rcases four k0 k4 with rfl | rfl | rfl | rfl <;> rfl
      | false =>
        refine ⟨_, rfl, _, rfl, by show 4 ≤ sizeLine; decide, fun l nl => ⟨_, rfl, l, _, k, .bl (wantB k false false), rfl, rfl, SqL.of upd_same, ?_, fin2 l nl _⟩⟩
        rcases four k0 k4 with rfl | rfl | rfl | rfl <;> rfl
def spShown (C : Addr) : Sp := fun vs H Q _ => ∃ h xs ss, vs = [.ref h] ∧ Sd H h xs ∧ SRs C H xs ss ∧ ss.length ≤ 200 ∧ ∀ D us H', H D = none → Same H H' → H' D = some (.lst us) → DRs H' us ss → Q (.ref D) H'
theorem ok_shown {f : Addr} {fd : FuncData} (F : Fun K "_law_shown" "_law_shown" sShown f fd) (S : Pm K mg C CN) : FnOk P w K mg base CX0 2 f fd ["_law_handed_here"] (spShown C) := by
  obtain ⟨_, _, F1⟩ := S.first
  obtain ⟨_, _, F2⟩ := S.last
  have Z := S.ct
  have G1 : FnOk P w K mg base CX0 1 _ _ ["self"] (spGet C fun a _ => a) := ok_first F1.fn Z
  have G2 : FnOk P w K mg base CX0 1 _ _ ["self"] (spGet C fun _ b => b) := ok_last F2.fn Z
  refine F.ok scShown (fun vs H Q E h => ?_) (fun cdv A outer s H vs Q E hr h => ?_)
  · obtain ⟨h, xs, ss, rfl, _⟩ := h
    rfl
  · obtain ⟨h, xs, ss, rfl, hh, hx, hl, fin⟩ := h
    have nd := scShown.nd
    refine ⟨_, pss_one (ps_ret (pe_lc (own := [("_law_one", 1)]) (g := gName 1) (tt := tYes) rfl nd (pi_seq (pv 0)) (blkOk_by (N := nShown) (sc := defScope sShown) (by decide +kernel))
            (fun _ _ _ _ _ => pg_name (i := 1) nd rfl (Or.inl rfl)) (fun _ _ _ _ _ => pts_nil)
            (fun _ _ _ _ _ => pe_tup (pa_cons (pe_meth0 (pv 1) Z.cl F1.me G1 hr F1.bd .nil pass0) (pa_cons (pe_meth0 (pv 1) Z.cl F2.me G2 hr F2.bd .nil pass0) pa_nil))))), ?_⟩
    have xl := hx.length
    refine ⟨_, rfl, h, xs, rfl, hh.sq, fun J wk D nD => ?_⟩
    refine lc_it wk (fun i H' => Same H H' ∧ ∃ us, H' D = some (.lst us) ∧ DRs H' us (ss.take i) ∧ us.length = i) ⟨same_upd nD, [], upd_same, .nil, rfl⟩ (fun i H' _ z => Still.of (extN_same z.1)) ?_ ?_
    · rintro i v Hx Hx' hi' ⟨sm, us, hD, hu, hul⟩ ⟨rfl, hv⟩
      obtain ⟨r, er, sr⟩ := hx.at hv
      obtain ⟨x, dx, rfl, hxx, st⟩ := (sr.ext (extN_same sm)).st
      have hi : i < ss.length := (List.getElem?_eq_some_iff.mp er).1
      refine ⟨rfl, _, rfl, x, dx, _, rfl, hxx, rfl, x, _, _, rfl, st, _, rfl, x, dx, _, rfl, hxx, rfl, x, _, _, rfl, st, by show 2 ≤ sizeLine; decide, fun t nt => ?_⟩
      have s2 := same_upd (o := .tup [.int r.1, enc r.2]) nt
      have hD2 := s2 _ _ hD
      have ht2 := upd_same (H := Hx') (a := t) (o := .tup [.int r.1, enc r.2])
      generalize upd Hx' t (.tup [.int r.1, enc r.2]) = Hy at *
      refine ⟨us, hD2, small1000 (by omega), fun b o e => ?_, us ++ [.ref t], upd_same, ?_, by rw [List.length_append, hul]; rfl⟩
      · rw [upd_ne (ne_of_none e nD)]
        exact s2 _ _ (sm b o e)
      · rw [List.take_add_one, er]
        refine DRs.append (hu.imp fun v r z => (z.ext s2).updL hD2) (.cons ⟨t, rfl, ?_⟩ .nil)
        rw [upd_ne (ne_of ht2 hD2 nofun)]
        exact ht2
    · rintro H3 ⟨sm, us, hD, hu, hul⟩
      rw [List.take_of_length_le (by omega)] at hu
      exact fin D us H3 nD sm hD hu
end
end K14

set_option Elab.async false
set_option linter.all false
set_option maxRecDepth 100000
set_option maxHeartbeats 3200000
namespace K14
open PySem PySem.Spec PyProof.Rows L2 LT LamX
abbrev nRight : List Str := ["_law_one_list", "_law_other_list", "_law_rows_here", "_law_more", "_law_marks_here", "_law_way", "_law_due_here", "_law_first", "_law_second"]
abbrev pRight : List Str := ["_law_one_list", "_law_other_list", "_law_rows_here", "_law_more"]
theorem scRight : FnScope nRight pRight (defScope sRightL) := ⟨rfl, rfl, rfl, by decide +kernel, rfl, by decide +kernel, by decide +kernel⟩
theorem stepD_sm {w : Int → Bool} {R : List Row} {d : Int} (h : ∀ r ∈ R, Sm r) (hd : d.natAbs ≤ 10 ^ 61) : ∀ r ∈ LD.stepD w R d, Sm r := by
  have new : Sm (d, none) := ⟨by show d.natAbs ≤ _; omega, nofun⟩
  unfold LD.stepD
  split
  · split
    · intro r hr
      rw [List.mem_singleton.mp hr]
      exact new
    · exact nofun
  · rename_i f t
    split
    · exact h
    · intro r hr
      rcases List.mem_cons.mp hr with rfl | hr
      · exact ⟨(h (f, none) (.head _)).a, fun j ej => by cases ej; omega⟩
      · exact h r (.tail _ hr)
  · split
    · intro r hr
      rcases List.mem_cons.mp hr with rfl | hr
      · exact new
      · exact h r hr
    · exact h
theorem foldD_sm {w : Int → Bool} : ∀ (ns : List Int) (R : List Row), (∀ r ∈ R, Sm r) → (∀ d ∈ ns, d.natAbs ≤ 10 ^ 61) → ∀ r ∈ ns.foldl (LD.stepD w) R, Sm r
  | [], R, h, _ => h
  | d :: ns, R, h, hd => foldD_sm ns (LD.stepD w R d) (stepD_sm h (hd d (.head _))) fun e he => hd e (.tail _ he)
theorem marks_up {rs : List Row} (h : ∀ r ∈ rs, RBd r) : ∀ k ∈ marks rs, k.natAbs ≤ 10 ^ 61 := fun k hk => by
  unfold marks at hk
  rcases List.mem_append.mp hk with hk | hk
  · rcases List.mem_append.mp hk with hk | hk
    · rw [List.mem_singleton.mp hk]
      decide
    · obtain ⟨r, hr, rfl⟩ := List.mem_map.mp hk
      have h1 := (h r hr).ok.1
      have h2 := (h r hr).b1
      omega
  · obtain ⟨r, hr, e⟩ := List.mem_filterMap.mp hk
    obtain ⟨j, ej, rfl⟩ := Option.map_eq_some_iff.mp e
    have h1 := (h r hr).ok.1
    have h2 := (h r hr).ok.2 j ej
    have h3 := (h r hr).b2 j ej
    omega
theorem want_neg {k : Int} {a b : Bool} (ha : a = false) (hb : b = false) : wantB k a b = false := by
  subst ha hb
  unfold wantB
  split
  · rfl
  · split
    · rfl
    · split <;> rfl
section
variable {P : Program} {w : World} {K : PySem.W.Frag} {mg : Str → Option Value} {base : Heap} {C CN : Addr} {cM PM cY PY : Addr}
/-- the walk over the marks of both lists finds what is wanted -/
theorem due_two {k : Int} {rs ms : List Row} {ns : List Int} (hr : ∀ r ∈ rs, RBd r) (hm : ∀ r ∈ ms, RBd r) (pw : ns.Pairwise (· < ·)) (mem : ∀ d, d ∈ ns ↔ d ∈ marks rs ++ marks ms) :
    LD.Can (ns.foldl (LD.stepD fun d => wantB k (LD.insB rs d) (LD.insB ms d)) []) ∧ (∀ d, LD.Ins (ns.foldl (LD.stepD fun d => wantB k (LD.insB rs d) (LD.insB ms d)) []) d ↔ wantB k (LD.insB rs d) (LD.insB ms d) = true) ∧
      ∀ r ∈ ns.foldl (LD.stepD fun d => wantB k (LD.insB rs d) (LD.insB ms d)) [], Sm r := by
  have o1 : ∀ r ∈ rs, RB r := fun r h => (hr r h).rb
  have o2 : ∀ r ∈ ms, RB r := fun r h => (hm r h).rb
  obtain ⟨c1, c2⟩ := LD.walk_ok (w := fun d => wantB k (LD.insB rs d) (LD.insB ms d)) (ms := ns) (fun d hd => want_neg (LD.ins_neg (fun r h => (o1 r h).ok) hd) (LD.ins_neg (fun r h => (o2 r h).ok) hd)) pw (fun n hn => by
    rcases List.mem_append.mp ((mem n).mp hn) with h | h
    · exact marks_nn o1 n h
    · exact marks_nn o2 n h) fun d hne => by
    rw [mem, List.mem_append]
    by_cases h1 : LD.insB rs d = LD.insB rs (d - 1)
    · by_cases h2 : LD.insB ms d = LD.insB ms (d - 1)
      · exact absurd (by rw [h1, h2]) hne
      · rcases LD.chg h2 with ⟨r, hr, rfl⟩ | ⟨r, hr, j, ej, rfl⟩
        · exact .inr (marks_f r hr)
        · exact .inr (marks_l r hr j ej)
    · rcases LD.chg h1 with ⟨r, hr, rfl⟩ | ⟨r, hr, j, ej, rfl⟩
      · exact .inl (marks_f r hr)
      · exact .inl (marks_l r hr j ej)
  refine ⟨c1, c2, foldD_sm ns [] nofun fun d hd => ?_⟩
  rcases List.mem_append.mp ((mem d).mp hd) with h | h
  · exact marks_up hr d h
  · exact marks_up hm d h
/-- all defs of the text -/
structure Fs (K : PySem.W.Frag) (mg : Str → Option Value) (C CN cM cY : Addr) : Prop extends Pu K mg C CN cM where
  cell : ∃ f fd, Has K mg "_law_cell" ["_law_script", "_law_k"] sCell f fd
  pot : ∃ f fd, Has K mg "_law_pot" ["_law_script", "_law_k"] sPot f fd
  take : ∃ f fd, TakeFn K mg f fd
  far : ∃ f fd, PotFn K mg "_law_far" sFar f fd
  rows : ∃ f fd, Has K mg "_law_rows" ["_law_pot_here", "_law_most"] sRows f fd
  handed : ∃ f fd, Has K mg "_law_handed" ["_law_pot_here", "_law_rows_here"] sHanded f fd
  lin : ∃ f fd, Has K mg "_law_in" ["_law_rows_here", "_law_day"] sIn f fd
  marks : ∃ f fd, Has K mg "_law_marks" ["_law_rows_here"] sMarks f fd
  due : ∃ f fd, Has K mg "_law_due" ["_law_marks_here", "_law_wanted_here"] sDue f fd
  read : ∃ f fd, Has K mg "_law_read" ["_law_told_here"] sRead f fd
  told : ∃ f fd, Has K mg "_law_told" nTold sTold f fd
  wanted : ∃ f fd, Has K mg "_law_wanted" ["_law_way", "_law_rows_here", "_law_more", "_law_day"] sWanted f fd
  shown : ∃ f fd, Has K mg "_law_shown" ["_law_handed_here"] sShown f fd
  right : ∃ f fd, FunC K "_law_right" "_law_right" sRightL f cY fd ∧ L2.Binds K fd pRight [] ∧ mg "_law_right" = some (.ref f)
def spRight (C PM PY : Addr) : Sp := fun vs H Q _ => ∃ p q rp mp xs ys zs us ss ts rs ms, vs = [.ref p, .ref q, .ref rp, .ref mp] ∧ Two C p q H xs ys ss ts ∧ H rp = some (.lst zs) ∧ TRs H zs rs ∧ H mp = some (.lst us) ∧ TRs H us ms ∧ (∀ r, r ∈ ss ↔ r ∈ rs) ∧ (∀ r, r ∈ ts ↔ r ∈ ms) ∧
  ss.length ≤ 50 ∧ ts.length ≤ 50 ∧ rs.length ≤ 50 ∧ ms.length ≤ 50 ∧ Tabs (TT2 PM PY) H ∧ ∀ H', ExtN H H' → Tabs (TT2 PM PY) H' → Q (.bl true) H'
theorem ok_right {f : Addr} {fd : FuncData} (F : FunC K "_law_right" "_law_right" sRightL f cY fd) (T : Tx mg) (S : Fs K mg C CN cM cY) (B : Tb base mg cM PM cY PY) : FnG P w K mg base CX0 9 f fd pRight (spRight C PM PY) := by
  obtain ⟨_, _, FI⟩ := S.lin
  obtain ⟨_, _, FK⟩ := S.marks
  obtain ⟨_, _, FU⟩ := S.due
  obtain ⟨_, _, FR⟩ := S.read
  obtain ⟨_, _, FT⟩ := S.told
  obtain ⟨_, _, FW⟩ := S.wanted
  have GK : FnOk P w K mg base CX0 1 _ _ ["_law_rows_here"] spMarks := ok_marks FK.fn
  have GR : FnG P w K mg base CX0 2 _ _ ["_law_told_here"] (spRead C) := ok_read FR.fn T S.toPm
  have GT : FnOk P w K mg base CX0 8 _ _ nTold (spTold C PM PY) := ok_told FT.fn T S.toPu B
  have GW : FnOk P w K mg base CX0 2 _ _ ["_law_way", "_law_rows_here", "_law_more", "_law_day"] spWanted := ok_wanted FW.fn T FI
  obtain ⟨oc, od, kV, doc, pm, an, cdU, ct, osl, rfl, lk, hcd⟩ := FU.fn.ex
  refine F.okG scRight (fun h => ?_) (fun A outer s H vs Q E hG hr h => ?_)
  · obtain ⟨p, q, rp, mp, xs, ys, zs, us, ss, ts, rs, ms, rfl, _⟩ := h
    rfl
  · obtain ⟨p, q, rp, mp, xs, ys, zs, us, ss, ts, rs, ms, rfl, tw, hrp, hz, hmp, hu', hm1, hm2, ls, lt, lr, lm, hT, fin⟩ := h
    have nd := scRight.nd
    have hu := hr.units
    have hr1 : Room 1 _ := hr.mono (by decide)
    have hr2 : Room 2 _ := hr.mono (by decide)
    have hr3 : Room 3 _ := hr.mono (by decide)
    have hr4 : Room 4 _ := hr.mono (by decide)
    have hG2 : (cxOf CX0 P w K mg base nRight "_law_right" (defScope sRightL) f (.ref cY) A outer s H E).nox.A.guards = some [] := hG
    have hU : ∀ p ∈ TT2 PM PY, p.1 = PY → p.2 = (cxOf CX0 P w K mg base nRight "_law_right" (defScope sRightL) f (.ref cY) A outer s H E).nox.env.qual ++ "<lambda>" := fun p hp e => by
      rcases List.mem_cons.mp hp with rfl | hp
      · exact absurd e B.ne
      · rw [List.mem_singleton.mp hp]
        rfl
    refine ⟨_, pss_cons (ps_set (i := 4) nd rfl (.inl rfl) (pe_op op_cat (pe_call GK hr1 (by rfl) FK.gl FK.fn.kp FK.bd .nil pass0 (pa_cons (pv 2) pa_nil)) (pe_call GK hr1 (by rfl) FK.gl FK.fn.kp FK.bd .nil pass0 (pa_cons (pv 3) pa_nil))))
      (pss_cons (ps_for PassesOwn.never rfl (pi_range1 (by rfl) T.range (pa_cons pe_int pa_nil)) (pg_name (i := 5) nd rfl (.inr rfl))
        (pss_cons (ps_set (i := 6) nd rfl (.inl rfl) (pe_callB (call_reprRows hG2 hu) (by rfl) T.repr (by decide +kernel) (pa_cons (pe_lamArg (T := TT2 PM PY) (TT := TTd) (k := 2) (y := "_law_day") (Ng := nDue) (by rfl) FU.gl FU.fn.kp lk hcd FU.bd scDue rfl (.inl rfl) (due_takes T hr3 _ _ _)
            (pv 4) B.y rfl (List.mem_cons_of_mem _ List.mem_cons_self) hU hr4 (show LamP (defScope sRightL) _ _ from lamP_by (by decide +kernel)) (show ("_law_day" : Str) ∉ nRight by decide) rfl (fun _ _ _ _ _ _ => rfl)
            (fun A outer s H f c' hr3 => pe_call GW hr3 (by rfl) FW.gl FW.fn.kp FW.bd .nil pass0 (pa_cons (pv 6) (pa_cons (pv 3) (pa_cons (pv 4) (pa_cons (pv 0) pa_nil)))))) pa_nil)))
        (pss_cons (ps_par (i := 7) (j := 8) (by rfl) nd rfl rfl (by decide) rfl rfl (pa_cons (pe_call GT hr (by rfl) FT.gl FT.fn.kp FT.bd .nil pass0 (pa_cons (pv 5) (pa_cons (pv 0) (pa_cons (pv 1) pa_nil)))) (pa_cons (pe_call GT hr (by rfl) FT.gl FT.fn.kp FT.bd .nil pass0 (pa_cons (pv 5) (pa_cons (pv 0) (pa_cons (pv 1) pa_nil)))) pa_nil)) (by rfl))
        (pss_cons (ps_if (PW.pt (pw_or (pt_cmpR op_ne (pe_callG GR hG2 hr2 (by rfl) FR.gl FR.fn.kp FR.bd .nil pass0 (pa_cons (pv 7) pa_nil)) (pv 6) (nomark _))
            (pw_or1 (pt_cmpR op_ne (pe_callG GR hG2 hr2 (by rfl) FR.gl FR.fn.kp FR.bd .nil pass0 (pa_cons (pv 8) pa_nil)) (pv 6) (nomark _))))) (pss_one (ps_ret pe_bl)) pss_nil)
        (pss_cons (ps_expr (pe_bm PySem.F.plainAttrs_list PySem.F.slot_list_append PySem.F.type_list_append mt_append (pv 7) (pa_cons pe_non pa_nil)))
        (pss_one (ps_if (PW.pt (pw_or (pt_cmpR op_ne (pe_callG GR hG2 hr2 (by rfl) FR.gl FR.fn.kp FR.bd .nil pass0 (pa_cons (pv 8) pa_nil)) (pv 6) (nomark _))
            (pw_or1 (pt_cmpR op_ne (pe_callG GR hG2 hr2 (by rfl) FR.gl FR.fn.kp FR.bd .nil pass0 (pa_cons (pe_call GT hr (by rfl) FT.gl FT.fn.kp FT.bd .nil pass0 (pa_cons (pv 5) (pa_cons (pv 0) (pa_cons (pv 1) pa_nil)))) pa_nil)) (pv 6) (nomark _))))) (pss_one (ps_ret pe_bl)) pss_nil)))))))
      (pss_one (ps_ret pe_bl))), ?_⟩
    have okr := hz.rb
    have okm := hu'.rb
    have fw : Few ss ts := ⟨by omega, by omega, fun r hr j ej => by have := (okr r ((hm1 r).mp hr)).b2 j ej; omega, fun r hr j ej => by have := (okm r ((hm2 r).mp hr)).b2 j ej; omega⟩
    -- the marks
    refine ⟨_, rfl, rp, zs, rs, rfl, hrp, hz, by omega, fun a1 H1 n1 s1 h1 => ?_⟩
    refine ⟨_, rfl, mp, us, ms, rfl, s1 _ _ hmp, hu'.imp fun _ _ z => z.ext (extN_same s1), by omega, fun a2 H2 n2 s2 h2 => ?_⟩
    have m1 := marks_len rs
    have m2 := marks_len ms
    refine ⟨a1, a2, _, _, rfl, rfl, s2 _ _ h1, h2, Nat.le_of_lt (small1000 (by rw [List.length_map, List.length_map]; omega)), fun M nM => ?_⟩
    rw [← List.map_append]
    have s3 := same_upd (o := .lst ((marks rs ++ marks ms).map V.int)) nM
    have hM := upd_same (H := H2) (a := M) (o := .lst ((marks rs ++ marks ms).map V.int))
    generalize upd H2 M (.lst ((marks rs ++ marks ms).map V.int)) = H3 at *
    have s13 := (s1.trans s2).trans s3
    have e13 := extN_same s13
    refine ⟨4, rfl, by decide, by decide, for_range (lo := 0) (n := 4) (fun i σ H' => ∃ y5 y6 y7 y8, σ = [some (.ref p), some (.ref q), some (.ref rp), some (.ref mp), some (.ref M), y5, y6, y7, y8] ∧ ExtN H3 H' ∧ Tabs (TT2 PM PY) H') ⟨none, none, none, none, rfl, ExtN.refl _, hT.ext s13⟩ ?_ ?_⟩
    · rintro i σ H4 hi ⟨y5, y6, y7, y8, rfl, e4, T4⟩
      rw [Int.zero_add]
      have k0 : (0 : Int) ≤ (i : Nat) := Int.natCast_nonneg i
      have k4 : ((i : Nat) : Int) < 4 := by omega
      generalize ((i : Nat) : Int) = k at *
      have eH4 : ExtN H H4 := e13.trans e4
      -- repr(due)
      refine ⟨_, rfl, T4, fun H5 e5 T5 => ?_⟩
      have e35 := e4.trans e5
      have eH5 := eH4.trans e5
      refine ⟨M, marks rs ++ marks ms, fun d => wantB k (LD.insB rs d) (LD.insB ms d), rfl, e35 _ _ hM nofun, by rw [List.length_append]; omega, fun d Hx Q' sx hx' => ?_, fun a us5 R ns H6 na s6 hpw hmem hR hul ha hd => ?_⟩
      · exact ⟨_, rfl, _, rfl, _, rfl, _, rfl, k, rp, mp, zs, us, rs, ms, d, rfl, k0, k4, sx _ _ (eH5 _ _ hrp nofun), hz.imp fun _ _ z => (z.ext eH5).ext (extN_same sx), by omega, sx _ _ (eH5 _ _ hmp nofun), hu'.imp fun _ _ z => (z.ext eH5).ext (extN_same sx), by omega, fun Hy sy => hx' Hy sy⟩
      obtain ⟨c1, c2, c3⟩ := due_two (k := k) okr okm hpw hmem
      rw [← hR] at c1 c2 c3
      have asR := LD.asc_of c1
      have isR : ∀ d, LD.Ins R.reverse d ↔ wantB k (LD.insB rs d) (LD.insB ms d) = true := fun d => by rw [LD.ins_rev, c2]
      have ul := hd.length
      have lR : R.reverse.length ≤ 500 := by
        rw [List.length_reverse]
        omega
      have e6 : ExtN H4 H6 := e5.trans (extN_same s6)
      have eH6 := eH4.trans e6
      have T6 := T5.ext s6
      have same : ∀ {L : List Row}, LD.Asc L → (∀ d, LD.Ins L d ↔ wantB k (LD.insB ss d) (LD.insB ts d) = true) → L = R.reverse := fun {L} h1 h2 => LD.asc_uniq h1 asR fun d => by
        rw [h2, isR, insB_congr hm1, insB_congr hm2]
      refine ⟨.ref a, R.reverse, rfl, .lst (SqL.of ha) hd.reverse.dp, fun r hr => c3 r (List.mem_reverse.mp hr), lR, ?_⟩
      -- the two tellings
      refine ⟨_, rfl, _, rfl, _, rfl, k, p, q, xs, ys, ss, ts, rfl, k0, k4, tw.ext eH6, fw, T6, fun a1' z1 L1 H7 n1' e7 T7 h1' sr1 as1 in1 _ => ?_⟩
      obtain rfl := same as1 in1
      have eH7 := eH6.trans e7
      refine ⟨_, rfl, _, rfl, _, rfl, k, p, q, xs, ys, ss, ts, rfl, k0, k4, tw.ext eH7, fw, T7, fun a2' z2 L2 H8 n2' e8 T8 h2' sr2 as2 in2 _ => ?_⟩
      obtain rfl := same as2 in2
      refine ⟨_, _, rfl, ?_⟩
      have h18 := e8 _ _ h1' nofun
      have n12 : a1' ≠ a2' := fun e => by
        subst e
        obtain ⟨_, z⟩ := n2' _ h1'
        cases z
      refine ⟨_, rfl, a1', z1, _, rfl, h18, sr1.ext e8, lR, fun H9 s9 => ?_⟩
      refine ⟨_, rfl, rfl, _, rfl, ?_⟩
      rw [ne_self]
      refine ⟨_, rfl, a2', z2, _, rfl, s9 _ _ h2', sr2.ext (extN_same s9), lR, fun H10 s10 => ?_⟩
      refine ⟨_, rfl, rfl, _, rfl, ?_⟩
      rw [ne_self]
      refine iteF ?_
      have s810 := s9.trans s10
      have e810 := extN_same s810
      have h110 := s810 _ _ h18
      have h210 := s810 _ _ h2'
      have zl1 := sr1.length
      refine ⟨_, rfl, .inl ⟨rfl, _, SqL.of h110⟩, a1', _, _, rfl, rfl, h110, small1000 (by omega), ?_⟩
      have e410 : ExtN H4 H10 := ((e6.trans e7).trans e8).trans e810
      have new1 : NewN H4 a1' := NewN.back e6 n1'
      have e11 : ExtN H4 (upd H10 a1' (.lst (z1 ++ [.non]))) := extN_updW e410 new1
      have T11 : Tabs (TT2 PM PY) (upd H10 a1' (.lst (z1 ++ [.non]))) := K14.Tabs.updL (T8.ext s810) h110
      have sr211 : SRs C (upd H10 a1' (.lst (z1 ++ [.non]))) z2 R.reverse := (sr2.ext e810).updL h110
      have h211 : upd H10 a1' (.lst (z1 ++ [.non])) a2' = some (.lst z2) := by
        rw [upd_ne n12.symm]
        exact h210
      generalize upd H10 a1' (.lst (z1 ++ [.non])) = H11 at *
      refine ⟨_, rfl, a2', z2, _, rfl, h211, sr211, lR, fun H12 s12 => ?_⟩
      refine ⟨_, rfl, rfl, _, rfl, ?_⟩
      rw [ne_self]
      have e12 := e11.trans (extN_same s12)
      have eH12 := eH4.trans e12
      refine ⟨_, rfl, _, rfl, _, rfl, k, p, q, xs, ys, ss, ts, rfl, k0, k4, tw.ext eH12, fw, T11.ext s12, fun a3' z3 L3 H13 n3' e13' T13 h3' sr3 as3 in3 _ => ?_⟩
      obtain rfl := same as3 in3
      refine ⟨a3', z3, _, rfl, h3', sr3, lR, fun H14 s14 => ?_⟩
      refine ⟨_, rfl, rfl, _, rfl, ?_⟩
      rw [ne_self]
      refine iteF ?_
      exact ⟨_, _, _, _, rfl, e4.trans ((e12.trans e13').trans (extN_same s14)), T13.ext s14⟩
    · rintro σ H4 ⟨y5, y6, y7, y8, rfl, e4, T4⟩
      exact fin H4 (e13.trans e4) T4
end
end K14

set_option Elab.async false
set_option linter.all false
set_option maxRecDepth 100000
set_option maxHeartbeats 3200000
namespace K14
open PySem PySem.Spec PyProof.Rows L2 LT LamX
abbrev nLaw : List Str := ["_law_script", "_law_k", "_law_pot_here", "_law_way", "_law_rows_here", "_law_more", "_law_one_list", "_law_other_list", "_law_at", "_law_kept"]
theorem scLaw : FnScope nLaw ["_law_script"] (defScope sLaw) := ⟨rfl, rfl, rfl, by decide +kernel, rfl, by decide +kernel, by decide +kernel⟩
theorem Pot.extN {H H' : Hp} {p : Addr} (h : Pot H p) (e : ExtN H H') : Pot H' p := by
  obtain ⟨a, b, hp, r⟩ := h
  exact ⟨a, b, e _ _ hp nofun, r⟩
def twoD (ss ts : List Row) : PyData := .list [.list (ss.map rowD), .list (ts.map rowD)]
theorem twoD_lay (ss ts : List Row) : (twoD ss ts).canLay0 = true := by
  have h1 := rowsD_canL ss
  have h2 := rowsD_canL ts
  simp only [twoD, PyData.canLay0, PyData.canLayAll0] at *
  simp [h1, h2]
theorem twoD_shaped (ss ts : List Row) : SeqAt.shaped (twoD ss ts) = true := by
  have h1 := rowsD_depth ss
  have h2 := rowsD_depth ts
  have h3 : (twoD ss ts).depth ≤ 64 := by
    simp only [twoD, PyData.depth, PyData.depthAll]
    omega
  show ((twoD ss ts).canLay0 && decide ((twoD ss ts).depth ≤ 64)) = true
  rw [Bool.and_eq_true]
  exact ⟨twoD_lay ss ts, decide_eq_true h3⟩
/-- what the second side is -/
structure Sv where
  q : Addr
  ys : List V
  ts : List Row
  mp : Addr
  us : List V
  ms : List Row
  y8 : Option V
structure Jl (C P0 p rp : Addr) (way : Int) (H1 : Hp) (xs zs : List V) (ss rs : List Row) (z : Sv) (Hx : Hp) : Prop where
  hp0 : Pot Hx P0
  sm : Same H1 Hx
  tw : Two C p z.q Hx xs z.ys ss z.ts
  hrp : Hx rp = some (.lst zs)
  hz : TRs Hx zs rs
  hmp : Hx z.mp = some (.lst z.us)
  hu : TRs Hx z.us z.ms
  mem : ∀ r, r ∈ z.ts ↔ r ∈ z.ms
  lt : z.ts.length ≤ 30
  lm : z.ms.length ≤ 30
  ne : way ≠ 1 → z.q ≠ p
  nm : z.mp ≠ p
section
variable {P : Program} {w : World} {K : PySem.W.Frag} {mg : Str → Option Value} {base : Heap} {C CN : Addr} {cM PM cY PY : Addr}
def spLaw (K : PySem.W.Frag) (PM PY : Addr) : Sp := fun vs H Q _ => ∃ (a : Addr) (ns : List Int), vs = [.ref a] ∧ SqL K H a (ns.map V.int) ∧ ns.length ≤ 63 ∧ Tabs (TT2 PM PY) H ∧ ∀ H', Q (.bl true) H'
theorem ok_law {f : Addr} {fd : FuncData} (F : Fun K "law" "law" sLaw f fd) (T : Tx mg) (S : Fs K mg C CN cM cY) (B : Tb base mg cM PM cY PY) : FnG P w K mg base CX0 10 f fd ["_law_script"] (spLaw K PM PY) := by
  obtain ⟨_, _, FD⟩ := S.day
  obtain ⟨_, _, FW⟩ := S.whole
  obtain ⟨_, _, M, FI, bI⟩ := S.init
  obtain ⟨_, _, FO, _⟩ := S.only
  obtain ⟨_, _, FC⟩ := S.cell
  obtain ⟨_, _, FP⟩ := S.pot
  obtain ⟨_, _, FT⟩ := S.take
  obtain ⟨_, _, FF⟩ := S.far
  obtain ⟨_, _, FR⟩ := S.rows
  obtain ⟨_, _, FH⟩ := S.handed
  obtain ⟨_, _, FE⟩ := S.read
  obtain ⟨_, _, FS⟩ := S.shown
  obtain ⟨_, _, FY, bY, gY⟩ := S.right
  have Z := S.ct
  have GI : FnOk P w K mg base (L2.CX P w) 4 _ _ ["self", "first", "last"] (spInit C CN) := ok_init FI T Z FD FW
  have GO : FnOk P w K mg base CX0 7 _ _ ["some", "others"] (spTell C PM PY onlyB) := ok_only FO.fn T S.toPt B
  have GP : FnOk P w K mg base CX0 2 _ _ ["_law_script", "_law_k"] (spPot K) := ok_pot FP.fn T FC.fn FC.bd FC.gl
  have GT : FnOk P w K mg base CX0 1 _ _ ["_law_pot_here", "_law_room"] spTake := ok_take FT.fn T
  have GR : FnOk P w K mg base CX0 3 _ _ ["_law_pot_here", "_law_most"] spRows := ok_rows FR.fn T FT FF
  have GH : FnOk P w K mg base CX0 6 _ _ ["_law_pot_here", "_law_rows_here"] (spHanded C) := ok_handed FH.fn T S.toPm FT
  have GE : FnG P w K mg base CX0 2 _ _ ["_law_told_here"] (spRead C) := ok_read FE.fn T S.toPm
  have GS : FnOk P w K mg base CX0 2 _ _ ["_law_handed_here"] (spShown C) := ok_shown FS.fn S.toPm
  have GY : FnG P w K mg base CX0 9 _ _ pRight (spRight C PM PY) := ok_right FY T S B
  obtain ⟨d1, v1, b1⟩ := FI.binds1 (ps := ["self", "first", "last"]) 2 0 (by simp) (by rfl) (fun _ _ _ _ _ _ _ us its h1 h2 => match us, its, h1, h2 with | [_, _], [_], _, _ => ⟨_, rfl, rfl⟩)
  refine okG F scLaw (fun h => ?_) (fun cdv A outer s H vs Q E hG hr h => ?_)
  · obtain ⟨a, ns, rfl, _⟩ := h
    rfl
  · obtain ⟨a, ns, rfl, hS, hlen, hT, q0⟩ := h
    have nd := scLaw.nd
    have hu := hr.units
    have hr1 : Room 1 _ := hr.mono (by decide)
    have hr2 : Room 2 _ := hr.mono (by decide)
    have hr3 : Room 3 _ := hr.mono (by decide)
    have hr4 : Room 4 _ := hr.mono (by decide)
    have hr5 : Room 5 _ := hr.mono (by decide)
    have hr6 : Room 6 _ := hr.mono (by decide)
    have hr7 : Room 7 _ := hr.mono (by decide)
    have hG2 : (cxOf CX0 P w K mg base nLaw "law" (defScope sLaw) f cdv A outer s H E).nox.A.guards = some [] := hG
    refine ⟨_, pss_cons (ps_for PassesOwn.never rfl (pi_range1 (by rfl) T.range (pa_cons (pe_callB (call_max2 rfl) (by rfl) T.max (by decide +kernel) (pa_cons pe_int (pa_cons
          (pe_callB (call_min2 rfl) (by rfl) T.min (by decide +kernel) (pa_cons (pe_callB call_len_seq (by rfl) T.len PySem.boot_len (pa_cons (pv 0) pa_nil)) (pa_cons pe_int pa_nil))) pa_nil))) pa_nil)) (pg_name (i := 1) nd rfl (.inl rfl))
        (pss_cons (ps_set (i := 2) nd rfl (.inl rfl) (pe_call GP hr2 (by rfl) FP.gl FP.fn.kp FP.bd .nil pass0 (pa_cons (pv 0) (pa_cons (pv 1) pa_nil))))
        (pss_cons (ps_set (i := 3) nd rfl (.inl rfl) (pe_call GT hr1 (by rfl) FT.gl FT.fn.kp FT.bd .nil pass0 (pa_cons (pv 2) (pa_cons pe_int pa_nil))))
        (pss_cons (ps_set (i := 4) nd rfl (.inl rfl) (pe_call GR hr3 (by rfl) FR.gl FR.fn.kp FR.bd .nil pass0 (pa_cons (pv 2) (pa_cons pe_int pa_nil))))
        (pss_cons (ps_set (i := 5) nd rfl (.inl rfl) (pe_call GR hr3 (by rfl) FR.gl FR.fn.kp FR.bd .nil pass0 (pa_cons (pv 2) (pa_cons pe_int pa_nil))))
        (pss_cons (ps_set (i := 6) nd rfl (.inl rfl) (pe_call GH hr6 (by rfl) FH.gl FH.fn.kp FH.bd .nil pass0 (pa_cons (pv 2) (pa_cons (pv 4) pa_nil))))
        (pss_cons (ps_set (i := 7) nd rfl (.inl rfl) (pe_call GH hr6 (by rfl) FH.gl FH.fn.kp FH.bd .nil pass0 (pa_cons (pv 2) (pa_cons (pv 5) pa_nil))))
        (pss_cons (ps_if (PW.pt (pw_and (pt_cmpR op_eq (pv 3) pe_int (nomark _)) (pw_and1 (pt_cmpR (op_neNil hu) (pv 4) (pe_lst pa_nil) (nomark _)))))
          (pss_cons (ps_set (i := 8) nd rfl (.inl rfl) (pe_call GT hr1 (by rfl) FT.gl FT.fn.kp FT.bd .nil pass0 (pa_cons (pv 2) (pa_cons (pe_callB call_len_seq (by rfl) T.len PySem.boot_len (pa_cons (pv 4) pa_nil)) pa_nil))))
          (pss_cons (ps_set (i := 7) nd rfl (.inl rfl) (pe_op op_cat (pe_callTy call_list_of (by rfl) T.list (by decide +kernel) (pa_cons (pv 7) pa_nil)) (pe_lst (pa_cons (pe_ix ix_seq (pv 6) (pv 8) (fun _ _ => rfl)) pa_nil))))
          (pss_one (ps_set (i := 5) nd rfl (.inl rfl) (pe_op op_cat (pv 5) (pe_lst (pa_cons (pe_ix ix_list (pv 4) (pv 8) (fun _ _ => rfl)) pa_nil))))))) pss_nil)
        (pss_cons (ps_if (pt_cmpR op_eq (pv 3) pe_int (nomark _)) (pss_one (ps_par (i := 7) (j := 5) (by rfl) nd rfl rfl (by decide) rfl rfl (pa_cons (pv 6) (pa_cons (pv 4) pa_nil)) (by rfl))) pss_nil)
        (pss_cons (ps_set (i := 9) nd rfl (.inl rfl) (pe_lst (pa_cons (pe_call GS hr2 (by rfl) FS.gl FS.fn.kp FS.bd .nil pass0 (pa_cons (pv 6) pa_nil)) (pa_cons (pe_call GS hr2 (by rfl) FS.gl FS.fn.kp FS.bd .nil pass0 (pa_cons (pv 7) pa_nil)) pa_nil))))
        (pss_cons (ps_if (PW.pt (pw_or (pt_not (pt_val (pe_callG GY hG2 hr (by rfl) gY FY.kp bY .nil pass0 (pa_cons (pv 6) (pa_cons (pv 7) (pa_cons (pv 4) (pa_cons (pv 5) pa_nil)))))))
            (pw_or1 (pt_cmpR (op_neD hu) (pe_lst (pa_cons (pe_call GS hr2 (by rfl) FS.gl FS.fn.kp FS.bd .nil pass0 (pa_cons (pv 6) pa_nil)) (pa_cons (pe_call GS hr2 (by rfl) FS.gl FS.fn.kp FS.bd .nil pass0 (pa_cons (pv 7) pa_nil)) pa_nil))) (pv 9) (nomark _))))) (pss_one (ps_ret pe_bl)) pss_nil)
        (pss_one (ps_if (PW.pt (pw_and (pt_val (pe_callB call_isi (by rfl) T.isi (by decide +kernel) (pa_cons (pv 6) (pa_cons (pe_bltn (v := .ty "list") (by rfl) T.list (by decide +kernel) rfl) pa_nil)))) (pw_and1 (pt_cmpR op_ne (pv 3) pe_int (nomark _)))))
          (pss_cons (ps_expr (pe_bm0 PySem.F.plainAttrs_list PySem.F.slot_list_clear PySem.F.type_list_clear mt_clear (pv 6)))
          (pss_one (ps_if (pt_not (pt_val (pe_callG GY hG2 hr (by rfl) gY FY.kp bY .nil pass0 (pa_cons (pv 6) (pa_cons (pv 7) (pa_cons (pe_lst pa_nil) (pa_cons (pv 5) pa_nil))))))) (pss_one (ps_ret pe_bl)) pss_nil)))
          pss_nil)))))))))))))
      (pss_one (ps_ret (pe_cmpR op_eq (pe_callG GE hG2 hr2 (by rfl) FE.gl FE.fn.kp FE.bd .nil pass0 (pa_cons (pe_call GO hr7 (by rfl) FO.gl FO.fn.kp FO.bd .nil pass0 (pa_cons (pe_lst (pa_cons (pe_make M GI hr5 (by rfl) Z.mgC b1 v1 passL (pa_cons pe_int pa_nil)) pa_nil))
        (pa_cons (pe_lst (pa_cons (pe_make M GI hr5 (by rfl) Z.mgC bI .nil passL (pa_cons pe_int (pa_cons pe_int pa_nil))) pa_nil)) pa_nil))) pa_nil)) pe_str (nomark _)))), ?_⟩
    refine ⟨_, rfl, a, _, rfl, .inl hS, _, _, rfl, _, _, rfl, ?_⟩
    generalize hN : (if (if (12 : Int) < ((ns.map V.int).length : Nat) then (12 : Int) else ((ns.map V.int).length : Nat)) > 1 then (if (12 : Int) < ((ns.map V.int).length : Nat) then (12 : Int) else ((ns.map V.int).length : Nat)) else 1) = N
    have hN1 : 1 ≤ N ∧ N ≤ 12 := by
      rw [← hN]
      split <;> (try split) <;> omega
    refine ⟨N, rfl, by omega, by omega, for_range (lo := 0) (n := N.toNat) (fun i σ H' => ∃ x1 x2 x3 x4 x5 x6 x7 x8 x9, σ = [some (.ref a), x1, x2, x3, x4, x5, x6, x7, x8, x9] ∧ ExtN H H' ∧ Tabs (TT2 PM PY) H') ⟨none, none, none, none, none, none, none, none, none, rfl, ExtN.refl H, hT⟩ ?_ ?_⟩
    · rintro i σ H1 hi ⟨x1, x2, x3, x4, x5, x6, x7, x8, x9, rfl, eN, tN⟩
      refine ⟨_, rfl, _, rfl, a, ns, i, (by rw [Int.zero_add]; rfl), extN_seqL eN hS, by omega, fun po H2 np s2 hp2 => ?_⟩
      refine ⟨_, rfl, po, 4, rfl, hp2, by decide, by decide, fun way H3 w0 w4 hp3 sb3 => ?_⟩
      refine ⟨_, rfl, po, 10, rfl, hp3, by decide, by decide, fun rp zs rs H4 nrp nrpp hrp hz hrl hp4 sb4 => ?_⟩
      refine ⟨_, rfl, po, 10, rfl, hp4, by decide, by decide, fun mp us ms H5 nmp nmpp hmp hu5 hml hp5 sb5 => ?_⟩
      have hrp5 := sb5 _ _ nrpp hrp
      have hz5 : TRs H5 zs rs := hz.imp fun _ _ z => z.extB hp4 sb5
      refine ⟨_, rfl, _, rfl, po, rp, zs, rs, rfl, hp5, hrp5, hz5, by omega, fun p xs ss H6 nP npp hp6' hx6 hm6 hq6 hl6 hp6 sb6 => ?_⟩
      have hmp6 := sb6 _ _ nmpp hmp
      have hu6 : TRs H6 us ms := hu5.imp fun _ _ z => z.extB hp5 sb6
      refine ⟨_, rfl, _, rfl, po, mp, us, ms, rfl, hp6, hmp6, hu6, by omega, fun q ys ts H7 nQ nqp hq7 hy7 hm7 _ hl7 hp7 sb7 => ?_⟩
      have sb17 : SameB po H1 H7 := (((((SameB.of s2).trans sb3).trans sb4).trans sb5).trans sb6).trans sb7
      have sm7 : Same H1 H7 := sameB_new np (Same.refl _) sb17
      have hrl : rs.length ≤ 10 := by omega
      have hml : ms.length ≤ 10 := by omega
      have hp7' : Sd H7 p xs := hp6'.imp (sb7 _ _ npp) (sb7 _ _ npp)
      have hx7 : SRs C H7 xs ss := hx6.imp fun _ _ z => z.extB hp6 sb7
      have hrp7 := sb7 _ _ nrpp (sb6 _ _ nrpp hrp5)
      have hz7 : TRs H7 zs rs := (hz5.imp fun _ _ z => z.extB hp5 sb6).imp fun _ _ z => z.extB hp6 sb7
      have hmp7 := sb7 _ _ nmpp hmp6
      have hu7 : TRs H7 us ms := hu6.imp fun _ _ z => z.extB hp6 sb7
      have nqp' : q ≠ p := fun e => by
        subst e
        rcases hp6' with z | z <;> (rw [nQ] at z; cases z)
      have nrp1 : rp ≠ p := ne_of_none hrp5 nP
      have nmp1 : mp ≠ p := ne_of_none hmp nP
      have np1 : H1 p = none := (((((SameB.of s2).trans sb3).trans sb4).trans sb5)).none hp5 nP
      have J7 : Jl C po p rp way H1 xs zs ss rs ⟨q, ys, ts, mp, us, ms, x8⟩ H7 := ⟨hp7, sm7, ⟨hp7', hq7, hx7, hy7⟩, hrp7, hz7, hmp7, hu7, hm7, by show ts.length ≤ 30; omega, by show ms.length ≤ 30; omega, fun _ => nqp', nmp1⟩
      have okr := hz7.rb
      -- the second side made of the first one's stretch
      apply join (α := Sv) (J := Jl C po p rp way H1 xs zs ss rs) (sl := fun z => [some (.ref a), some (.int (0 + (i : Nat))), some (.ref po), some (.int way), some (.ref rp), some (.ref z.mp), some (.ref p), some (.ref z.q), z.y8, x9])
      · intro h
        refine ⟨_, rfl, rfl, _, rfl, ?_⟩
        cases hw : decide (V.int way = V.int 0) with
        | false =>
          have go := h ⟨q, ys, ts, mp, us, ms, x8⟩ H7 J7
          exact iteF (iteF go)
        | true =>
          have hw0 : way = 0 := V.int.inj (of_decide_eq_true hw)
          refine iteT ?_
          refine ⟨_, rfl, by show 0 ≤ sizeLine; decide, fun e ne => ⟨rp, e, zs, rfl, rfl, ?_, upd_same, _, rfl, ?_⟩⟩
          · rw [upd_ne (ne_of_none hrp7 ne)]
            exact hrp7
          have s8 := same_upd (o := .lst []) ne
          have J8 : Jl C po p rp way H1 xs zs ss rs ⟨q, ys, ts, mp, us, ms, x8⟩ (upd H7 e (.lst [])) := ⟨hp7.mono s8, sm7.trans s8, J7.tw.ext (extN_same s8), s8 _ _ hrp7, hz7.imp fun _ _ z => z.ext (extN_same s8), s8 _ _ hmp7, hu7.imp fun _ _ z => z.ext (extN_same s8), hm7, J7.lt, J7.lm, J7.ne, nmp1⟩
          generalize upd H7 e (.lst []) = H8 at *
          have zl := hz7.length
          have xl := hx7.length
          cases hzs : zs with
          | nil =>
            have go := h ⟨q, ys, ts, mp, us, ms, x8⟩ H8 J8
            exact iteF go
          | cons z0 zt =>
            have zpos : 0 < zs.length := by rw [hzs]; exact Nat.succ_pos _
            refine iteT ?_
            refine ⟨_, rfl, _, rfl, rp, _, rfl, .inl (SqL.of J8.hrp), po, _, rfl, J8.hp0, by omega, by omega, fun at_ H9 a0 a1 hp9 sb9 => ?_⟩
            obtain ⟨n, rfl⟩ := Int.eq_ofNat_of_zero_le a0
            have nl : n < zs.length := by omega
            obtain ⟨rn, en⟩ : ∃ r, rs[n]? = some r := ⟨_, List.getElem?_eq_getElem (by omega)⟩
            obtain ⟨xn, exn⟩ : ∃ v, xs[n]? = some v := ⟨_, List.getElem?_eq_getElem (by
              obtain ⟨tl, e⟩ := hq6
              have := congrArg List.length e
              rw [List.length_append] at this
              omega)⟩
            have hx8 := J8.tw.hx
            have s79 : SRs C H9 xs ss := J8.tw.hx.imp fun _ _ z => z.extB J8.hp0 sb9
            have y79 : SRs C H9 ys ts := J8.tw.hy.imp fun _ _ z => z.extB J8.hp0 sb9
            have p9 : Sd H9 p xs := J8.tw.hp.imp (sb9 _ _ npp) (sb9 _ _ npp)
            have q9 : Sd H9 q ys := J8.tw.hq.imp (sb9 _ _ nqp) (sb9 _ _ nqp)
            have rp9 := sb9 _ _ nrpp J8.hrp
            have z9 : TRs H9 zs rs := J8.hz.imp fun _ _ z => z.extB J8.hp0 sb9
            have mp9 := sb9 _ _ nmpp J8.hmp
            have u9 : TRs H9 us ms := J8.hu.imp fun _ _ z => z.extB J8.hp0 sb9
            have sm9 : Same H1 H9 := sameB_new np J8.sm sb9
            obtain ⟨rn2, ern2, srn9⟩ := s79.at exn
            have ern2 : rn2 = rn := by
              obtain ⟨tl, e⟩ := hq6
              rw [e, List.getElem?_append_left (by omega), en] at ern2
              exact (Option.some.inj ern2).symm
            rw [ern2] at srn9
            -- list(other) + [one[at]]
            refine ⟨_, rfl, q, _, rfl, (q9.sq (K := K)), fun l1 nl1 => ?_⟩
            have s10 := same_upd (o := .lst ys) nl1
            have el1 := upd_same (H := H9) (a := l1) (o := .lst ys)
            generalize upd H9 l1 (.lst ys) = H10 at *
            refine ⟨_, rfl, _, rfl, ?_⟩
            have atx : atI xs ((n : Nat) : Int) = some xn := atI_nat exn
            have goSeq : ∀ {Q' : V → Hp → Prop}, Q' xn H10 → rIx K (.ref p) (.int ((n : Nat) : Int)) H10 Q' := fun {Q'} hQ' => by
              rcases p9 with z | z
              · exact .inl ⟨p, _, _, _, rfl, rfl, SqL.of (s10 _ _ z), atx, hQ'⟩
              · exact .inr (.inl ⟨p, _, _, _, rfl, rfl, SqT.of (s10 _ _ z), atx, hQ'⟩)
            refine goSeq ?_
            refine ⟨by show 1 ≤ sizeLine; decide, fun l2 nl2 => ?_⟩
            have s11 := same_upd (o := .lst [xn]) nl2
            have el2 := upd_same (H := H10) (a := l2) (o := .lst [xn])
            generalize upd H10 l2 (.lst [xn]) = H11 at *
            have yl := hy7.length
            refine ⟨l1, l2, _, _, rfl, rfl, s11 _ _ el1, el2, Nat.le_of_lt (small1000 (by show ys.length + 1 ≤ 1000; omega)), fun l3 nl3 => ?_⟩
            have s12 := same_upd (o := .lst (ys ++ [xn])) nl3
            have el3 := upd_same (H := H11) (a := l3) (o := .lst (ys ++ [xn]))
            have el3p : H11 p ≠ none := fun z11 => by
              have s911 := s10.trans s11
              rcases p9 with z | z <;> (rw [s911 _ _ z] at z11; cases z11)
            have nl3p : l3 ≠ p := fun e => by
              subst e
              have s911 := s10.trans s11
              rcases p9 with z | z <;> (rw [s911 _ _ z] at nl3; cases nl3)
            generalize upd H11 l3 (.lst (ys ++ [xn])) = H12 at *
            have s912 := (s10.trans s11).trans s12
            have e912 := extN_same s912
            -- more + [rows[at]]
            obtain ⟨zn, ezn⟩ : ∃ v, zs[n]? = some v := ⟨_, List.getElem?_eq_getElem nl⟩
            obtain ⟨rz, erz, trz⟩ := z9.at ezn
            rw [en] at erz
            cases erz
            refine ⟨_, rfl, _, rfl, _, rfl, rp, _, _, _, rfl, rfl, SqL.of (s912 _ _ rp9), atI_nat ezn, by show 1 ≤ sizeLine; decide, fun l4 nl4 => ?_⟩
            have s13 := same_upd (o := .lst [zn]) nl4
            have el4 := upd_same (H := H12) (a := l4) (o := .lst [zn])
            generalize upd H12 l4 (.lst [zn]) = H13 at *
            have ul := hu7.length
            refine ⟨mp, l4, _, _, rfl, rfl, s13 _ _ (s912 _ _ mp9), el4, Nat.le_of_lt (small1000 (by show us.length + 1 ≤ 1000; omega)), fun l5 nl5 => ?_⟩
            have s14 := same_upd (o := .lst (us ++ [zn])) nl5
            have el5 := upd_same (H := H13) (a := l5) (o := .lst (us ++ [zn]))
            generalize upd H13 l5 (.lst (us ++ [zn])) = H14 at *
            have s914 := (s912.trans s13).trans s14
            have e914 := extN_same s914
            refine h ⟨l3, ys ++ [xn], ts ++ [rn], l5, us ++ [zn], ms ++ [rn], some (.int (n : Nat))⟩ H14 ⟨hp9.mono s914, sm9.trans s914, ⟨p9.ext e914, .inl (s14 _ _ (s13 _ _ el3)), s79.ext e914, ?_⟩, s914 _ _ rp9, z9.imp fun _ _ z => z.ext e914, el5, ?_, fun r => ?_, ?_, ?_, fun _ => nl3p, fun e => ?_⟩
            · exact (y79.ext e914).append (.cons (srn9.ext e914) .nil)
            · exact TRs.append (u9.imp fun _ _ z => z.ext e914) (.cons (trz.ext e914) .nil)
            · show r ∈ ts ++ [rn] ↔ r ∈ ms ++ [rn]
              rw [List.mem_append, List.mem_append, hm7 r]
            · show (ts ++ [rn]).length ≤ 30
              rw [List.length_append]
              show ts.length + 1 ≤ 30
              omega
            · show (ms ++ [rn]).length ≤ 30
              rw [List.length_append]
              show ms.length + 1 ≤ 30
              omega
            · have e : l5 = p := e
              subst e
              have s913 := s912.trans s13
              rcases p9 with z | z <;> (rw [s913 _ _ z] at nl5; cases nl5)
      rintro z8 H8 J8
      -- the very same list
      apply join (α := Sv) (J := Jl C po p rp way H1 xs zs ss rs) (sl := fun z => [some (.ref a), some (.int (0 + (i : Nat))), some (.ref po), some (.int way), some (.ref rp), some (.ref z.mp), some (.ref p), some (.ref z.q), z.y8, x9])
      · intro h
        refine ⟨_, rfl, rfl, _, rfl, ?_⟩
        cases hw : decide (V.int way = V.int 1) with
        | false => exact iteF (h z8 H8 J8)
        | true =>
          have hw1 : way = 1 := V.int.inj (of_decide_eq_true hw)
          refine iteT ⟨_, rfl, _, rfl, _, _, rfl, ?_⟩
          exact h ⟨p, xs, ss, rp, zs, rs, z8.y8⟩ H8 ⟨J8.hp0, J8.sm, ⟨J8.tw.hp, J8.tw.hp, J8.tw.hx, J8.tw.hx⟩, J8.hrp, J8.hz, J8.hrp, J8.hz, hm6, by show ss.length ≤ 30; omega, by show rs.length ≤ 30; omega, fun n => absurd hw1 n, nrp1⟩
      rintro ⟨q, ys, ts, mp, us, ms, y8⟩ H9 J9
      obtain ⟨hp9, sm9, tw9, hrp9, hz9, hmp9, hu9, mem9, lt9, lm9, ne9, nm9⟩ := J9
      have hmp9 : H9 mp = some (.lst us) := hmp9
      have hu9 : TRs H9 us ms := hu9
      have mem9 : ∀ r, r ∈ ts ↔ r ∈ ms := mem9
      have lt9 : ts.length ≤ 30 := lt9
      have lm9 : ms.length ≤ 30 := lm9
      have ne9 : way ≠ 1 → q ≠ p := ne9
      have tw9 : Two C p q H9 xs ys ss ts := tw9
      have tN9 := tN.ext sm9
      have okm := hu9.rb
      -- kept
      refine ⟨_, rfl, p, xs, ss, rfl, tw9.hp, tw9.hx, by omega, fun D1 u1 H10 nD1 s10 hD1 hd1 => ?_⟩
      have tw10 := tw9.ext (extN_same s10)
      refine ⟨_, rfl, q, ys, ts, rfl, tw10.hq, tw10.hy, by omega, fun D2 u2 H11 nD2 s11 hD2 hd2 => ?_⟩
      refine ⟨by show 2 ≤ sizeLine; decide, fun kp nkp => ?_⟩
      have s12 := same_upd (o := .lst [V.ref D1, V.ref D2]) nkp
      have hkp := upd_same (H := H11) (a := kp) (o := .lst [V.ref D1, V.ref D2])
      generalize upd H11 kp (.lst [V.ref D1, V.ref D2]) = H12 at *
      have s912 := (s10.trans s11).trans s12
      have e912 := extN_same s912
      have hD1' := s12 _ _ (s11 _ _ hD1)
      have hD2' := s12 _ _ hD2
      have hd1' := hd1.ext (extN_same (s11.trans s12))
      have hd2' := hd2.ext (extN_same s12)
      have tw12 := tw9.ext e912
      have hz12 : TRs H12 zs rs := hz9.imp fun _ _ z => z.ext e912
      have hu12 : TRs H12 us ms := hu9.imp fun _ _ z => z.ext e912
      -- right
      refine ⟨_, rfl, _, rfl, _, rfl, _, rfl, p, q, rp, mp, xs, ys, zs, us, ss, ts, rs, ms, rfl, tw12, s912 _ _ hrp9, hz12, s912 _ _ hmp9, hu12, hm6, mem9, by omega, by omega, by omega, by omega, tN9.ext s912, fun H13 e13 T13 => ⟨_, rfl, ?_⟩⟩
      have tw13 := tw12.ext e13
      refine ⟨_, rfl, p, xs, ss, rfl, tw13.hp, tw13.hx, by omega, fun D3 u3 H14 nD3 s14 hD3 hd3 => ?_⟩
      have tw14 := tw13.ext (extN_same s14)
      refine ⟨_, rfl, q, ys, ts, rfl, tw14.hq, tw14.hy, by omega, fun D4 u4 H15 nD4 s15 hD4 hd4 => ?_⟩
      refine ⟨by show 2 ≤ sizeLine; decide, fun k2 nk2 => ?_⟩
      have s16 := same_upd (o := .lst [V.ref D3, V.ref D4]) nk2
      have hk2 := upd_same (H := H15) (a := k2) (o := .lst [V.ref D3, V.ref D4])
      generalize upd H15 k2 (.lst [V.ref D3, V.ref D4]) = H16 at *
      have s1316 := (s14.trans s15).trans s16
      have e1216 := e13.trans (extN_same s1316)
      refine ⟨_, rfl, twoD ss ts, twoD ss ts, .lst (SqL.of hk2) (.cons (.lst (SqL.of (s16 _ _ (s15 _ _ hD3))) (hd3.ext (extN_same (s15.trans s16))).dp) (.cons (.lst (SqL.of (s16 _ _ hD4)) (hd4.ext (extN_same s16)).dp) .nil)),
        .lst (SqL.of (e1216 _ _ hkp nofun)) (.cons (.lst (SqL.of (e1216 _ _ hD1' nofun)) (hd1'.ext e1216).dp) (.cons (.lst (SqL.of (e1216 _ _ hD2' nofun)) (hd2'.ext e1216).dp) .nil)), twoD_shaped ss ts, twoD_shaped ss ts, _, rfl, ?_⟩
      rw [SeqAt.eqv_refl _ (twoD_lay ss ts)]
      refine iteF ?_
      have T16 := T13.ext s1316
      have eT16 : ExtN H1 H16 := (extN_same (sm9.trans s912)).trans e1216
      have tw16 := tw12.ext e1216
      rcases tw16.hp with hl | ht
      · refine ⟨_, rfl, .ref p, .ty "list", .type "list", _, true, rfl, .ty _, .base (.lst hl), kit_ty (show kitB "list" "list" = some true by decide +kernel), _, rfl, iteT ?_⟩
        refine ⟨_, rfl, rfl, _, rfl, ?_⟩
        cases hw : decide (V.int way = V.int 1) with
        | true => exact iteF ⟨_, _, _, _, _, _, _, _, _, rfl, eN.trans eT16, T16⟩
        | false =>
          refine iteT ?_
          have nw : way ≠ 1 := fun e => by
            rw [e] at hw
            simp at hw
          have nqp2 := ne9 nw
          refine ⟨_, rfl, .inl ⟨rfl, _, SqL.of hl⟩, p, _, rfl, rfl, hl, ?_⟩
          have eT17 : ExtN H1 (upd H16 p (.lst [])) := extN_updW eT16 (.of np1)
          have T17 : Tabs (TT2 PM PY) (upd H16 p (.lst [])) := K14.Tabs.updL T16 hl
          have hp17 := upd_same (H := H16) (a := p) (o := .lst [])
          have hy17 : SRs C (upd H16 p (.lst [])) ys ts := tw16.hy.updL hl
          have hq17 : Sd (upd H16 p (.lst [])) q ys := tw16.hq.imp (fun z => by rw [upd_ne nqp2]; exact z) (fun z => by rw [upd_ne nqp2]; exact z)
          have nmp : mp ≠ p := nm9
          have hmp17 : upd H16 p (.lst []) mp = some (.lst us) := by
            rw [upd_ne nmp]
            exact e1216 _ _ (s912 _ _ hmp9) nofun
          have hu17 : TRs (upd H16 p (.lst [])) us ms := (hu12.imp fun _ _ z => z.ext e1216).imp fun _ _ z => z.updL hl
          generalize upd H16 p (.lst []) = H17 at *
          refine ⟨_, rfl, _, rfl, by show 0 ≤ sizeLine; decide, fun l nl => ?_⟩
          have s18 := same_upd (o := .lst []) nl
          have el := upd_same (H := H17) (a := l) (o := .lst [])
          generalize upd H17 l (.lst []) = H18 at *
          have e18 := extN_same s18
          refine ⟨_, rfl, p, q, l, mp, [], ys, [], us, [], ts, [], ms, rfl, ⟨.inl (s18 _ _ hp17), hq17.ext e18, .nil, hy17.ext e18⟩, el, .nil, s18 _ _ hmp17, hu17.imp fun _ _ z => z.ext e18, fun _ => Iff.rfl, mem9, by show 0 ≤ 50; decide, by omega, by show 0 ≤ 50; decide, by omega, T17.ext s18, fun H19 e19 T19 => ⟨_, rfl, iteF ?_⟩⟩
          exact ⟨_, _, _, _, _, _, _, _, _, rfl, eN.trans ((eT17.trans e18).trans e19), T19⟩
      · refine ⟨_, rfl, .ref p, .ty "list", .type "tuple", _, false, rfl, .ty _, .base (.tup ht), kit_ty (show kitB "tuple" "list" = some false by decide +kernel), _, rfl, iteF (iteF ?_)⟩
        exact ⟨_, _, _, _, _, _, _, _, _, rfl, eN.trans eT16, T16⟩
    · rintro σ H1 ⟨x1, x2, x3, x4, x5, x6, x7, x8, x9, rfl, eN, tN⟩
      have rb1 : RB (0, none) := ⟨⟨by decide, nofun⟩, by decide, nofun⟩
      have rb2 : RB (3, some 7) := ⟨⟨by decide, fun j ej => by cases ej; decide⟩, by decide, fun j ej => by cases ej; decide⟩
      refine fun x dx nx ndx nex => mk_init (r := (0, none)) nx ndx nex rb1 fun H2 s2 sr2 => ⟨rfl, by show 1 ≤ sizeLine; decide, fun l1 nl1 => ?_⟩
      have s3 := same_upd (o := .lst [V.ref x]) nl1
      have el1 := upd_same (H := H2) (a := l1) (o := .lst [V.ref x])
      have sr3 := sr2.ext (extN_same s3)
      generalize upd H2 l1 (.lst [V.ref x]) = H3 at *
      refine fun y dy ny ndy ney => mk_init (r := (3, some 7)) ny ndy ney rb2 fun H4 s4 sr4 => ⟨rfl, by show 1 ≤ sizeLine; decide, fun l2 nl2 => ?_⟩
      have s5 := same_upd (o := .lst [V.ref y]) nl2
      have el2 := upd_same (H := H4) (a := l2) (o := .lst [V.ref y])
      have sr5 := sr4.ext (extN_same s5)
      generalize upd H4 l2 (.lst [V.ref y]) = H5 at *
      have s35 := s4.trans s5
      refine ⟨l1, l2, _, _, [(0, none)], [(3, some 7)], rfl, .inl (s35 _ _ el1), .inl el2, .cons (sr3.ext (extN_same s35)) .nil, .cons sr5 .nil, by show 1 ≤ 100; decide, by show 1 ≤ 100; decide, fun r hr j ej => by
        rw [List.mem_singleton.mp hr] at ej
        cases ej
        decide, ((tN.ext s2).ext s3).ext s35, fun a3 z3 L H6 n3 e6 T6 h3 sr6 as6 in6 ll => ?_⟩
      have eL : L = [(0, some 2), (8, none)] := LD.asc_uniq as6 ⟨fun r hr => by
          rcases List.mem_cons.mp hr with rfl | hr
          · exact ⟨by decide, fun j ej => by cases ej; decide⟩
          · rw [List.mem_singleton.mp hr]
            exact ⟨by decide, nofun⟩, List.pairwise_cons.mpr ⟨fun r hr => by
          rw [List.mem_singleton.mp hr]
          exact ⟨2, rfl, by decide⟩, List.pairwise_singleton _ _⟩⟩ fun d => by
        rw [in6]
        unfold onlyB
        rw [Bool.and_eq_true, Bool.not_eq_true', LD.insB_iff]
        have h37 : LD.insB [(3, some 7)] d = decide (3 ≤ d ∧ d ≤ 7) := by
          simp [LD.insB, LD.inB]
        rw [h37, decide_eq_false_iff_not]
        constructor
        · rintro ⟨h1, h2⟩
          rcases LD.ins_cons.mp h1 with z | z
          · have z0 : (0 : Int) ≤ d := z.1
            by_cases hd : d ≤ 2
            · exact LD.ins_cons.mpr (.inl ⟨z0, fun j ej => by cases ej; exact hd⟩)
            · exact LD.ins_cons.mpr (.inr (LD.ins_cons.mpr (.inl ⟨by show (8 : Int) ≤ d; omega, nofun⟩)))
          · exact absurd z LD.not_nil
        · intro h
          rcases LD.ins_cons.mp h with z | z
          · have z0 : (0 : Int) ≤ d := z.1
            have := z.2 2 rfl
            exact ⟨LD.ins_cons.mpr (.inl ⟨z0, fun j ej => by cases ej⟩), by omega⟩
          · rcases LD.ins_cons.mp z with z | z
            · have z0 : (8 : Int) ≤ d := z.1
              exact ⟨LD.ins_cons.mpr (.inl ⟨by show (0 : Int) ≤ d; omega, fun j ej => by cases ej⟩), by omega⟩
            · exact absurd z LD.not_nil
      subst eL
      refine ⟨a3, z3, _, rfl, h3, sr6, by decide, fun H7 s7 => ?_⟩
      refine ⟨rfl, ?_⟩
      rw [show decide (V.str (shRows [(0, some 2), (8, none)]) = V.str (Str.ofString "[(0, 2), (8, None)]")) = true by
        rw [show shRows [((0 : Int), some (2 : Int)), (8, none)] = Str.ofString "[(0, 2), (8, None)]" by decide +kernel]
        simp]
      exact q0 _
end
end K14

set_option Elab.async false
set_option linter.all false
set_option maxRecDepth 100000
set_option maxHeartbeats 3200000
namespace K14
open PySem PySem.Spec PyProof.Rows L2 LT LamX
/-- what the top has left of a def -/
structure Left (K : PySem.W.Frag) (x : Str) (st : Stmt) (f : Addr) (oc : Value) (od an : Option Addr) (kV dc pm cd ct : Value) (sl : Array (Option Value)) : Prop where
  ns : PySem.W.nsIn K mainGlobals x = some (some (.ref f))
  lk : K.lookup f = some ⟨oc, od, .func (PySem.W.fnOf x x (defArgs st) (defBody st) (defScope st) .none kV dc pm an cd ct), sl⟩
  cd : PySem.W.codeIn K cd x = true
  kp : PySem.W.keepIn K (.ref f) = true
theorem Left.fn {K : PySem.W.Frag} {x : Str} {st : Stmt} {f : Addr} {oc : Value} {od an : Option Addr} {kV dc pm cd ct : Value} {sl : Array (Option Value)} (h : Left K x st f oc od an kV dc pm cd ct sl) :
    Fun K x x st f (PySem.W.fnOf x x (defArgs st) (defBody st) (defScope st) .none kV dc pm an cd ct) := fun_mk h.lk h.cd h.kp
/-- what the top has left of a def that makes a lambda -/
structure LeftL (K : PySem.W.Frag) (x : Str) (st : Stmt) (f c P : Addr) (oc : Value) (od an : Option Addr) (kV dc pm ct : Value) (sl : Array (Option Value)) (oC : Value) (dC : Option Addr) (vC : Array Value) (sC : Array (Option Value)) : Prop where
  ns : PySem.W.nsIn K mainGlobals x = some (some (.ref f))
  lk : K.lookup f = some ⟨oc, od, .func (PySem.W.fnOf x x (defArgs st) (defBody st) (defScope st) .none kV dc pm an (.ref c) ct), sl⟩
  cd : PySem.W.codeIn K (.ref c) x = true
  kp : PySem.W.keepIn K (.ref f) = true
  lC : K.lookup c = some ⟨oC, dC, .fields vC, sC⟩
  vP : vC[11]? = some (.ref P)
  hd : PySem.W.codeHdIn K c P = true
  nP : K.lookup P = none
theorem LeftL.fn {K : PySem.W.Frag} {x : Str} {st : Stmt} {f c P : Addr} {oc : Value} {od an : Option Addr} {kV dc pm ct : Value} {sl : Array (Option Value)} {oC : Value} {dC : Option Addr} {vC : Array Value} {sC : Array (Option Value)} (h : LeftL K x st f c P oc od an kV dc pm ct sl oC dC vC sC) :
    FunC K x x st f c (PySem.W.fnOf x x (defArgs st) (defBody st) (defScope st) .none kV dc pm an (.ref c) ct) := ⟨⟨oc, od, kV, dc, pm, an, ct, sl, rfl, h.lk, h.cd⟩, h.kp⟩
/-- what the top has left of a method -/
structure LeftM (K : PySem.W.Frag) (C : Addr) (x q : Str) (st : Stmt) (f : Addr) (oc : Value) (od an : Option Addr) (kV dc pm cd ct : Value) (sl : Array (Option Value)) : Prop where
  at_ : PySem.W.findIn K (.ref C) x = some (some (.ref f))
  lk : K.lookup f = some ⟨oc, od, .func (PySem.W.fnOf x q (defArgs st) (defBody st) (defScope st) .none kV dc pm an cd ct), sl⟩
  cd : PySem.W.codeIn K cd q = true
  kp : PySem.W.keepIn K (.ref f) = true
  isf : PySem.W.isFn K (.ref f) = true
theorem LeftM.fn {K : PySem.W.Frag} {C : Addr} {x q : Str} {st : Stmt} {f : Addr} {oc : Value} {od an : Option Addr} {kV dc pm cd ct : Value} {sl : Array (Option Value)} (h : LeftM K C x q st f oc od an kV dc pm cd ct sl) :
    Fun K x q st f (PySem.W.fnOf x q (defArgs st) (defBody st) (defScope st) .none kV dc pm an cd ct) := fun_mk h.lk h.cd h.kp
theorem LeftM.me {K : PySem.W.Frag} {C : Addr} {x q : Str} {st : Stmt} {f : Addr} {oc : Value} {od an : Option Addr} {kV dc pm cd ct : Value} {sl : Array (Option Value)} (h : LeftM K C x q st f oc od an kV dc pm cd ct sl) :
    Meth K C x f := ⟨h.at_, h.isf, h.kp⟩
/-- what the top has left of __init__ -/
structure LeftI (K : PySem.W.Frag) (C : Addr) (f T : Addr) (oc : Value) (od an : Option Addr) (kV dc pm cd ct : Value) (sl : Array (Option Value)) (oT : Value) (dT : Option Addr) (nT : Nat) (sT : Array (Option Value)) : Prop where
  at_ : PySem.W.findIn K (.ref C) "__init__" = some (some (.ref f))
  lk : K.lookup f = some ⟨oc, od, .func (PySem.W.fnOf "__init__" "Stretch.__init__" (defArgs sInit) (defBody sInit) (defScope sInit) (.ref T) kV dc pm an cd ct), sl⟩
  cd : PySem.W.codeIn K cd "Stretch.__init__" = true
  kp : PySem.W.keepIn K (.ref f) = true
  isf : PySem.W.isFn K (.ref f) = true
  lT : K.lookup T = some ⟨oT, dT, .seq #[.none] nT, sT⟩
  mks : PySem.W.makesIn K C = true
theorem LeftI.fn {K : PySem.W.Frag} {C f T : Addr} {oc : Value} {od an : Option Addr} {kV dc pm cd ct : Value} {sl : Array (Option Value)} {oT : Value} {dT : Option Addr} {nT : Nat} {sT : Array (Option Value)} (h : LeftI K C f T oc od an kV dc pm cd ct sl oT dT nT sT) :
    InitFn K f (PySem.W.fnOf "__init__" "Stretch.__init__" (defArgs sInit) (defBody sInit) (defScope sInit) (.ref T) kV dc pm an cd ct) :=
  ⟨⟨oc, od, .ref T, kV, dc, pm, an, cd, ct, sl, rfl, h.lk, h.cd, .inr ⟨nofun, T, _, [.none], nT, rfl, h.lT, rfl, .cons rfl .nil⟩, .inl rfl⟩, h.kp⟩
theorem kit_self {K : PySem.W.Frag} {a : Addr} : PySem.W.kitOne K (.ref a) (.ref a) = some true := if_pos (c := ((Value.ref a) == (Value.ref a)) = true) (beq_self_eq_true (Value.ref a))
theorem cls_of {K : PySem.W.Frag} {t : Value} {C : Addr} {b : Bool} (i : PySem.W.isClsIn K C = true) (ty : PySem.W.typeIn K (.ref C) = some (.type "type")) (s : PySem.W.subIn K t (.ref C) = some b) : PySem.W.kitCls K t (.ref C) = some b := by
  have i' : (PySem.W.clsIn K C).isSome = true := i
  show (if ((PySem.W.clsIn K C).isSome && PySem.W.typeIn K (.ref C) == some (.type "type")) = true then PySem.W.subIn K t (.ref C) else none) = some b
  rw [i', ty]
  exact s
theorem kit_yes {K : PySem.W.Frag} {t : Value} {C : Addr} (i : PySem.W.isClsIn K C = true) (ty : PySem.W.typeIn K (.ref C) = some (.type "type")) (s : PySem.W.subIn K t (.ref C) = some true) : PySem.W.kitOne K t (.ref C) = some true := by
  unfold PySem.W.kitOne
  split
  · rfl
  · exact cls_of i ty s
theorem kit_no {K : PySem.W.Frag} {t : Value} {C : Addr} (i : PySem.W.isClsIn K C = true) (ty : PySem.W.typeIn K (.ref C) = some (.type "type")) (s : PySem.W.subIn K t (.ref C) = some false) (q : (t == .ref C) = false) : PySem.W.kitOne K t (.ref C) = some false := by
  unfold PySem.W.kitOne
  rw [q]
  exact cls_of i ty s
theorem kit_ve {K : PySem.W.Frag} {D : Addr} (s : PySem.W.subIn K (.ref D) (.type "ValueError") = some true) : PySem.W.kitOne K (.ref D) (.type "ValueError") = some true := by
  unfold PySem.W.kitOne
  split
  · rfl
  · show (if PySem.W.kitMeta "ValueError" = true then PySem.W.subIn K (.ref D) (.type "ValueError") else none) = some true
    rw [show PySem.W.kitMeta "ValueError" = true by decide +kernel]
    exact s
theorem exm_yes {K : PySem.W.Frag} {t : Value} {C : Addr} (b : PySem.W.subIn K (.ref C) (.type "BaseException") = some true) (i : PySem.W.isClsIn K C = true) (ty : PySem.W.typeIn K (.ref C) = some (.type "type")) (s : PySem.W.subIn K t (.ref C) = some true) : PySem.W.exmOne K t (.ref C) = some true := by
  unfold PySem.W.exmOne
  rw [b]
  exact cls_of i ty s
/-- what the top has left of the classes -/
structure LeftC (K : PySem.W.Frag) (C CN : Addr) : Prop where
  nC : PySem.W.nsIn K mainGlobals "Stretch" = some (some (.ref C))
  n_NoDay : PySem.W.nsIn K mainGlobals "NoDay" = some (some (.ref CN))
  pg : PySem.W.plainGet K C Str.empty = true
  hd : PySem.W.hasDictIn K C = true
  po : PySem.W.plainOver K C = true
  sa : PySem.W.findIn K (.ref C) "__setattr__" = some (some (.builtin "object.__setattr__"))
  nF : PySem.W.findIn K (.ref C) "first_day" = some none
  nL : PySem.W.findIn K (.ref C) "last_day" = some none
  kC : PySem.W.keepIn K (.ref C) = true
  ca : PySem.W.findIn K (.ref C) "__class__" = some (some (.builtin "object.__class__"))
  cn : PySem.W.specialIn K (.builtin "object.__class__") "__get__" = some (some (.builtin "getset_descriptor.__get__"))
  ct : PySem.W.takesIn K (.builtin "object.__class__") = some true
  cm : PySem.W.mroIn K C (.type "object") = some true
  xN : PySem.W.excIn K CN [.type "ValueError", .type "Exception", .type "BaseException", .type "object"] "ValueError.__new__" = true
  kN : PySem.W.keepIn K (.ref CN) = true
  bN : PySem.W.subIn K (.ref CN) (.type "BaseException") = some true
  tN : PySem.W.typeIn K (.ref CN) = some (.type "type")
theorem all_mk {l : PySem.W.OpenLaw} {w : World} {K : PySem.W.Frag} {h : Heap} {mg : Str → Option Value} {fa : Addr} {ts : List Addr} (X : K.In h) (G : h.Ns mainGlobals mg) (hfa : mg "law" = some (.ref fa)) (ht : ∀ P ∈ ts, h.get? P = some (PySem.W.tabObj #[]))
    {C CN : Addr} (D : LeftC K C CN)
    {fI TI : Addr} {ocI : Value} {odI anI : Option Addr} {kVI dcI pmI cdI ctI : Value} {slI : Array (Option Value)} {oTI : Value} {dTI : Option Addr} {nTI : Nat} {sTI : Array (Option Value)} (FI : LeftI K C fI TI ocI odI anI kVI dcI pmI cdI ctI slI oTI dTI nTI sTI)
    {ffi : Addr} {ocfi : Value} {odfi anfi : Option Addr} {kVfi dcfi pmfi cdfi ctfi : Value} {slfi : Array (Option Value)} (Ffi : LeftM K C "first" "Stretch.first" sFirst ffi ocfi odfi anfi kVfi dcfi pmfi cdfi ctfi slfi)
    {fla : Addr} {ocla : Value} {odla anla : Option Addr} {kVla dcla pmla cdla ctla : Value} {slla : Array (Option Value)} (Fla : LeftM K C "last" "Stretch.last" sLast fla ocla odla anla kVla dcla pmla cdla ctla slla)
    {fmg cmg Pmg : Addr} {ocmg : Value} {odmg anmg : Option Addr} {kVmg dcmg pmmg ctmg : Value} {slmg : Array (Option Value)} {oCmg : Value} {dCmg : Option Addr} {vCmg : Array Value} {sCmg : Array (Option Value)} (Fmg : LeftL K "merged" sMerged fmg cmg Pmg ocmg odmg anmg kVmg dcmg pmmg ctmg slmg oCmg dCmg vCmg sCmg) (mmg : Pmg ∈ ts)
    {fmy cmy Pmy : Addr} {ocmy : Value} {odmy anmy : Option Addr} {kVmy dcmy pmmy ctmy : Value} {slmy : Array (Option Value)} {oCmy : Value} {dCmy : Option Addr} {vCmy : Array Value} {sCmy : Array (Option Value)} (Fmy : LeftL K "_law_right" sRightL fmy cmy Pmy ocmy odmy anmy kVmy dcmy pmmy ctmy slmy oCmy dCmy vCmy sCmy) (mmy : Pmy ∈ ts)
    {fwh : Addr} {ocwh : Value} {odwh anwh : Option Addr} {kVwh dcwh pmwh cdwh ctwh : Value} {slwh : Array (Option Value)} (Fwh : Left K "is_whole" sWhole fwh ocwh odwh anwh kVwh dcwh pmwh cdwh ctwh slwh)
    {ffr : Addr} {ocfr : Value} {odfr anfr : Option Addr} {kVfr dcfr pmfr cdfr ctfr : Value} {slfr : Array (Option Value)} (Ffr : Left K "is_from" sFrom ffr ocfr odfr anfr kVfr dcfr pmfr cdfr ctfr slfr)
    {fda : Addr} {ocda : Value} {odda anda : Option Addr} {kVda dcda pmda cdda ctda : Value} {slda : Array (Option Value)} (Fda : Left K "is_day" sDay fda ocda odda anda kVda dcda pmda cdda ctda slda)
    {fck : Addr} {occk : Value} {odck anck : Option Addr} {kVck dcck pmck cdck ctck : Value} {slck : Array (Option Value)} (Fck : Left K "check_stretches" sChk fck occk odck anck kVck dcck pmck cdck ctck slck)
    {fmt : Addr} {ocmt : Value} {odmt anmt : Option Addr} {kVmt dcmt pmmt cdmt ctmt : Value} {slmt : Array (Option Value)} (Fmt : Left K "meets" sMeets fmt ocmt odmt anmt kVmt dcmt pmmt cdmt ctmt slmt)
    {fle : Addr} {ocle : Value} {odle anle : Option Addr} {kVle dcle pmle cdle ctle : Value} {slle : Array (Option Value)} (Fle : Left K "later_end" sLater fle ocle odle anle kVle dcle pmle cdle ctle slle)
    {fce : Addr} {occe : Value} {odce ance : Option Addr} {kVce dcce pmce cdce ctce : Value} {slce : Array (Option Value)} (Fce : Left K "_law_cell" sCell fce occe odce ance kVce dcce pmce cdce ctce slce)
    {fpo : Addr} {ocpo : Value} {odpo anpo : Option Addr} {kVpo dcpo pmpo cdpo ctpo : Value} {slpo : Array (Option Value)} (Fpo : Left K "_law_pot" sPot fpo ocpo odpo anpo kVpo dcpo pmpo cdpo ctpo slpo)
    {fta : Addr} {octa : Value} {odta anta : Option Addr} {kVta dcta pmta cdta ctta : Value} {slta : Array (Option Value)} (Fta : Left K "_law_take" sTake fta octa odta anta kVta dcta pmta cdta ctta slta)
    {ffa : Addr} {ocfa : Value} {odfa anfa : Option Addr} {kVfa dcfa pmfa cdfa ctfa : Value} {slfa : Array (Option Value)} (Ffa : Left K "_law_far" sFar ffa ocfa odfa anfa kVfa dcfa pmfa cdfa ctfa slfa)
    {fro : Addr} {ocro : Value} {odro anro : Option Addr} {kVro dcro pmro cdro ctro : Value} {slro : Array (Option Value)} (Fro : Left K "_law_rows" sRows fro ocro odro anro kVro dcro pmro cdro ctro slro)
    {fha : Addr} {ocha : Value} {odha anha : Option Addr} {kVha dcha pmha cdha ctha : Value} {slha : Array (Option Value)} (Fha : Left K "_law_handed" sHanded fha ocha odha anha kVha dcha pmha cdha ctha slha)
    {fli : Addr} {ocli : Value} {odli anli : Option Addr} {kVli dcli pmli cdli ctli : Value} {slli : Array (Option Value)} (Fli : Left K "_law_in" sIn fli ocli odli anli kVli dcli pmli cdli ctli slli)
    {fmk : Addr} {ocmk : Value} {odmk anmk : Option Addr} {kVmk dcmk pmmk cdmk ctmk : Value} {slmk : Array (Option Value)} (Fmk : Left K "_law_marks" sMarks fmk ocmk odmk anmk kVmk dcmk pmmk cdmk ctmk slmk)
    {fdu : Addr} {ocdu : Value} {oddu andu : Option Addr} {kVdu dcdu pmdu cddu ctdu : Value} {sldu : Array (Option Value)} (Fdu : Left K "_law_due" sDue fdu ocdu oddu andu kVdu dcdu pmdu cddu ctdu sldu)
    {fei : Addr} {ocei : Value} {odei anei : Option Addr} {kVei dcei pmei cdei ctei : Value} {slei : Array (Option Value)} (Fei : Left K "either_days" sEither fei ocei odei anei kVei dcei pmei cdei ctei slei)
    {fbo : Addr} {ocbo : Value} {odbo anbo : Option Addr} {kVbo dcbo pmbo cdbo ctbo : Value} {slbo : Array (Option Value)} (Fbo : Left K "both_days" sBoth fbo ocbo odbo anbo kVbo dcbo pmbo cdbo ctbo slbo)
    {fon : Addr} {ocon : Value} {odon anon : Option Addr} {kVon dcon pmon cdon cton : Value} {slon : Array (Option Value)} (Fon : Left K "only_days" sOnly fon ocon odon anon kVon dcon pmon cdon cton slon)
    {fov : Addr} {ocov : Value} {odov anov : Option Addr} {kVov dcov pmov cdov ctov : Value} {slov : Array (Option Value)} (Fov : Left K "overlaps" sOver fov ocov odov anov kVov dcov pmov cdov ctov slov)
    {fga : Addr} {ocga : Value} {odga anga : Option Addr} {kVga dcga pmga cdga ctga : Value} {slga : Array (Option Value)} (Fga : Left K "gaps" sGaps fga ocga odga anga kVga dcga pmga cdga ctga slga)
    {fea : Addr} {ocea : Value} {odea anea : Option Addr} {kVea dcea pmea cdea ctea : Value} {slea : Array (Option Value)} (Fea : Left K "earlier_end" sEarly fea ocea odea anea kVea dcea pmea cdea ctea slea)
    {fre : Addr} {ocre : Value} {odre anre : Option Addr} {kVre dcre pmre cdre ctre : Value} {slre : Array (Option Value)} (Fre : Left K "_law_read" sRead fre ocre odre anre kVre dcre pmre cdre ctre slre)
    {fto : Addr} {octo : Value} {odto anto : Option Addr} {kVto dcto pmto cdto ctto : Value} {slto : Array (Option Value)} (Fto : Left K "_law_told" sTold fto octo odto anto kVto dcto pmto cdto ctto slto)
    {fwa : Addr} {ocwa : Value} {odwa anwa : Option Addr} {kVwa dcwa pmwa cdwa ctwa : Value} {slwa : Array (Option Value)} (Fwa : Left K "_law_wanted" sWanted fwa ocwa odwa anwa kVwa dcwa pmwa cdwa ctwa slwa)
    {fsh : Addr} {ocsh : Value} {odsh ansh : Option Addr} {kVsh dcsh pmsh cdsh ctsh : Value} {slsh : Array (Option Value)} (Fsh : Left K "_law_shown" sShown fsh ocsh odsh ansh kVsh dcsh pmsh cdsh ctsh slsh)
    {fW : Addr} {ocW : Value} {odW anW : Option Addr} {kVW dcW pmW cdW ctW : Value} {slW : Array (Option Value)} (FW : Left K "law" sLaw fW ocW odW anW kVW dcW pmW cdW ctW slW)
    (z_isinstance : PySem.W.nsIn K mainGlobals "isinstance" = some none)
    (z_int : PySem.W.nsIn K mainGlobals "int" = some none)
    (z_bool : PySem.W.nsIn K mainGlobals "bool" = some none)
    (z_len : PySem.W.nsIn K mainGlobals "len" = some none)
    (z_abs : PySem.W.nsIn K mainGlobals "abs" = some none)
    (z_max : PySem.W.nsIn K mainGlobals "max" = some none)
    (z_min : PySem.W.nsIn K mainGlobals "min" = some none)
    (z_divmod : PySem.W.nsIn K mainGlobals "divmod" = some none)
    (z_range : PySem.W.nsIn K mainGlobals "range" = some none)
    (z_repr : PySem.W.nsIn K mainGlobals "repr" = some none)
    (z_tuple : PySem.W.nsIn K mainGlobals "tuple" = some none)
    (z_list : PySem.W.nsIn K mainGlobals "list" = some none)
    (z_sorted : PySem.W.nsIn K mainGlobals "sorted" = some none)
    (z_set : PySem.W.nsIn K mainGlobals "set" = some none)
    (z_any : PySem.W.nsIn K mainGlobals "any" = some none)
    (z_all : PySem.W.nsIn K mainGlobals "all" = some none)
    (z_sum : PySem.W.nsIn K mainGlobals "sum" = some none)
    (nmgmy : Pmg ≠ Pmy)
    : LawG l w K CX0 10 63 "_law_script" mg fa h := by
  have e := hfa.symm.trans (PySem.W.mg_of X G FW.ns)
  cases e
  have N : ∀ {x : Str}, PySem.W.nsIn K mainGlobals x = some none → mg x = none := fun z => PySem.W.mg_none_of X G z
  have T : Tx mg := ⟨N z_isinstance, N z_int, N z_bool, N z_len, N z_abs, N z_max, N z_min, N z_divmod, N z_range, N z_repr, N z_tuple, N z_list, N z_sorted, N z_set, N z_any, N z_all, N z_sum⟩
  have Bwh : Has K mg "is_whole" ["thing"] sWhole _ _ := ⟨Fwh.fn, Fwh.fn.binds fun _ _ _ _ _ _ us hl => match us, hl with | [_], _ => rfl, PySem.W.mg_of X G Fwh.ns⟩
  have Bfr : Has K mg "is_from" ["thing", "least"] sFrom _ _ := ⟨Ffr.fn, Ffr.fn.binds fun _ _ _ _ _ _ us hl => match us, hl with | [_, _], _ => rfl, PySem.W.mg_of X G Ffr.ns⟩
  have Bda : Has K mg "is_day" ["thing"] sDay _ _ := ⟨Fda.fn, Fda.fn.binds fun _ _ _ _ _ _ us hl => match us, hl with | [_], _ => rfl, PySem.W.mg_of X G Fda.ns⟩
  have Bck : Has K mg "check_stretches" ["thing"] sChk _ _ := ⟨Fck.fn, Fck.fn.binds fun _ _ _ _ _ _ us hl => match us, hl with | [_], _ => rfl, PySem.W.mg_of X G Fck.ns⟩
  have Bmt : Has K mg "meets" ["stretch", "later"] sMeets _ _ := ⟨Fmt.fn, Fmt.fn.binds fun _ _ _ _ _ _ us hl => match us, hl with | [_, _], _ => rfl, PySem.W.mg_of X G Fmt.ns⟩
  have Ble : Has K mg "later_end" ["one", "other"] sLater _ _ := ⟨Fle.fn, Fle.fn.binds fun _ _ _ _ _ _ us hl => match us, hl with | [_, _], _ => rfl, PySem.W.mg_of X G Fle.ns⟩
  have Bce : Has K mg "_law_cell" ["_law_script", "_law_k"] sCell _ _ := ⟨Fce.fn, Fce.fn.binds fun _ _ _ _ _ _ us hl => match us, hl with | [_, _], _ => rfl, PySem.W.mg_of X G Fce.ns⟩
  have Bpo : Has K mg "_law_pot" ["_law_script", "_law_k"] sPot _ _ := ⟨Fpo.fn, Fpo.fn.binds fun _ _ _ _ _ _ us hl => match us, hl with | [_, _], _ => rfl, PySem.W.mg_of X G Fpo.ns⟩
  have Bta : Has K mg "_law_take" ["_law_pot_here", "_law_room"] sTake _ _ := ⟨Fta.fn, Fta.fn.binds fun _ _ _ _ _ _ us hl => match us, hl with | [_, _], _ => rfl, PySem.W.mg_of X G Fta.ns⟩
  have Bfa : Has K mg "_law_far" ["_law_pot_here"] sFar _ _ := ⟨Ffa.fn, Ffa.fn.binds fun _ _ _ _ _ _ us hl => match us, hl with | [_], _ => rfl, PySem.W.mg_of X G Ffa.ns⟩
  have Bro : Has K mg "_law_rows" ["_law_pot_here", "_law_most"] sRows _ _ := ⟨Fro.fn, Fro.fn.binds fun _ _ _ _ _ _ us hl => match us, hl with | [_, _], _ => rfl, PySem.W.mg_of X G Fro.ns⟩
  have Bha : Has K mg "_law_handed" ["_law_pot_here", "_law_rows_here"] sHanded _ _ := ⟨Fha.fn, Fha.fn.binds fun _ _ _ _ _ _ us hl => match us, hl with | [_, _], _ => rfl, PySem.W.mg_of X G Fha.ns⟩
  have Bli : Has K mg "_law_in" ["_law_rows_here", "_law_day"] sIn _ _ := ⟨Fli.fn, Fli.fn.binds fun _ _ _ _ _ _ us hl => match us, hl with | [_, _], _ => rfl, PySem.W.mg_of X G Fli.ns⟩
  have Bmk : Has K mg "_law_marks" ["_law_rows_here"] sMarks _ _ := ⟨Fmk.fn, Fmk.fn.binds fun _ _ _ _ _ _ us hl => match us, hl with | [_], _ => rfl, PySem.W.mg_of X G Fmk.ns⟩
  have Bdu : Has K mg "_law_due" ["_law_marks_here", "_law_wanted_here"] sDue _ _ := ⟨Fdu.fn, Fdu.fn.binds fun _ _ _ _ _ _ us hl => match us, hl with | [_, _], _ => rfl, PySem.W.mg_of X G Fdu.ns⟩
  have Bei : Has K mg "either_days" ["some", "others"] sEither _ _ := ⟨Fei.fn, Fei.fn.binds fun _ _ _ _ _ _ us hl => match us, hl with | [_, _], _ => rfl, PySem.W.mg_of X G Fei.ns⟩
  have Bbo : Has K mg "both_days" ["some", "others"] sBoth _ _ := ⟨Fbo.fn, Fbo.fn.binds fun _ _ _ _ _ _ us hl => match us, hl with | [_, _], _ => rfl, PySem.W.mg_of X G Fbo.ns⟩
  have Bon : Has K mg "only_days" ["some", "others"] sOnly _ _ := ⟨Fon.fn, Fon.fn.binds fun _ _ _ _ _ _ us hl => match us, hl with | [_, _], _ => rfl, PySem.W.mg_of X G Fon.ns⟩
  have Bov : Has K mg "overlaps" ["some", "others"] sOver _ _ := ⟨Fov.fn, Fov.fn.binds fun _ _ _ _ _ _ us hl => match us, hl with | [_, _], _ => rfl, PySem.W.mg_of X G Fov.ns⟩
  have Bga : Has K mg "gaps" ["stretches"] sGaps _ _ := ⟨Fga.fn, Fga.fn.binds fun _ _ _ _ _ _ us hl => match us, hl with | [_], _ => rfl, PySem.W.mg_of X G Fga.ns⟩
  have Bea : Has K mg "earlier_end" ["one", "other"] sEarly _ _ := ⟨Fea.fn, Fea.fn.binds fun _ _ _ _ _ _ us hl => match us, hl with | [_, _], _ => rfl, PySem.W.mg_of X G Fea.ns⟩
  have Bre : Has K mg "_law_read" ["_law_told_here"] sRead _ _ := ⟨Fre.fn, Fre.fn.binds fun _ _ _ _ _ _ us hl => match us, hl with | [_], _ => rfl, PySem.W.mg_of X G Fre.ns⟩
  have Bto : Has K mg "_law_told" ["_law_way", "_law_one_list", "_law_other_list"] sTold _ _ := ⟨Fto.fn, Fto.fn.binds fun _ _ _ _ _ _ us hl => match us, hl with | [_, _, _], _ => rfl, PySem.W.mg_of X G Fto.ns⟩
  have Bwa : Has K mg "_law_wanted" ["_law_way", "_law_rows_here", "_law_more", "_law_day"] sWanted _ _ := ⟨Fwa.fn, Fwa.fn.binds fun _ _ _ _ _ _ us hl => match us, hl with | [_, _, _, _], _ => rfl, PySem.W.mg_of X G Fwa.ns⟩
  have Bsh : Has K mg "_law_shown" ["_law_handed_here"] sShown _ _ := ⟨Fsh.fn, Fsh.fn.binds fun _ _ _ _ _ _ us hl => match us, hl with | [_], _ => rfl, PySem.W.mg_of X G Fsh.ns⟩
  have bmg : L2.Binds K _ ["stretches"] [] := Fmg.fn.fn.binds fun _ _ _ _ _ _ us hl => match us, hl with | [_], _ => rfl
  have bmy : L2.Binds K _ ["_law_one_list", "_law_other_list", "_law_rows_here", "_law_more"] [] := Fmy.fn.fn.binds fun _ _ _ _ _ _ us hl => match us, hl with | [_, _, _, _], _ => rfl
  have bfi : L2.Binds K _ ["self"] [] := Ffi.fn.binds fun _ _ _ _ _ _ us hl => match us, hl with | [_], _ => rfl
  have bla : L2.Binds K _ ["self"] [] := Fla.fn.binds fun _ _ _ _ _ _ us hl => match us, hl with | [_], _ => rfl
  obtain ⟨dI, vI, bI⟩ := FI.fn.binds1 (ps := ["self", "first", "last"]) 3 1 (by simp) (by rfl) (fun _ _ _ _ _ _ _ us its h1 h2 => match us, its, h1, h2 with | [_, _, _], [_], _, _ => ⟨_, rfl, rfl⟩)
  cases vI
  have Z : Ct K mg C CN := ⟨⟨D.pg, D.hd, D.po, D.sa⟩, D.nF, D.nL, PySem.W.mg_of X G D.nC, D.kC, D.ca, D.cn, D.ct, D.cm, PySem.W.mg_of X G D.n_NoDay, D.xN, D.kN, D.bN, D.tN⟩
  have S1 : Pm K mg C CN := ⟨⟨⟨_, _, Ffi.fn, bfi, Ffi.me⟩, ⟨_, _, Fla.fn, bla, Fla.me⟩, Z⟩, ⟨_, _, Bda⟩, ⟨_, _, ⟨Bwh, _, _, Bfr⟩⟩, ⟨_, _, ⟨FI.mks, FI.at_, FI.isf, D.kC⟩, FI.fn, bI⟩, ⟨_, _, Bmt⟩, ⟨_, _, Ble⟩, ⟨_, _, Bck⟩, kit_self⟩
  have S2 : Pu K mg C CN cmg := ⟨⟨⟨S1, ⟨_, _, Bea⟩⟩, ⟨_, _, Bov⟩, ⟨_, _, Bga⟩, ⟨_, _, Fmg.fn, bmg, PySem.W.mg_of X G Fmg.ns⟩⟩, ⟨_, _, Bei, kb_gF Fei.fn rfl fun _ _ _ _ _ _ _ _ => rfl⟩, ⟨_, _, Bbo, kb_gS Fbo.fn rfl fun _ _ _ _ _ _ _ _ => rfl⟩, ⟨_, _, Bon, kb_gF Fon.fn rfl fun _ _ _ _ _ _ _ _ => rfl⟩⟩
  have S : Fs K mg C CN cmg cmy := ⟨S2, ⟨_, _, Bce⟩, ⟨_, _, Bpo⟩, ⟨_, _, Bta⟩, ⟨_, _, Bfa⟩, ⟨_, _, Bro⟩, ⟨_, _, Bha⟩, ⟨_, _, Bli⟩, ⟨_, _, Bmk⟩, ⟨_, _, Bdu⟩, ⟨_, _, Bre⟩, ⟨_, _, Bto⟩, ⟨_, _, Bwa⟩, ⟨_, _, Bsh⟩, ⟨_, _, Fmy.fn, bmy, PySem.W.mg_of X G Fmy.ns⟩⟩
  have hT : ∀ p ∈ ([(cmg, Pmg), (cmy, Pmy)] : List (Addr × Addr)), h.get? p.2 = some { cls := .none, data := .fields #[] } := List.forall_mem_cons.mpr ⟨ht _ mmg, List.forall_mem_cons.mpr ⟨ht _ mmy, fun _ z => nomatch z⟩⟩
  have nT : ∀ p ∈ ([(cmg, Pmg), (cmy, Pmy)] : List (Addr × Addr)), K.lookup p.2 = none := List.forall_mem_cons.mpr ⟨Fmg.nP, List.forall_mem_cons.mpr ⟨Fmy.nP, fun _ z => nomatch z⟩⟩
  have hC : ∀ p ∈ ([(cmg, Pmg), (cmy, Pmy)] : List (Addr × Addr)), PySem.W.CodeHd h p.1 p.2 := List.forall_mem_cons.mpr ⟨PySem.W.codeHd_of_K X Fmg.hd, List.forall_mem_cons.mpr ⟨PySem.W.codeHd_of_K X Fmy.hd, fun _ z => nomatch z⟩⟩
  refine ⟨_, _, spLaw K Pmg Pmy, hT, nT, hC, fun s v => .of_eq rfl, fun H a ns hl hH hS => ⟨a, ns, rfl, hS, hl, fun p hp => ?_, fun _ => rfl⟩, fun base _ _ TB => ok_law FW.fn T S ⟨TB _ (.head _), TB _ (.tail _ (.head _)), nmgmy⟩⟩
  rcases List.mem_cons.mp hp with rfl | hp
  · exact TabS.nil (hH _ (.head _))
  · rw [List.mem_singleton.mp hp]
    exact TabS.nil (hH _ (.tail _ (.head _)))
end K14
open PySem PySem.W PyProof.Rows
set_option maxHeartbeats 0 in
theorem PySem.Challenge.cw_lightturns_k14_either_both_only_holds : PySem.Challenge.rw_lightturns_k14_either_both_only.Holds := by
  w_on; o_law; k_head; (case hw => w_witness2)
  k_fill
  refine LT.end_ofG (l := PySem.Challenge.rw_lightturns_k14_either_both_only) (n := 63) (k := 10) (x := "_law_script") (CX := fun _ => L2.CX0) rfl (by decide) rfl ⟨rfl, by decide, by decide⟩ (fun w h Y => PySem.W.km_in_of Y) ?F (fun _ _ _ _ _ h => h)
  case F =>
    intro w mg fa h Y KX G hmg
    refine' K14.all_mk KX G hmg (PySem.W.km_tabs_of Y) ⟨?d_nC, ?d_n_NoDay, ?d_pg, ?d_hd, ?d_po, ?d_sa, ?d_nF, ?d_nL, ?d_kC, ?d_ca, ?d_cn, ?d_ct, ?d_cm, ?d_xN, ?d_kN, ?d_bN, ?d_tN⟩ ⟨?i_at, ?i_lk, ?i_cd, ?i_kp, ?i_isf, ?i_lT, ?i_mks⟩ ⟨?m_fi_at, ?m_fi_lk, ?m_fi_cd, ?m_fi_kp, ?m_fi_isf⟩ ⟨?m_la_at, ?m_la_lk, ?m_la_cd, ?m_la_kp, ?m_la_isf⟩ ⟨?l_mg_ns, ?l_mg_lk, ?l_mg_cd, ?l_mg_kp, ?l_mg_lC, ?l_mg_vP, ?l_mg_hd, ?l_mg_nP⟩ ?t_mg ⟨?l_my_ns, ?l_my_lk, ?l_my_cd, ?l_my_kp, ?l_my_lC, ?l_my_vP, ?l_my_hd, ?l_my_nP⟩ ?t_my ⟨?f_wh_ns, ?f_wh_lk, ?f_wh_cd, ?f_wh_kp⟩ ⟨?f_fr_ns, ?f_fr_lk, ?f_fr_cd, ?f_fr_kp⟩ ⟨?f_da_ns, ?f_da_lk, ?f_da_cd, ?f_da_kp⟩ ⟨?f_ck_ns, ?f_ck_lk, ?f_ck_cd, ?f_ck_kp⟩ ⟨?f_mt_ns, ?f_mt_lk, ?f_mt_cd, ?f_mt_kp⟩ ⟨?f_le_ns, ?f_le_lk, ?f_le_cd, ?f_le_kp⟩ ⟨?f_ce_ns, ?f_ce_lk, ?f_ce_cd, ?f_ce_kp⟩ ⟨?f_po_ns, ?f_po_lk, ?f_po_cd, ?f_po_kp⟩ ⟨?f_ta_ns, ?f_ta_lk, ?f_ta_cd, ?f_ta_kp⟩ ⟨?f_fa_ns, ?f_fa_lk, ?f_fa_cd, ?f_fa_kp⟩ ⟨?f_ro_ns, ?f_ro_lk, ?f_ro_cd, ?f_ro_kp⟩ ⟨?f_ha_ns, ?f_ha_lk, ?f_ha_cd, ?f_ha_kp⟩ ⟨?f_li_ns, ?f_li_lk, ?f_li_cd, ?f_li_kp⟩ ⟨?f_mk_ns, ?f_mk_lk, ?f_mk_cd, ?f_mk_kp⟩ ⟨?f_du_ns, ?f_du_lk, ?f_du_cd, ?f_du_kp⟩ ⟨?f_ei_ns, ?f_ei_lk, ?f_ei_cd, ?f_ei_kp⟩ ⟨?f_bo_ns, ?f_bo_lk, ?f_bo_cd, ?f_bo_kp⟩ ⟨?f_on_ns, ?f_on_lk, ?f_on_cd, ?f_on_kp⟩ ⟨?f_ov_ns, ?f_ov_lk, ?f_ov_cd, ?f_ov_kp⟩ ⟨?f_ga_ns, ?f_ga_lk, ?f_ga_cd, ?f_ga_kp⟩ ⟨?f_ea_ns, ?f_ea_lk, ?f_ea_cd, ?f_ea_kp⟩ ⟨?f_re_ns, ?f_re_lk, ?f_re_cd, ?f_re_kp⟩ ⟨?f_to_ns, ?f_to_lk, ?f_to_cd, ?f_to_kp⟩ ⟨?f_wa_ns, ?f_wa_lk, ?f_wa_cd, ?f_wa_kp⟩ ⟨?f_sh_ns, ?f_sh_lk, ?f_sh_cd, ?f_sh_kp⟩ ⟨?f_W_ns, ?f_W_lk, ?f_W_cd, ?f_W_kp⟩ ?z_isinstance ?z_int ?z_bool ?z_len ?z_abs ?z_max ?z_min ?z_divmod ?z_range ?z_repr ?z_tuple ?z_list ?z_sorted ?z_set ?z_any ?z_all ?z_sum ?n_mg_my
    (case d_nC => k_is)
    (case d_n_NoDay => k_is)
    (case d_pg => k_is)
    (case d_hd => k_is)
    (case d_po => k_is)
    (case d_sa => k_is)
    (case d_nF => k_is)
    (case d_nL => k_is)
    (case d_kC => k_is)
    (case d_ca => k_is)
    (case d_cn => k_is)
    (case d_ct => k_is)
    (case d_cm => k_is)
    (case d_xN => k_exc)
    (case d_kN => k_is)
    (case d_bN => k_is)
    (case d_tN => k_is)
    (case i_at => k_is)
    (case i_lk => k_is)
    (case i_cd => k_is)
    (case i_kp => k_is)
    (case i_isf => k_is)
    (case i_lT => k_is)
    (case i_mks => k_is)
    (case m_fi_at => k_is)
    (case m_fi_lk => k_is)
    (case m_fi_cd => k_is)
    (case m_fi_kp => k_is)
    (case m_fi_isf => k_is)
    (case m_la_at => k_is)
    (case m_la_lk => k_is)
    (case m_la_cd => k_is)
    (case m_la_kp => k_is)
    (case m_la_isf => k_is)
    (case l_mg_ns => k_is)
    (case l_mg_lk => k_is)
    (case l_mg_cd => k_is)
    (case l_mg_kp => k_is)
    (case l_mg_lC => k_is)
    (case l_mg_vP => rfl)
    (case l_mg_hd => kernel_rfl)
    (case l_mg_nP => kernel_rfl)
    (case t_mg => k_mem)
    (case l_my_ns => k_is)
    (case l_my_lk => k_is)
    (case l_my_cd => k_is)
    (case l_my_kp => k_is)
    (case l_my_lC => k_is)
    (case l_my_vP => rfl)
    (case l_my_hd => kernel_rfl)
    (case l_my_nP => kernel_rfl)
    (case t_my => k_mem)
    (case f_wh_ns => k_is)
    (case f_wh_lk => k_is)
    (case f_wh_cd => k_is)
    (case f_wh_kp => k_is)
    (case f_fr_ns => k_is)
    (case f_fr_lk => k_is)
    (case f_fr_cd => k_is)
    (case f_fr_kp => k_is)
    (case f_da_ns => k_is)
    (case f_da_lk => k_is)
    (case f_da_cd => k_is)
    (case f_da_kp => k_is)
    (case f_ck_ns => k_is)
    (case f_ck_lk => k_is)
    (case f_ck_cd => k_is)
    (case f_ck_kp => k_is)
    (case f_mt_ns => k_is)
    (case f_mt_lk => k_is)
    (case f_mt_cd => k_is)
    (case f_mt_kp => k_is)
    (case f_le_ns => k_is)
    (case f_le_lk => k_is)
    (case f_le_cd => k_is)
    (case f_le_kp => k_is)
    (case f_ce_ns => k_is)
    (case f_ce_lk => k_is)
    (case f_ce_cd => k_is)
    (case f_ce_kp => k_is)
    (case f_po_ns => k_is)
    (case f_po_lk => k_is)
    (case f_po_cd => k_is)
    (case f_po_kp => k_is)
    (case f_ta_ns => k_is)
    (case f_ta_lk => k_is)
    (case f_ta_cd => k_is)
    (case f_ta_kp => k_is)
    (case f_fa_ns => k_is)
    (case f_fa_lk => k_is)
    (case f_fa_cd => k_is)
    (case f_fa_kp => k_is)
    (case f_ro_ns => k_is)
    (case f_ro_lk => k_is)
    (case f_ro_cd => k_is)
    (case f_ro_kp => k_is)
    (case f_ha_ns => k_is)
    (case f_ha_lk => k_is)
    (case f_ha_cd => k_is)
    (case f_ha_kp => k_is)
    (case f_li_ns => k_is)
    (case f_li_lk => k_is)
    (case f_li_cd => k_is)
    (case f_li_kp => k_is)
    (case f_mk_ns => k_is)
    (case f_mk_lk => k_is)
    (case f_mk_cd => k_is)
    (case f_mk_kp => k_is)
    (case f_du_ns => k_is)
    (case f_du_lk => k_is)
    (case f_du_cd => k_is)
    (case f_du_kp => k_is)
    (case f_ei_ns => k_is)
    (case f_ei_lk => k_is)
    (case f_ei_cd => k_is)
    (case f_ei_kp => k_is)
    (case f_bo_ns => k_is)
    (case f_bo_lk => k_is)
    (case f_bo_cd => k_is)
    (case f_bo_kp => k_is)
    (case f_on_ns => k_is)
    (case f_on_lk => k_is)
    (case f_on_cd => k_is)
    (case f_on_kp => k_is)
    (case f_ov_ns => k_is)
    (case f_ov_lk => k_is)
    (case f_ov_cd => k_is)
    (case f_ov_kp => k_is)
    (case f_ga_ns => k_is)
    (case f_ga_lk => k_is)
    (case f_ga_cd => k_is)
    (case f_ga_kp => k_is)
    (case f_ea_ns => k_is)
    (case f_ea_lk => k_is)
    (case f_ea_cd => k_is)
    (case f_ea_kp => k_is)
    (case f_re_ns => k_is)
    (case f_re_lk => k_is)
    (case f_re_cd => k_is)
    (case f_re_kp => k_is)
    (case f_to_ns => k_is)
    (case f_to_lk => k_is)
    (case f_to_cd => k_is)
    (case f_to_kp => k_is)
    (case f_wa_ns => k_is)
    (case f_wa_lk => k_is)
    (case f_wa_cd => k_is)
    (case f_wa_kp => k_is)
    (case f_sh_ns => k_is)
    (case f_sh_lk => k_is)
    (case f_sh_cd => k_is)
    (case f_sh_kp => k_is)
    (case f_W_ns => k_is)
    (case f_W_lk => k_is)
    (case f_W_cd => k_is)
    (case f_W_kp => k_is)
    (case z_isinstance => k_is)
    (case z_int => k_is)
    (case z_bool => k_is)
    (case z_len => k_is)
    (case z_abs => k_is)
    (case z_max => k_is)
    (case z_min => k_is)
    (case z_divmod => k_is)
    (case z_range => k_is)
    (case z_repr => k_is)
    (case z_tuple => k_is)
    (case z_list => k_is)
    (case z_sorted => k_is)
    (case z_set => k_is)
    (case z_any => k_is)
    (case z_all => k_is)
    (case z_sum => k_is)
    (case n_mg_my => decide)

