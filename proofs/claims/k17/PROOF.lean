import PyProof.Rows.All
import Wide.All
import OpenK.AllK
import Wide.FinOn
import HandS.ForMost
import HandS.IsInst
import HandS.Wide
import HandS.WideBits
import HandS.EndBits
import HandS.Style
import HandS.RaiseMore
import PyProof.ReprRoads
import PyProof.ListStr
import HandS.ForExc
import HandS.Exc
import HandS.ExcIs
import HandS.CallSlots
import HandS.HotCalls
import HandS.Defaults
import HandS.MakeKw
import HandS.MakeKwOnly
import PyProof.EqKinds
import PyProof.NeKinds
import KE.KFmtOwn
import HandS.OwnEq
import HandS.Lambda
import KE.SortKeyHeap
import PyProof.TupleOfSeq
import HandS.Strs
import HandS.SetFor
import HandS.Walk
import PyProof.Rows.SortShellAny
import PyProof.ReprLen
import HandS.EndTab
import HandS.Star
import HandS.FStr
import HandS.Flow
import PySem.Challenge.RW_lightturns_k17_whole_days_one_way
import HandS.More
set_option Elab.async false
set_option linter.all false
set_option maxRecDepth 100000
/-! Own layer: defs called where no repr is under way (FnG), repr of data, the end of a law by such a def. -/
namespace LT
open PySem PySem.Spec PyProof.Rows L2

structure FnG (P : Program) (w : World) (K : PySem.W.Frag) (mg : Str → Option Value) (base : Heap)
    (CX : CXT) (k : Nat) (f : Addr) (fd : FuncData) (ps : List Str) (sp : Sp) : Prop where
  argc : ∀ {vs : List V} {H : Hp} {Q : VK} {E : XK}, sp vs H Q E → vs.length = ps.length
  go : ∀ {A : Around} {outer : List Env} {s : Shared} {H : Hp} {args : Args} {us : List Value} {vs : List V}
    {Q : VK} {E : XK}, A.guards = some [] → Room k A → Env0 P w K mg base A outer s H →
    BindsTo s fd args (ps.zip us) → Vals vs us → sp vs H Q E →
    codeAny (model P w) A (.call (.ref f) args) (CR CX outer P w H s Q E) s

section
variable {P : Program} {w : World} {K : PySem.W.Frag} {mg : Str → Option Value} {base : Heap}
theorem FnG.of {CX : CXT} {k : Nat} {f : Addr} {fd : FuncData} {ps : List Str} {sp : Sp}
    (F : FnOk P w K mg base CX k f fd ps sp) : FnG P w K mg base CX k f fd ps sp :=
  ⟨fun h => F.len _ _ _ _ h, fun _ hr e b v h => F.run _ _ _ _ _ _ _ _ _ hr e b v h⟩

theorem okG {x qual : Str} {st : Stmt} {f : Addr} {fd : FuncData} {N ps : List Str} {k : Nat} {sp : Sp}
    (F : Fun K x qual st f fd) (S : FnScope N ps (defScope st))
    (argc : ∀ {vs : List V} {H : Hp} {Q : VK} {E : XK}, sp vs H Q E → vs.length = ps.length)
    (body : ∀ (cdv : Value) (A : Around) (outer : List Env) (s : Shared) (H : Hp) (vs : List V) (Q : VK) (E : XK),
      A.guards = some [] → Room k (A.deeper (envOfC qual (defScope st) s.heap.objs.size f cdv)) → sp vs H Q E →
      ∃ t, PSs (cxOf CX0 P w K mg base N qual (defScope st) f cdv A outer s H E).nox (defBody st) t ∧
        t { nx := fun _ H' => Q .non H', rt := Q } (start N vs) H) :
    FnG P w K mg base CX0 (k + 1) f fd ps sp := by
  obtain ⟨oc, od, kV, doc, pm, an, cdv, ct, osl, rfl, lk, hcd⟩ := F.ex
  refine ⟨argc, ?_⟩
  intro A outer s H args us vs Q E hg hr e0 hb r hsp
  have inS : ∀ b o, base.get? b = some o → s.heap.get? b = some o := fun b o e => (e0.bs b o e).1
  have KX : K.In s.heap := e0.mod.kin.keeps inS
  have hkind : ∀ y ∈ ps.zip us, (defScope st).names.lookup y.1 = some .local ∨
      ((defScope st).names.lookup y.1 = some .cell ∧
        ((cellsFrom (s.heap.objs.size + 1) (defScope st).names []).lookup y.1).isSome = true) := by
    rintro ⟨n, v⟩ hy
    rcases S.par n (List.of_mem_zip hy).1 with q | q
    · exact Or.inl q
    · exact Or.inr ⟨q, PySem.W.cellsFrom_some _ _ _ (Or.inl q)⟩
  refine codeAny_call_function hr.depth (KX _ _ lk) rfl S.co S.gen rfl (PySem.W.codeRec_of KX hcd)
    (hb _ _ _ _ (wpAny_newFunctionEnv_cells S.kind hkind fun env he s1 x => ?_))
  subst he
  refine ⟨(e0.mod.nolimit.keeps inS).keeps x.toInCall.keep, codeAny_func ?_⟩
  obtain ⟨t, ht, hq⟩ := body cdv A outer s H vs Q E hg (hr.deeper _) hsp
  have I := inv_start (CX := CX0) (N := N) (qual := qual) (f := f) (cd := cdv) (E := E) S hr.hd e0 (argc hsp) r x
  refine wpAny_mono (ht.nox.run [] s1 (start N vs) H _ I hq) (fun fl s' hs => ?_) (fun e s' hs => hs)
  cases fl with
  | brk => obtain ⟨_, _, _, q⟩ := hs; exact q.elim
  | cont => obtain ⟨_, _, _, q⟩ := hs; exact q.elim
  | next =>
    obtain ⟨σ', H', J, q⟩ := hs
    exact ⟨V.non, H', J.os, J.bare, J.base, J.hok, rfl, q⟩
  | ret u =>
    obtain ⟨v, σ', H', J, rv, q⟩ := hs
    exact ⟨v, H', J.os, J.bare, J.base, J.hok, rv, q⟩
end

/-! ### the call of such a def -/
section
variable {X : Cx} {CX : CXT} {k : Nat} {f : Addr} {fd : FuncData} {ps : List Str} {sp : Sp} {dvs : List V}
  {ds : List Value} {E : XK} {x : Str} {p pos : Pos} {e : Expr} {es : List Expr} {t : TA}
theorem runG {pins : List (Addr × Obj)} {σ : L2.St} {H : Hp} {s : Shared} {Q : VK} {us : List Value} {vs : List V}
    (F : FnG X.prog X.w X.K X.mg X.base CX k f fd ps sp) (hg : X.A.guards = some []) (hr : Room k X.A)
    (hb : Binds X.K fd ps ds) (hd : Vals dvs ds) (hx : Passes CX X E)
    (I : Inv X pins σ H s) (r : Vals vs us) (h : sp (vs ++ dvs) H Q E) :
    wpAny (model X.prog X.w) X.A (call (.ref f) us) (EP X pins σ Q) X.xe s := by
  have r2 : Vals (vs ++ dvs) (us ++ ds) := r.append hd
  have hl : (us ++ ds).length = ps.length := r2.length.symm.trans (F.argc h)
  refine wpAny_call (codeAny_mono (F.go hg hr I.env0 (hb s us I.kIn hl) r2 h) fun r s' hq => ?_)
  match r, hq with
  | .error e, hq => exact hx pins σ H s e s' I hq
  | .ok (.ret u), hq => exact I.after hq
  | .ok .next, hq => exact hq.elim
  | .ok .brk, hq => exact hq.elim
  | .ok .cont, hq => exact hq.elim
theorem pe_callG (F : FnG X.prog X.w X.K X.mg X.base CX k f fd ps sp) (hG : X.A.guards = some []) (hr : Room k X.A)
    (hg : Gl X x) (hm : X.mg x = some (.ref f)) (hk : PySem.W.keepIn X.K (.ref f) = true) (hb : Binds X.K fd ps ds)
    (hd : Vals dvs ds) (hx : Passes CX X E) (ha : PA X (e :: es) t)
    (hdb : (x == ("__debug__" : Str)) = false := by decide)
    (he : starEach (e :: es) X.env = (false, eval e X.env) :: starEach es X.env := by rfl)
    (hpl : (backTo pos (starEach es X.env)).any (·.1) = false := by rfl) :
    PE X (.Call (.Name x p) (e :: es) [] pos) (tCall sp dvs E t) := by
  refine ⟨fun pins s σ H Q I h => wpAny_Call_Name_kw (ld_glob I hg hm ?_ hdb)⟩
  refine PySem.W.callWith_K (h₀ := X.base) I.ok.mod.kin hk ?_ he hpl
  exact thn (ha.run pos pins s σ H _ I h) fun us s1 ⟨vs, H1, I1, r, q⟩ => ⟨I1.kIn, runG F hG hr hb hd hx I1 r q⟩

/-- f(k = v, ..), keywords alone -/
theorem pe_callKw {ks : List Str} {kws : List Keyword} {tk : TA} {g : List Value → List Value → List Value} {gV : List V → List V → List V}
    (F : FnOk X.prog X.w X.K X.mg X.base CX k f fd ps sp) (hr : Room k X.A) (hg : Gl X x) (hm : X.mg x = some (.ref f))
    (hk : PySem.W.keepIn X.K (.ref f) = true) (hb : KBinds X.K fd ps ks g gV) (hx : Passes CX X E) (hkw : PK X kws tk)
    (hall : (backToKw pos (keywordEach kws X.env)).all (·.1.isSome) = true := by rfl)
    (hks : (backToKw pos (keywordEach kws X.env)).filterMap (·.1) = ks := by rfl)
    (hdb : (x == ("__debug__" : Str)) = false := by decide)
    (hpl : ((backTo pos (starEach [] X.env)).any (·.1) || (backToKw pos (keywordEach kws X.env)).any (·.1.isNone)) = false := by rfl) :
    PE X (.Call (.Name x p) [] kws pos) (tCallK sp gV E tNil tk) := by
  refine ⟨fun pins s σ H Q I h => wpAny_Call_Name_kw (ld_glob I hg hm ?_ hdb)⟩
  refine PySem.W.callWith_KW0 (h₀ := X.base) I.ok.mod.kin hk hall ?_ hpl
  refine thn (hkw.run pos pins s σ H _ I h) fun ws s2 ⟨zs, H2, I2, rz, q2⟩ => ⟨I2.kIn, ?_⟩
  rw [hks]
  exact run_fnk (us := []) F hr hb hx I2 .nil rz q2
/-- positional values, then those of keywords, in the order of the parameters -/
theorem kb_of {K : PySem.W.Frag} {y qual : Str} {st : Stmt} {f : Addr} {fd : FuncData} {ps ks : List Str} (F : Fun K y qual st f fd)
    (h : ∀ (kV doc pm : Value) (an : Option Addr) (cdv ct : Value) (us ws : List Value), (us ++ ws).length = ps.length →
      bindArgs (PySem.W.fnOf y qual (defArgs st) (defBody st) (defScope st) .none kV doc pm an cdv ct) ⟨us, ks.zip ws⟩ = pure (ps.zip (us ++ ws))) :
    KBinds K fd ps ks (· ++ ·) (· ++ ·) := by
  obtain ⟨oc, od, kV, doc, pm, an, cdv, ct, osl, rfl, lk, hcd⟩ := F.ex
  exact ⟨fun s us ws _ hl => .of_eq (h kV doc pm an cdv ct us ws hl), fun r z => r.append z⟩
end

/-! ### repr of data -/
inductive Sh (K : PySem.W.Frag) (H : Hp) : V → PyData → Prop
  | dp {v : V} {d : PyData} : Dp K H v d → d.hasDict = false → Sh K H v d
  | one {a : Addr} {k : Str} {i : Int} : H a = some (.dK [(.inr k, .int i)]) → Sh K H (.ref a) (.dict [(.str k, .int i)])
section
variable {X : Cx} {pins : List (Addr × Obj)} {σ : L2.St} {H : Hp} {s : Shared}
theorem Sh.reads (I : Inv X pins σ H s) {v : V} {d : PyData} {u : Value} (h : Sh X.K H v d) (r : RelV v u) :
    ∃ as, Reads s.heap u d as ∧ (d.hasDict = true → sysModules ∉ as) := by
  cases h with
  | dp h hd =>
    obtain ⟨as, q⟩ := Dp.reads I d v u h r
    exact ⟨as, q, PyData.noDict_hsm hd⟩
  | one h =>
    rename_i a k i
    cases r
    obtain ⟨_, hs, vs, rel, o, es, ep, ho, hx, hd, hko, hp, hn⟩ := I.hok a _ h
    cases rel with
    | cons r1 r2 =>
      cases r2
      rename_i kv
      obtain ⟨kk, uu⟩ := kv
      obtain ⟨e1, t, e2⟩ := r1
      cases e1
      cases e2
      generalize hes : es.toList = l at hp
      cases hp with
      | cons k1 k2 k3 =>
        cases k3
        rename_i e
        have k0 : keyIs (Sum.inr k) e.key = true := k1
        obtain ⟨_, _, z, _⟩ | ⟨y, t', z, e3⟩ := keyIs_shape k0
        · cases z
        · cases z
          refine ⟨_, Reads.dict (as := []) (bs := []) ho hx.1 hd ?_ ?_, fun _ z => ?_⟩
          · rw [hes, List.map_cons, List.map_nil, e3]
            exact ReadsAll.cons (Reads.str _ _) .nil
          · rw [hes, List.map_cons, List.map_nil, k2]
            exact ReadsAll.cons (Reads.int _ _) .nil
          · have z2 : sysModules = a := by simpa using z
            rw [z2] at hs
            simp at hs
theorem call_reprSh (hG : X.A.guards = some []) (hu : X.A.units + 64 < cLine) : CallR X (.builtin "repr")
    (fun xs H Q => ∃ x d, xs = [x] ∧ Sh X.K H x d ∧ d.showable = true ∧ d.depth ≤ 60 ∧ d.shown.length ≤ sizeLine ∧
      Q (.str d.shown) H) := by
  intro pins s σ H xs us Q I r h
  obtain ⟨x, d, rfl, hs, sh, dp, sz, q⟩ := h
  obtain ⟨u, rfl, ru⟩ := vals1 r
  obtain ⟨as, rd, hm⟩ := hs.reads I ru
  cases rd with
  | none => exact PySem.P.repr_of_none ⟨.str _, H, I.tok _, ⟨_, rfl⟩, q⟩
  | bool b => exact PySem.P.repr_of_bool ⟨.str _, H, I.tok _, ⟨_, rfl⟩, q⟩
  | int i t => exact PySem.P.repr_of_int (of_decide_eq_true sh) ⟨.str _, H, I.tok _, ⟨_, rfl⟩, q⟩
  | str y t => exact PySem.P.repr_of_str ⟨.str _, H, I.tok _, ⟨_, rfl⟩, q⟩ sz
  | list h1 h2 h3 h4 =>
    exact repr_of_reads' (.list h1 h2 h3 h4) sh hm hG (by omega) (fun _ _ e => e) (fun h' u tk hk => ⟨.str _, H, I.kept hk, ⟨_, rfl⟩, q⟩) sz
  | tuple h1 h2 h3 h4 =>
    exact repr_of_reads' (.tuple h1 h2 h3 h4) sh hm hG (by omega) (fun _ _ e => e) (fun h' u tk hk => ⟨.str _, H, I.kept hk, ⟨_, rfl⟩, q⟩) sz
  | dict h1 h2 h3 h4 h5 =>
    exact repr_of_reads' (.dict h1 h2 h3 h4 h5) sh hm hG (by omega) (fun _ _ e => e) (fun h' u tk hk => ⟨.str _, H, I.kept hk, ⟨_, rfl⟩, q⟩) sz
end

/-! ### text * number, list(text) -/
section
variable {X : Cx}
theorem rep_list (a : Array Nat) : ∀ (n : Nat) (acc : Array Nat),
    ((List.replicate n a).foldl (· ++ ·) acc).toList = acc.toList ++ (List.replicate n a.toList).flatten
  | 0, acc => by simp
  | n + 1, acc => by
    rw [List.replicate_succ, List.foldl_cons, rep_list a n, List.replicate_succ, List.flatten_cons, Array.toList_append, List.append_assoc]
theorem rep_len (a : Str) (n : Nat) : (Str.mk ((List.replicate n a.cps).foldl (· ++ ·) #[])).length = n * a.length := by
  show Array.size _ = n * a.cps.size
  rw [← Array.length_toList, rep_list]
  simp [List.sum_replicate_nat]
theorem op_mul_str : OpR X (binaryOp .Mult) (fun x y H Q => ∃ (a : Str) (n : Int), x = .str a ∧ y = .int n ∧ 2 ≤ n ∧ n ≤ 1000 ∧ 1 ≤ a.length ∧ a.length ≤ 1000 ∧
    Q (.str ⟨(List.replicate n.toNat a.cps).foldl (· ++ ·) #[]⟩) H) := by
  intro pins s σ H x y v u Q I rx ry h
  obtain ⟨a, n, rfl, rfl, h2, hn, h1, ha, q⟩ := h
  obtain ⟨t, rfl⟩ := rx
  obtain ⟨t', rfl⟩ := ry
  have hz : a.length * n.toNat ≤ 1000000 := Nat.le_trans (Nat.mul_le_mul ha (show n.toNat ≤ 1000 by omega)) (by decide)
  refine PySem.P.mul_str ?_ (fun _ _ => ?_) (fun _ _ => ?_) ?_
  · rw [decide_eq_false (by omega), decide_eq_false (by omega)]
    rfl
  · have h3 : (1000 : Int) ≤ (2 ^ 63 - 1) / n := by
      rw [Int.le_ediv_iff_mul_le (by omega)]
      omega
    omega
  · exact decide_eq_false (by rw [sizeLine_eq]; omega)
  · rw [if_neg (by omega), if_neg]
    · refine ⟨?_, .str _, H, I.tok _, ⟨_, rfl⟩, q⟩
      rw [rep_len, sizeLine_eq, Nat.mul_comm]
      omega
    · rw [Bool.or_eq_true, beq_iff_eq, beq_iff_eq]
      omega
theorem paired_of {α β : Type} {R : α → β → Prop} : ∀ {xs : List α} {ys : List β}, xs.length = ys.length →
    (∀ (j : Nat) x y, xs[j]? = some x → ys[j]? = some y → R x y) → Paired R xs ys
  | [], [], _, _ => .nil
  | [], _ :: _, h, _ => by cases h
  | _ :: _, [], h, _ => by cases h
  | x :: xs, y :: ys, h, f => .cons (f 0 x y rfl rfl) (paired_of (Nat.succ.inj h) fun j a b h1 h2 => f (j + 1) a b h1 h2)
theorem call_list_txt (hc : X.calm = true) : CallR X (.type "list") (fun xs H Q => ∃ (a : Str), xs = [.str a] ∧ a.length ≤ sizeLine ∧
    ∀ l, H l = none → Q (.ref l) (upd H l (.lst (a.cps.toList.map fun c => V.str ⟨#[c]⟩)))) := by
  intro pins s σ H xs us Q I r h
  obtain ⟨a, rfl, hl, q⟩ := h
  obtain ⟨u, rfl, t, rfl⟩ := vals1 r
  refine call_list_str (I.ok.hd hc) a t (hn := hl) fun h' tk acc c hk ho hit => ?_
  have hn : H s.heap.objs.size = none := I.hok.fresh (Nat.le_refl _)
  refine ⟨.ref s.heap.objs.size, _, I.laid (t' := tk) hk (Nat.le_refl _) ?_, rfl, q _ hn⟩
  refine ⟨?_, acc.toList, c, ?_, by simpa using ho⟩
  · rw [List.length_map, Array.length_toList]
    exact hl
  · refine paired_of (by rw [List.length_map, Array.length_toList, Array.length_toList, hit.1]) fun j v u h1 h2 => ?_
    rw [List.getElem?_map, Array.getElem?_toList] at h1
    obtain ⟨d, t', h3, rfl⟩ := hit.2 j u (by rw [← Array.getElem?_toList]; exact h2)
    rw [h3] at h1
    cases h1
    exact ⟨t', rfl⟩
end

/-! ### the end of a law whose def wants that no repr is under way -/
theorem end_call {P : Program} {w : World} {K : PySem.W.Frag} {mg mb : Str → Option Value} {CX : CXT} {k : Nat} {fa a : Addr}
    {fd : FuncData} {x : Str} {sp : Sp} {s₁ : Shared} {vs : List Value} {ns : List Int}
    (KX : K.In s₁.heap) (hns : s₁.heap.Ns mainGlobals mg) (hb : s₁.heap.Ns builtinsNs mb)
    (hbb : ∀ x : Str, x ≠ "__name__" → mb x = bootBuiltins x) (hlim : s₁.heap.NoLimit) (hg : s₁.gens = #[])
    (ha : s₁.heap.get? a = some { cls := .type "list", data := .seq vs.toArray }) (hi : IntsAre vs ns)
    (hl : ns.length ≤ sizeLine) (hr : Room k callerA)
    (F : ∀ base : Heap, K.In base → base.Ns mainGlobals mg → FnG P w K mg base CX k fa fd [x] sp)
    (hbind : ∀ (s : Shared) (u : Value), BindsTo s fd ⟨[u], []⟩ [(x, u)])
    (hsp : ∀ H : Hp, Only H → SqL K H a (ns.map V.int) → sp [.ref a] H (fun v _ => v = .bl true) fun _ _ _ => False)
    (hCX : ∀ H e s', CX [] H s₁ (fun _ _ _ => False) e s' → False) :
    codeAny (model P w) callerA (.call (.ref fa) ⟨[.ref a], []⟩)
      (fun r s' => r = .ok (.ret (.bool true)) ∧ OldK s₁.heap s'.heap ∧ s'.os = s₁.os ∧ AllBare s'.gens) s₁ := by
  have lenV := hi.length
  have start : ∀ H : Hp, Only H → SqL K H a (ns.map V.int) → HOk P w H s₁.heap → (∀ b, H b ≠ none → b = a) →
      (H a ≠ none → K.lookup a = none) → codeAny (model P w) callerA (.call (.ref fa) ⟨[.ref a], []⟩)
        (fun r s' => r = .ok (.ret (.bool true)) ∧ OldK s₁.heap s'.heap ∧ s'.os = s₁.os ∧ AllBare s'.gens) s₁ := by
    intro H hO hS hok hA hK
    have free : ∀ {b : Addr}, (b = a → False) → H b = none := fun {b} hne => by
      cases q : H b with
      | none => rfl
      | some u => exact (hne (hA b (by rw [q]; exact Option.some_ne_none u))).elim
    have nsK : ∀ {b : Addr} {m : Str → Option Value}, s₁.heap.Ns b m → (hidT s₁.heap H).Ns b m := by
      rintro b m ⟨o, es, ep, e, d, r⟩
      refine ⟨o, es, ep, hidT_get e (free fun z => ?_), d, r⟩
      subst z
      rw [ha] at e
      cases e
      cases d
    have inK : K.In (hidT s₁.heap H) := fun b o e => hidT_get (KX b o e) (by
      cases q : H b with
      | none => rfl
      | some u =>
        obtain rfl : b = a := hA b (by rw [q]; exact Option.some_ne_none u)
        have z := hK (by rw [q]; exact Option.some_ne_none u)
        rw [z] at e
        cases e)
    have hM : Mod K mg (hidT s₁.heap H) := ⟨inK, nsK hns, ⟨mb, nsK hb, hbb⟩, hlim.imp fun _ z => ⟨nsK z.1, z.2⟩⟩
    have e0 : Env0 P w K mg (hidT s₁.heap H) callerA [] s₁ H :=
      ⟨rfl, hM, fun b o e => of_hidT e, Nat.le_of_eq (hidT_size _ _), trivial,
        fun b z => absurd (show b ∈ ([] : List Addr) from z) List.not_mem_nil, hok, .of_eq hg⟩
    refine codeAny_mono ((F _ inK (nsK hns)).go (us := [.ref a]) (vs := [.ref a]) rfl hr e0 (hbind s₁ (.ref a)) (.cons rfl .nil) (hsp H hO hS)) fun r s' h => ?_
    match r, h with
    | .error e, h => exact (hCX H e s' h).elim
    | .ok .next, h => exact h.elim
    | .ok .brk, h => exact h.elim
    | .ok .cont, h => exact h.elim
    | .ok (.ret u), h =>
      obtain ⟨v, H', os, bare, un, hok', r', rfl⟩ := h
      obtain rfl : u = Value.bool true := r'
      refine ⟨rfl, OldK.of_keep fun b o e => ?_, os, bare⟩
      rcases hO b with z | ⟨ob, xs, z⟩
      · exact un.keep b o e z (fun y => absurd (show b ∈ ([] : List Addr) from y) List.not_mem_nil) List.not_mem_nil
      · have z1 := (hok b _ z).1
        rw [e] at z1
        cases z1
        exact (hok' b _ (un.frzs b _ _ z)).1
  cases hk : K.lookup a with
  | some o =>
    have e := KX a o hk
    rw [ha] at e
    cases e
    refine start (fun _ => none) (fun _ => .inl rfl) (.inr ⟨_, vs.toArray, _, hk, rfl, rfl, rfl, ?_, by simpa using vals_ints hi⟩)
      (fun b u z => nomatch z) (fun b z => absurd rfl z) fun z => absurd rfl z
    rw [List.size_toArray, lenV]
    exact hl
  | none =>
    refine start (upd (fun _ => none) a (.frz { cls := .type "list", data := .seq vs.toArray } (.lst (ns.map V.int))))
      (fun b => ?_) (.inl (.inr ⟨_, upd_same⟩)) (fun b u z => ?_) (fun b z => ?_) fun _ => hk
    · by_cases q : b = a
      · exact .inr ⟨_, _, by rw [q]; exact upd_same⟩
      · exact .inl (upd_ne q)
    · by_cases q : b = a
      · subst q
        rw [upd_same] at z
        cases z
        exact ⟨ha, by rw [List.length_map]; exact hl, vs, _, vals_ints hi, ha⟩
      · rw [upd_ne q] at z
        cases z
    · by_cases q : b = a
      · exact q
      · exact absurd (upd_ne q) z

theorem end_of {l : PySem.W.OpenLaw} {n k : Nat} {q : Program} {loose : List Str} {XP : (Str → Option Value) → Heap → Prop}
    {YP : World → Heap → Prop} {d : DefRec} {K : Params → PySem.W.Frag} {CX : World → CXT} {sp : World → Sp} {x : Str}
    (hn : l.most = some n) (hn2 : n ≤ sizeLine) (hdf : d.params.defaults = []) (hr : Room k callerA)
    (hY : ∀ (w : World) (h : Heap), YP w h → (K w.params).In h)
    (F : ∀ (w : World) (mg : Str → Option Value) (fa : Addr) (h : Heap), (K w.params).In h → h.Ns mainGlobals mg →
      mg d.name = some (.ref fa) → ∃ fd : FuncData, (∀ (s : Shared) (u : Value), BindsTo s fd ⟨[u], []⟩ [(x, u)]) ∧
        ∀ base : Heap, (K w.params).In base → base.Ns mainGlobals mg →
          FnG l.prog w (K w.params) mg base (CX w) k fa fd [x] (sp w))
    (hsp : ∀ (w : World) (H : Hp) (a : Addr) (ns : List Int), ns.length ≤ n →
      (∀ z ∈ ns, Builtin.Int.intBits z ≤ 1048576) → Only H → SqL (K w.params) H a (ns.map V.int) →
      sp w [.ref a] H (fun v _ => v = .bl true) fun _ _ _ => False)
    (hCX : ∀ (w : World) (H : Hp) (s : Shared) (e : Value) (s' : Shared), CX w [] H s (fun _ _ _ => False) e s' → False) :
    PySem.W.WalkO q loose XP YP l.row.toRowW d [] (fun f vs => PySem.call f vs) :=
  Att.attach_callB hn hdf fun w _ s₁ mg mb fa o pm cd doc a vs ns G Y ho hd hcd hmg hobj hints hlen hbits hg => by
    obtain ⟨fd, hb, hF⟩ := F w mg fa _ (hY w _ Y) G.T.g hmg
    exact end_call (hY w _ Y) G.T.g G.T.b G.T.builtins G.T.nolimit hg hobj hints (Nat.le_trans hlen hn2) hr hF hb
      (fun H hO hS => hsp w H a ns hlen hbits hO hS) fun H e s' => hCX w H s₁ e s'
end LT

set_option Elab.async false
set_option linter.all false
set_option maxRecDepth 100000
/-! Own layer: a def to which the caught error is handed; isinstance of it there. -/
namespace LT
open PySem PySem.Spec PyProof.Rows L2
/-- as FnOk, called within an except suite; p is the caught error, which the promise may name -/
structure FnE (P : Program) (w : World) (K : PySem.W.Frag) (mg : Str → Option Value) (base : Heap)
    (k : Nat) (f : Addr) (fd : FuncData) (ps : List Str) (sp : Addr × Obj → Sp) : Prop where
  argc : ∀ {p : Addr × Obj} {vs : List V} {H : Hp} {Q : VK} {E : XK}, sp p vs H Q E → vs.length = ps.length
  go : ∀ {A : Around} {outer : List Env} {s : Shared} {H : Hp} {args : Args} {us : List Value} {vs : List V}
    {Q : VK} {E : XK} {p : Addr × Obj}, L2H.RoomH k A → L2H.PinOk outer H s p → Env0 P w K mg base A outer s H →
    BindsTo s fd args (ps.zip us) → Vals vs us → sp p vs H Q E →
    codeAny (model P w) A (.call (.ref f) args) (CR CX0 outer P w H s Q E) s
section
variable {P : Program} {w : World} {K : PySem.W.Frag} {mg : Str → Option Value} {base : Heap}
theorem okE {x qual : Str} {st : Stmt} {f : Addr} {fd : FuncData} {N ps : List Str} {k : Nat} {sp : Addr × Obj → Sp}
    (F : Fun K x qual st f fd) (S : FnScope N ps (defScope st))
    (argc : ∀ {p : Addr × Obj} {vs : List V} {H : Hp} {Q : VK} {E : XK}, sp p vs H Q E → vs.length = ps.length)
    (body : ∀ (cdv : Value) (A : Around) (outer : List Env) (s : Shared) (H : Hp) (vs : List V) (Q : VK) (E : XK) (p : Addr × Obj),
      L2H.RoomH k (A.deeper (envOfC qual (defScope st) s.heap.objs.size f cdv)) → sp p vs H Q E →
      ∃ t, PSs (L2H.cxH CX0 P w K mg base N qual (defScope st) f cdv A outer s H E p).nox (defBody st) t ∧
        t { nx := fun _ H' => Q .non H', rt := Q } (start N vs) H) :
    FnE P w K mg base (k + 1) f fd ps sp := by
  obtain ⟨oc, od, kV, doc, pm, an, cdv, ct, osl, rfl, lk, hcd⟩ := F.ex
  refine ⟨argc, ?_⟩
  intro A outer s H args us vs Q E p hr hpin e0 hb r hsp
  have inS : ∀ b o, base.get? b = some o → s.heap.get? b = some o := fun b o e => (e0.bs b o e).1
  have KX : K.In s.heap := e0.mod.kin.keeps inS
  have hkind : ∀ y ∈ ps.zip us, (defScope st).names.lookup y.1 = some .local ∨
      ((defScope st).names.lookup y.1 = some .cell ∧
        ((cellsFrom (s.heap.objs.size + 1) (defScope st).names []).lookup y.1).isSome = true) := by
    rintro ⟨n, v⟩ hy
    rcases S.par n (List.of_mem_zip hy).1 with q | q
    · exact Or.inl q
    · exact Or.inr ⟨q, PySem.W.cellsFrom_some _ _ _ (Or.inl q)⟩
  refine codeAny_call_function hr.depth (KX _ _ lk) rfl S.co S.gen rfl (PySem.W.codeRec_of KX hcd)
    (hb _ _ _ _ (wpAny_newFunctionEnv_cells S.kind hkind fun env he s1 x => ?_))
  subst he
  refine ⟨(e0.mod.nolimit.keeps inS).keeps x.toInCall.keep, codeAny_func ?_⟩
  obtain ⟨t, ht, hq⟩ := body cdv A outer s H vs Q E p (hr.deeper _) hsp
  have I := L2H.inv_startH (CX := CX0) (N := N) (qual := qual) (f := f) (cd := cdv) (E := E) S hpin e0 (argc hsp) r x
  refine wpAny_mono (ht.nox.run [] s1 (start N vs) H _ I hq) (fun fl s' hs => ?_) (fun e s' hs => hs)
  cases fl with
  | brk => obtain ⟨_, _, _, q⟩ := hs; exact q.elim
  | cont => obtain ⟨_, _, _, q⟩ := hs; exact q.elim
  | next =>
    obtain ⟨σ', H', J, q⟩ := hs
    exact ⟨V.non, H', J.os, J.bare, J.base, J.hok, rfl, q⟩
  | ret u =>
    obtain ⟨v, σ', H', J, rv, q⟩ := hs
    exact ⟨v, H', J.os, J.bare, J.base, J.hok, rv, q⟩
end
section
variable {X : Cx} {k : Nat} {f : Addr} {fd : FuncData} {ps : List Str} {sp : Addr × Obj → Sp} {x : Str} {q pos : Pos} {e : Expr}
  {es : List Expr} {t : TA} {p : Addr × Obj}
/-- the call of such a def, where p is pinned -/
def tCallE (p : Addr × Obj) (sp : Addr × Obj → Sp) (t : TA) : TE := fun σ H Q => t σ H fun vs H1 => sp p vs H1 Q E0
theorem pe_callE (F : FnE X.prog X.w X.K X.mg X.base k f fd ps sp) (hr : L2H.RoomH k X.A) (hp : p ∈ X.pn) (hg : Gl X x)
    (hm : X.mg x = some (.ref f)) (hk : PySem.W.keepIn X.K (.ref f) = true) (hb : L2.Binds X.K fd ps []) (ha : PA X (e :: es) t)
    (hdb : (x == ("__debug__" : Str)) = false := by decide)
    (he : starEach (e :: es) X.env = (false, eval e X.env) :: starEach es X.env := by rfl)
    (hpl : (backTo pos (starEach es X.env)).any (·.1) = false := by rfl) :
    PE X (.Call (.Name x q) (e :: es) [] pos) (tCallE p sp t) := by
  refine ⟨fun pins s σ H Q I h => wpAny_Call_Name_kw (ld_glob I hg hm ?_ hdb)⟩
  refine PySem.W.callWith_K (h₀ := X.base) I.ok.mod.kin hk ?_ he hpl
  refine thn (ha.run pos pins s σ H _ I h) fun us s1 ⟨vs, H1, I1, r, h1⟩ => ⟨I1.kIn, ?_⟩
  have hl : (us ++ []).length = ps.length := by
    rw [List.append_nil, ← r.length]
    exact F.argc h1
  have b := hb s1 us I1.kIn hl
  rw [List.append_nil] at b
  obtain ⟨p1, p2, p3, p4, p5⟩ := I1.pin p (List.mem_append_left _ hp)
  have pin : L2H.PinOk X.stack H1 s1 p := ⟨p1, p2, fun z => (List.mem_cons.mp (I1.stkSub p.1 z)).elim p3 p4, p5⟩
  refine wpAny_call (codeAny_mono (F.go hr pin I1.env0 b r h1) fun r s' hq => ?_)
  match r, hq with
  | .error _, hq => exact hq.elim
  | .ok (.ret u), hq => exact I1.after hq
  | .ok .next, hq => exact hq.elim
  | .ok .brk, hq => exact hq.elim
  | .ok .cont, hq => exact hq.elim
end
section
variable {X : Cx} {k : Nat} {f a : Addr} {oe : Obj} {cls : Value} {d : Option Addr} {fd : FuncData} {ps : List Str} {sp : Addr × Obj → Sp} {x : Str} {q pos : Pos} {e : Expr}
  {es : List Expr} {t : TA} {pn : List (Addr × Obj)}
/-- .. in an except suite; its reading names the error by its class and dict alone -/
def tCallZ (a : Addr) (cls : Value) (d : Option Addr) (sp : Addr × Obj → Sp) (t : TA) : TE := fun σ H Q => t σ H fun vs H1 =>
  ∀ oe : Obj, Zc cls d oe → (∃ vs, oe.data = .fields vs) → sp (a, oe) vs H1 Q E0
theorem pe_callZ (F : FnE X.prog X.w X.K X.mg X.base k f fd ps sp) (hr : Room k X.A) (hz : Zc cls d oe) (hf : ∃ vs, oe.data = .fields vs) (hg : Gl X x)
    (hm : X.mg x = some (.ref f)) (hk : PySem.W.keepIn X.K (.ref f) = true) (hb : L2.Binds X.K fd ps []) (ha : PA (X.suite a ((a, oe) :: pn)) (e :: es) t)
    (hdb : (x == ("__debug__" : Str)) = false := by decide)
    (he : starEach (e :: es) X.env = (false, eval e X.env) :: starEach es X.env := by rfl)
    (hpl : (backTo pos (starEach es X.env)).any (·.1) = false := by rfl) :
    PE (X.suite a ((a, oe) :: pn)) (.Call (.Name x q) (e :: es) [] pos) (tCallZ a cls d sp t) := by
  refine ⟨fun pins s σ H Q I h => ?_⟩
  have h2 : t σ H fun vs H1 => (fun vs H1 => ∀ oe : Obj, Zc cls d oe → (∃ vs, oe.data = .fields vs) → sp (a, oe) vs H1 Q E0) vs H1 := h
  refine (wpAny_Call_Name_kw (ld_glob (X := X.suite a ((a, oe) :: pn)) I hg hm ?_ hdb))
  refine PySem.W.callWith_K (h₀ := X.base) I.ok.mod.kin hk ?_ he hpl
  refine thn (ha.run pos pins s σ H _ I h2) fun us s1 ⟨vs, H1, I1, r, h1⟩ => ⟨I1.kIn, ?_⟩
  have h1 := h1 oe hz hf
  have hl : (us ++ []).length = ps.length := by
    rw [List.append_nil, ← r.length]
    exact F.argc h1
  have b := hb s1 us I1.kIn hl
  rw [List.append_nil] at b
  obtain ⟨p1, p2, p3, p4, p5⟩ := I1.pin (a, oe) (List.mem_append_left _ List.mem_cons_self)
  have pin : L2H.PinOk X.stack H1 s1 (a, oe) := ⟨p1, p2, fun z => (List.mem_cons.mp (I1.stkSub a z)).elim p3 p4, p5⟩
  refine wpAny_call (codeAny_mono (F.go (A := X.A.mark (some (.ref a))) ⟨hr.dp, hr.un⟩ pin I1.env0 b r h1) fun r s' hq => ?_)
  match r, hq with
  | .error _, hq => exact hq.elim
  | .ok (.ret u), hq => exact I1.after hq
  | .ok .next, hq => exact hq.elim
  | .ok .brk, hq => exact hq.elim
  | .ok .cont, hq => exact hq.elim
end
/-! ### isinstance of the pinned error -/
section
variable {X : Cx} {a D : Addr} {oe : Obj}
theorem pinned_at {pins : List (Addr × Obj)} {σ : L2.St} {H : Hp} {s : Shared} (I : Inv X pins σ H s) (hp : (a, oe) ∈ X.pn) (hz : Zc (.ref D) none oe)
    (hf : ∃ vs, oe.data = .fields vs) : PySem.W.InstAt s.heap a oe D none := by
  obtain ⟨hget, _⟩ := I.pin (a, oe) (List.mem_append_left _ hp)
  obtain ⟨vs, hv⟩ := hf
  obtain ⟨oc, od, oda, osl⟩ := oe
  obtain ⟨h1, h2⟩ := hz
  dsimp only at h1 h2 hv
  subst h1 h2 hv
  exact ⟨hget, rfl, rfl, trivial⟩
theorem call_isP (hp : (a, oe) ∈ X.pn) (C : ExcC X.K D) (hz : Zc (.ref D) none oe) (hf : ∃ vs, oe.data = .fields vs) :
    CallR X (.builtin "isinstance") (fun xs H Q => ∃ (c : V) (cv : Value) (b : Bool), xs = [.ref a, c] ∧ ClsV c cv ∧ PySem.W.kitOne X.K (.ref D) cv = some b ∧ Q (.bl b) H) := by
  intro pins s σ H xs us Q I r h
  obtain ⟨c, cv, b, rfl, hc, e, q⟩ := h
  obtain ⟨u1, u2, rfl, r1, r2⟩ := vals2 r
  have e2 := hc.eq r2
  subst e2
  cases r1
  exact PySem.W.kia_one (PySem.W.handS_kitx_exc C.hg C.hk C.hs C.hd C.ha C.hn C.ht C.hm) I.kIn (pinned_at I hp hz hf) e (fun z => nomatch z)
    fun tk => ⟨.bl b, H, I.tok tk, rfl, q⟩
theorem call_isPT (hp : (a, oe) ∈ X.pn) (C : ExcC X.K D) (hz : Zc (.ref D) none oe) (hf : ∃ vs, oe.data = .fields vs) :
    CallR X (.builtin "isinstance") (fun xs H Q => ∃ (tp : Addr) (cs : List V) (us : List Value) (b : Bool), xs = [.ref a, .ref tp] ∧ H tp = some (.tup cs) ∧ Paired ClsV cs us ∧
      PySem.W.kitAny X.K (.ref D) us = some b ∧ Q (.bl b) H) := by
  intro pins s σ H xs us Q I r h
  obtain ⟨tp, cs, ws, b, rfl, hT, k, e, q⟩ := h
  obtain ⟨u1, u2, rfl, r1, r2⟩ := vals2 r
  cases r1
  cases (show u2 = Value.ref tp from r2)
  obtain ⟨_, its, rv, o, h1, h2, n, h3⟩ := (show ObjOk X.prog X.w H s.heap tp (.tup cs) from I.hok tp _ hT)
  have e3 := ClsV.all k rv
  subst e3
  obtain ⟨oc, od, dt, sl⟩ := o
  simp only at h2 h3
  subst h2 h3
  exact PySem.W.kia_tup (PySem.W.handS_kitx_exc C.hg C.hk C.hs C.hd C.ha C.hn C.ht C.hm) I.kIn (pinned_at I hp hz hf) h1 e (fun z => nomatch z)
    fun tk => ⟨.bl b, H, I.tok tk, rfl, q⟩
end
end LT

set_option Elab.async false
set_option linter.all false
set_option maxRecDepth 100000
/-! Own layer: ==, != of instances of a class with its own __eq__; repr, str of such; a method called by keywords. -/
namespace LT
open PySem PySem.Spec PyProof.Rows L2
section
variable {M : Model} {A : Around} {E : Value → Shared → Prop} {s : Shared} {Q : Value → Shared → Prop} {K : PySem.W.Frag} {y C dy : Addr}
open AutoSeq1 (wpAny_loadPart')
theorem int_dec (b : Int) (u : Tok) (y C dy : Addr) :
    Meets (Builtin.«int.__eq__» ⟨[.int b u, .ref y], []⟩) (fun _ R s => s.heap.get? y = some (PySem.W.instObj C dy) ∧ R (.ok (.ret .notImplemented)) s) :=
  .of_wp fun prog w A R s h => by
    obtain ⟨hp, g, d, tk, os⟩ := s
    obtain ⟨hl, h⟩ := h
    wp_walk using wpAny_loadPart' hl, wpAny_load hl
    exact ⟨_, rfl, h⟩
theorem bool_dec (b : Bool) (y C dy : Addr) :
    Meets (Builtin.«int.__eq__» ⟨[.bool b, .ref y], []⟩) (fun _ R s => s.heap.get? y = some (PySem.W.instObj C dy) ∧ R (.ok (.ret .notImplemented)) s) :=
  .of_wp fun prog w A R s h => by
    obtain ⟨hp, g, d, tk, os⟩ := s
    obtain ⟨hl, h⟩ := h
    wp_walk using wpAny_loadPart' hl, wpAny_load hl
    exact ⟨_, rfl, h⟩
theorem str_dec (b : Str) (u : Tok) (y C dy : Addr) :
    Meets (Builtin.«str.__eq__» ⟨[.str b u, .ref y], []⟩) (fun _ R s => s.heap.get? y = some (PySem.W.instObj C dy) ∧ R (.ok (.ret .notImplemented)) s) :=
  .of_wp fun prog w A R s h => by
    obtain ⟨hp, g, d, tk, os⟩ := s
    obtain ⟨hl, h⟩ := h
    wp_walk using wpAny_loadPart' hl, wpAny_load hl
    exact ⟨_, rfl, h⟩
theorem list_dec {K : PySem.W.Frag} (l y C dy : Addr) (hsub : PySem.W.subIn K (.ref C) (.type "list") = some false) :
    Meets (Builtin.«list.__eq__» ⟨[.ref l, .ref y], []⟩) (fun _ R s => K.In s.heap ∧ s.heap.get? y = some (PySem.W.instObj C dy) ∧ (∃ o, s.heap.get? l = some o ∧ o.cls = .type "list") ∧ R (.ok (.ret .notImplemented)) s) :=
  .of_wp fun prog w A R s h => by
    obtain ⟨hp, g, d, tk, os⟩ := s
    obtain ⟨X, hl, ⟨o, ho, hc⟩, h⟩ := h
    have f1 := PySem.W.looks_subIn (M := model prog w) X hsub
    have f2 : ∀ {A' : Around} {Q' : Bool → Shared → Prop} {E' : Value → Shared → Prop}, Q' false ⟨hp, g, d, tk, os⟩ →
        wpAny (model prog w) A' (isInstance (.ref y) (.type "list")) Q' E' ⟨hp, g, d, tk, os⟩ := fun {A' Q' E'} q =>
      wpAny_bind (wpAny_typeOf_ref hl (f1.here q))
    wp_walk using f2
    exact ⟨_, rfl, h⟩
theorem tuple_dec {K : PySem.W.Frag} (l y C dy : Addr) (hsub : PySem.W.subIn K (.ref C) (.type "tuple") = some false) :
    Meets (Builtin.«tuple.__eq__» ⟨[.ref l, .ref y], []⟩) (fun _ R s => K.In s.heap ∧ s.heap.get? y = some (PySem.W.instObj C dy) ∧ (∃ o, s.heap.get? l = some o ∧ o.cls = .type "tuple") ∧ R (.ok (.ret .notImplemented)) s) :=
  .of_wp fun prog w A R s h => by
    obtain ⟨hp, g, d, tk, os⟩ := s
    obtain ⟨X, hl, ⟨o, ho, hc⟩, h⟩ := h
    have f1 := PySem.W.looks_subIn (M := model prog w) X hsub
    have f2 : ∀ {A' : Around} {Q' : Bool → Shared → Prop} {E' : Value → Shared → Prop}, Q' false ⟨hp, g, d, tk, os⟩ →
        wpAny (model prog w) A' (isInstance (.ref y) (.type "tuple")) Q' E' ⟨hp, g, d, tk, os⟩ := fun {A' Q' E'} q =>
      wpAny_bind (wpAny_typeOf_ref hl (f1.here q))
    wp_walk using f2
    exact ⟨_, rfl, h⟩
end
section
variable {prog : Program} {w : World} {A : Around} {E : Value → Shared → Prop} {s : Shared} {Q : Value → Shared → Prop} {K : PySem.W.Frag}
  {y C f : Addr} {oy : Obj} {od : Option Obj} {a : Value} {T id : String}
/-- a thing of a built-in type on the left, which declines; the own __eq__ of the right one is asked -/
theorem rc_eq_refl (X : K.In s.heap) (I : PySem.W.InstAt s.heap y oy C od) (ha : s.TypeIs a T) (hsub : PySem.W.subIn K (.ref C) (.type T) = some false)
    (h1 : Slot T "__eq__" id) (hc1 : ∀ Q' : Value → Shared → Prop, Q' .notImplemented s → wpAny (model prog w) A (call (.builtin id) [a, .ref y]) Q' E s)
    (hs : PySem.W.findIn K (.ref C) "__eq__" = some (some (.ref f))) (hf : PySem.W.isFn K (.ref f) = true) (hu : A.units < cLine)
    (h : wpAny (model prog w) A (call (.ref f) [.ref y, a]) (PySem.W.CmpBack Q) E s) :
    wpAny (model prog w) A (richCompare .Eq a (.ref y)) Q E s := by
  have two : wpAny (model prog w) A (tryCompare (.ref y) "__eq__" a) (fun r s' => ∃ v, r = some v ∧ Q v s') E s := by
    unfold tryCompare
    refine wpAny_bind (PySem.W.ifBound_K X I hs hf (wpAny_mono h (fun v s' hv => ?_) fun _ _ e => e))
    cases v <;> first | exact hv.elim | exact wpAny_pure ⟨_, rfl, hv⟩
  simp only [richCompare, ha.oneThing_none, cmpInfo]
  refine wpAny_holding (wpAny_bind (wpAny_cRoomFor hu ?_))
  refine wpAny_bind (wpAny_typeOf ha (wpAny_bind (I.type.here ?_)))
  rw [if_pos (show (Value.type T != Value.ref C) = true by simp)]
  refine wpAny_bind ((PySem.W.looks_subIn X hsub).here ?_)
  simp only [Bool.false_eq_true, if_false, Bool.not_false, if_true]
  refine wpAny_bind (m := tryCompare a _ (.ref y)) (wpAny_tryCompare_declines ha h1 (hc1 _ ⟨rfl, ?_⟩))
  refine wpAny_bind (m := tryCompare (.ref y) _ a) (wpAny_mono two (fun r s' z => ?_) fun _ _ e => e)
  obtain ⟨v, rfl, hq⟩ := z
  exact wpAny_pure hq
end

/-! ### == by an own __eq__ -/
/-- what the class says of its __eq__ -/
structure EqC (K : PySem.W.Frag) (C f : Addr) : Prop where
  eq : PySem.W.findIn K (.ref C) "__eq__" = some (some (.ref f))
  fn : PySem.W.isFn K (.ref f) = true
  ne : PySem.W.findIn K (.ref C) "__ne__" = some (some (.builtin "object.__ne__"))
  ob : PySem.W.mroIn K C (.type "object") = some true
  sN : PySem.W.subIn K (.ref C) (.type "NoneType") = some false
  sB : PySem.W.subIn K (.ref C) (.type "bool") = some false
  sI : PySem.W.subIn K (.ref C) (.type "int") = some false
  sS : PySem.W.subIn K (.ref C) (.type "str") = some false
  sL : PySem.W.subIn K (.ref C) (.type "list") = some false
  sT : PySem.W.subIn K (.ref C) (.type "tuple") = some false
/-- a thing beside an instance of C -/
inductive Beside (K : PySem.W.Frag) (C : Addr) (H : Hp) : V → Prop
  | non : Beside K C H .non
  | bl (b : Bool) : Beside K C H (.bl b)
  | int (i : Int) : Beside K C H (.int i)
  | str (z : Str) : Beside K C H (.str z)
  | lst {a : Addr} {xs : List V} : H a = some (.lst xs) → Beside K C H (.ref a)
  | tup {a : Addr} {xs : List V} : H a = some (.tup xs) → Beside K C H (.ref a)
  | ins {a dx : Addr} {fs : List (Str × V)} : H a = some (.ins C dx fs) → Beside K C H (.ref a)
section
variable {X : Cx} {C f : Addr} {fd : FuncData} {ps : List Str} {sp : Sp} {n : Nat}
theorem run_eq {A : Around} {pins : List (Addr × Obj)} {σ : L2.St} {H : Hp} {s : Shared} {Q : VK} {v : V} {u : Value} {a : Addr}
    (F : FnOk X.prog X.w X.K X.mg X.base CX0 n f fd ps sp) (sb : L2.Sub X n A) (hb : L2.Binds X.K fd ps []) (I : Inv X pins σ H s) (r : RelV v u)
    (h : sp [.ref a, v] H (fun z H' => ∃ b, z = .bl b ∧ Q z H') E0) :
    wpAny (model X.prog X.w) A (call (.ref f) [.ref a, u]) (fun z s' => ∃ b H', z = .bool b ∧ Inv X pins σ H' s' ∧ Q (.bl b) H') X.xe s := by
  have e0 : Env0 X.prog X.w X.K X.mg X.base A X.stack s H := by
    have e := I.env0
    exact ⟨by rw [sb.fr]; exact e.frames, e.mod, e.bs, e.bsz, e.funs, e.frf, e.hok, e.bare⟩
  have r2 : Vals [V.ref a, v] [Value.ref a, u] := .cons rfl (.cons r .nil)
  have hl := F.len _ _ _ _ h
  have b := hb s [.ref a, u] I.kIn (by simpa using hl)
  rw [List.append_nil] at b
  refine wpAny_call (codeAny_mono (F.run A X.stack s H ⟨[.ref a, u], []⟩ [.ref a, u] [.ref a, v] _ E0 sb.room e0 b r2 h) fun r s' hq => ?_)
  match r, hq with
  | .error _, hq => exact hq.elim
  | .ok .next, hq => exact hq.elim
  | .ok .brk, hq => exact hq.elim
  | .ok .cont, hq => exact hq.elim
  | .ok (.ret z), hq =>
    obtain ⟨z', H', I', rz, b, rfl, q⟩ := I.after hq
    cases rz
    exact ⟨b, H', rfl, I', q⟩
theorem rc_own (EC : EqC X.K C f) {A : Around} {pins : List (Addr × Obj)} {σ : L2.St} {H : Hp} {s : Shared} {Q : VK} {v : V} {u : Value} {a dx : Addr} {fs : List (Str × V)}
    (F : FnOk X.prog X.w X.K X.mg X.base CX0 n f fd ps sp) (sb : L2.Sub X n A) (hb : L2.Binds X.K fd ps []) (I : Inv X pins σ H s) (r : RelV v u)
    (ha : H a = some (.ins C dx fs)) (hv : Beside X.K C H v) (h : sp [.ref a, v] H (fun z H' => ∃ b, z = .bl b ∧ Q z H') E0) :
    wpAny (model X.prog X.w) A (richCompare .Eq (.ref a) u) (fun z s' => ∃ b H', z = .bool b ∧ Inv X pins σ H' s' ∧ Q (.bl b) H') X.xe s := by
  obtain ⟨mA, J, _⟩ := ins_get I.hok ha
  obtain ⟨od, J, _⟩ := J.look
  obtain ⟨m, hF⟩ := I.fr
  have nt : ∀ T : String, (PySem.W.subIn X.K (.type T) (.ref C) == some false) = true → PySem.W.notFirst X.K C (.type T) = true := fun T e => by
    unfold PySem.W.notFirst
    rw [e, Bool.or_true]
  have tyv : ∃ t, PySem.W.Looks (model X.prog X.w) s.heap (typeOf u) t ∧ PySem.W.notFirst X.K C t = true := by
    cases hv with
    | non => obtain ⟨P, Z, p, _⟩ := kit_of I r (.base .non); exact ⟨_, Z.ty _ _ I.kIn p, nt _ (by rfl)⟩
    | bl b => obtain ⟨P, Z, p, _⟩ := kit_of I r (.base (.bl b)); exact ⟨_, Z.ty _ _ I.kIn p, nt _ (by rfl)⟩
    | int i => obtain ⟨P, Z, p, _⟩ := kit_of I r (.base (.int i)); exact ⟨_, Z.ty _ _ I.kIn p, nt _ (by rfl)⟩
    | str z => obtain ⟨P, Z, p, _⟩ := kit_of I r (.base (.str z)); exact ⟨_, Z.ty _ _ I.kIn p, nt _ (by rfl)⟩
    | lst e => obtain ⟨P, Z, p, _⟩ := kit_of I r (.base (.lst e)); exact ⟨_, Z.ty _ _ I.kIn p, nt _ (by rfl)⟩
    | tup e => obtain ⟨P, Z, p, _⟩ := kit_of I r (.base (.tup e)); exact ⟨_, Z.ty _ _ I.kIn p, nt _ (by rfl)⟩
    | ins e =>
      cases r
      obtain ⟨mB, J', _⟩ := ins_get I.hok e
      obtain ⟨od', J', _⟩ := J'.look
      exact ⟨_, J'.type, by simp [PySem.W.notFirst]⟩
  obtain ⟨t, ht, hn⟩ := tyv
  refine PySem.W.cmp_K (op := .Eq) sb.room.units0 hF I.ok.mod.kin J ht hn EC.eq EC.fn (wpAny_mono (run_eq F sb hb I r h) (fun z s' hz => ?_) fun _ _ x => x)
  obtain ⟨b, H', rfl, I', q⟩ := hz
  exact ⟨b, H', rfl, I', q⟩
/-- the other way about -/
theorem rc_own_refl (EC : EqC X.K C f) {A : Around} {pins : List (Addr × Obj)} {σ : L2.St} {H : Hp} {s : Shared} {Q : VK} {v : V} {u : Value} {a dx : Addr} {fs : List (Str × V)}
    (F : FnOk X.prog X.w X.K X.mg X.base CX0 n f fd ps sp) (sb : L2.Sub X n A) (hb : L2.Binds X.K fd ps []) (I : Inv X pins σ H s) (r : RelV v u)
    (ha : H a = some (.ins C dx fs)) (hv : Beside X.K C H v) (hni : ∀ b dy gs, v = .ref b → H b ≠ some (.ins C dy gs)) (h : sp [.ref a, v] H (fun z H' => ∃ b, z = .bl b ∧ Q z H') E0) :
    wpAny (model X.prog X.w) A (richCompare .Eq u (.ref a)) (fun z s' => ∃ b H', z = .bool b ∧ Inv X pins σ H' s' ∧ Q (.bl b) H') X.xe s := by
  obtain ⟨mA, J, _⟩ := ins_get I.hok ha
  have hob := J.obj
  obtain ⟨od, J, _⟩ := J.look
  have fin := wpAny_mono (run_eq (A := A) F sb hb I r h) (Q' := PySem.W.CmpBack fun z s' => ∃ b H', z = .bool b ∧ Inv X pins σ H' s' ∧ Q (.bl b) H') (fun z s' hz => by
    obtain ⟨b, H', rfl, I', q⟩ := hz
    exact ⟨b, H', rfl, I', q⟩) fun _ _ x => x
  cases hv with
  | non =>
    cases r
    exact rc_eq_refl I.kIn J rfl EC.sN PySem.F.slot_NoneType_eq (fun Q' q => call_gives PySem.F.slot_NoneType_eq rfl PySem.F.entry_NoneType_eq (PySem.F.args_NoneType_eq_2 _ _) (SeqAt.NoneType___eq___none_ref_0 _) q) EC.eq EC.fn sb.room.units0 fin
  | bl b =>
    cases r
    exact rc_eq_refl I.kIn J rfl EC.sB PySem.F.slot_bool_eq (fun Q' q => call_meets PySem.F.slot_bool_eq rfl PySem.F.entry_int_eq (PySem.F.args_int_eq_2 _ _) (bool_dec b a C dx) ⟨hob, q⟩) EC.eq EC.fn sb.room.units0 fin
  | int i =>
    obtain ⟨t, rfl⟩ := r
    exact rc_eq_refl I.kIn J (typeIs_int _ _ _) EC.sI PySem.F.slot_int_eq (fun Q' q => call_meets PySem.F.slot_int_eq (typeIs_int _ _ _) PySem.F.entry_int_eq (PySem.F.args_int_eq_2 _ _) (int_dec i t a C dx) ⟨hob, q⟩) EC.eq EC.fn sb.room.units0 fin
  | str z =>
    obtain ⟨t, rfl⟩ := r
    exact rc_eq_refl I.kIn J (typeIs_str _ _ _) EC.sS PySem.F.slot_str_eq (fun Q' q => call_meets PySem.F.slot_str_eq (typeIs_str _ _ _) PySem.F.entry_str_eq (PySem.F.args_str_eq_2 _ _) (str_dec z t a C dx) ⟨hob, q⟩) EC.eq EC.fn sb.room.units0 fin
  | @lst l xs e =>
    cases r
    obtain ⟨_, its, k, _, h1⟩ := (show ObjOk X.prog X.w H s.heap l (.lst xs) from I.hok l _ e)
    exact rc_eq_refl I.kIn J ⟨_, h1, rfl⟩ EC.sL PySem.F.slot_list_eq (fun Q' q => call_meets PySem.F.slot_list_eq ⟨_, h1, rfl⟩ PySem.F.entry_list_eq (PySem.F.args_list_eq_2 _ _) (list_dec l a C dx EC.sL) ⟨I.kIn, hob, ⟨_, h1, rfl⟩, q⟩) EC.eq EC.fn sb.room.units0 fin
  | @tup l xs e =>
    cases r
    obtain ⟨_, its, _, o, h1, h2, _⟩ := (show ObjOk X.prog X.w H s.heap l (.tup xs) from I.hok l _ e)
    exact rc_eq_refl I.kIn J ⟨_, h1, h2⟩ EC.sT PySem.F.slot_tuple_eq (fun Q' q => call_meets PySem.F.slot_tuple_eq ⟨_, h1, h2⟩ PySem.F.entry_tuple_eq (PySem.F.args_tuple_eq_2 _ _) (tuple_dec l a C dx EC.sT) ⟨I.kIn, hob, ⟨_, h1, h2⟩, q⟩) EC.eq EC.fn sb.room.units0 fin
  | ins e => exact absurd e (hni _ _ _ rfl)
/-- x == y, one of them an instance of C -/
def rOwn (K : PySem.W.Frag) (C : Addr) (sp : Sp) : R2 := fun x y H Q =>
  (∃ a dx fs, x = .ref a ∧ H a = some (.ins C dx fs) ∧ Beside K C H y ∧ sp [x, y] H (fun z H' => ∃ b, z = .bl b ∧ Q z H') E0) ∨
  (∃ a dx fs, y = .ref a ∧ H a = some (.ins C dx fs) ∧ Beside K C H x ∧ (∀ b dy gs, x = .ref b → H b ≠ some (.ins C dy gs)) ∧ sp [y, x] H (fun z H' => ∃ b, z = .bl b ∧ Q z H') E0)
theorem op_own (EC : EqC X.K C f) (F : FnOk X.prog X.w X.K X.mg X.base CX0 n f fd ps sp) (hr : Room n X.A) (hb : L2.Binds X.K fd ps []) :
    OpR X (compareOp .Eq) (rOwn X.K C sp) := by
  intro pins s σ H x y v u Q I rx ry h
  rcases h with ⟨a, dx, fs, rfl, ha, hv, h⟩ | ⟨a, dx, fs, rfl, ha, hv, hni, h⟩
  · cases rx
    refine wpAny_mono (rc_own EC F ⟨hr, rfl⟩ hb I ry ha hv h) (fun z s' hz => ?_) fun _ _ x => x
    obtain ⟨b, H', rfl, I', q⟩ := hz
    exact ⟨.bl b, H', I', rfl, q⟩
  · cases ry
    refine wpAny_mono (rc_own_refl EC F ⟨hr, rfl⟩ hb I rx ha hv hni h) (fun z s' hz => ?_) fun _ _ x => x
    obtain ⟨b, H', rfl, I', q⟩ := hz
    exact ⟨.bl b, H', I', rfl, q⟩
/-- == within a list: the same object is equal to itself -/
theorem eqb_own (EC : EqC X.K C f) {A : Around} {pins : List (Addr × Obj)} {σ : L2.St} {H : Hp} {s : Shared} {Q : VK} {a b dx dy : Addr} {fs gs : List (Str × V)}
    (F : FnOk X.prog X.w X.K X.mg X.base CX0 n f fd ps sp) (sb : L2.Sub X n A) (hb : L2.Binds X.K fd ps []) (I : Inv X pins σ H s)
    (ha : H a = some (.ins C dx fs)) (hb' : H b = some (.ins C dy gs)) (hs : a = b → Q (.bl true) H) (h : a ≠ b → sp [.ref a, .ref b] H (fun z H' => ∃ b, z = .bl b ∧ Q z H') E0) :
    wpAny (model X.prog X.w) A (eqBool (.ref a) (.ref b)) (fun r s' => ∃ H', Inv X pins σ H' s' ∧ Q (.bl r) H') X.xe s := by
  by_cases e : a = b
  · subst e
    exact SeqAt.EqAt.same (A := A) (s := s) (.ref a) X.prog X.w X.xe _ ⟨H, I, hs rfl⟩
  · refine GQ.eqBool_refG e (wpAny_mono (rc_own (v := .ref b) EC F sb hb I rfl ha (.ins hb') (h e)) (fun z s' hz => ?_) fun _ _ x => x)
    obtain ⟨r, H', rfl, I', q⟩ := hz
    exact ⟨r, rfl, H', I', q⟩
end
/-! ### x in [y], [y] == [x] -/
section
variable {prog : Program} {w : World} {A : Around} {E : Value → Shared → Prop} {s : Shared}
open AutoSeq1 (wpAny_loadPart')
open MeetsSeq MeetsSeq3
def OneAt (l : Addr) (y : Value) (s : Shared) : Prop := ∃ (items : Array Value) (n : Nat), s.heap.get? l = some { cls := .type "list", data := .seq items n } ∧ items.size = 1 ∧ items[0]? = some y
theorem loop_none {R : Result → Shared → Prop} {l : Addr} {x y : Value} (hl : OneAt l y s) (h : R (.ok (.ret (.bool false))) s) (i : Nat) (h1 : i = 1) :
    wpAny (model prog w) A.in1 (Builtin.«list.__contains__.loop» ⟨[.ref l, x, rawInt i], []⟩) (GQ.FinOf prog w A R) (fun e s' => R (.error e) s') s := by
  obtain ⟨items, n, hl, hz, _⟩ := hl
  obtain ⟨hp, g, d, tk, os⟩ := s
  wp_walk using wpAny_loadPart' hl
  have hi : items[((i : Nat) : Int).toNat]? = none := by simp; omega
  rw [hi]
  wp_walk
  exact h
theorem loop_one {R : Result → Shared → Prop} {l : Addr} {x y : Value} (hl : OneAt l y s)
    (h : wpAny (model prog w) A.in1 (eqBool y x) (fun r s' => OneAt l y s' ∧ R (.ok (.ret (.bool r))) s') (fun e s' => R (.error e) s') s) (i : Nat) (h0 : i = 0) :
    wpAny (model prog w) A.in1 (Builtin.«list.__contains__.loop» ⟨[.ref l, x, rawInt i], []⟩) (GQ.FinOf prog w A R) (fun e s' => R (.error e) s') s := by
  obtain ⟨items, n, hl, hz, hy⟩ := hl
  obtain ⟨hp, g, d, tk, os⟩ := s
  wp_walk using wpAny_loadPart' hl
  have hi : items[((i : Nat) : Int).toNat]? = some y := by
    rw [h0]
    exact hy
  rw [hi]
  refine wpAny_bind (wpAny_mono h (fun r s2 hr => ?_) fun _ _ x => x)
  obtain ⟨h1, h2⟩ := hr
  cases r with
  | true =>
    obtain ⟨hp2, g2, d2, tk2, os2⟩ := s2
    wp_walk
    exact h2
  | false =>
    have last := loop_none (prog := prog) (w := w) (A := A) (x := x) h1 h2 (i + 1) (by omega)
    have hc : ((i : Int) + 1) = ((i + 1 : Nat) : Int) := by omega
    obtain ⟨hp2, g2, d2, tk2, os2⟩ := s2
    wp_walk
    rw [hc]
    exact ⟨plainId_quiet plain_contains_loop _, codeAny_builtin entry_contains_loop (by
      rw [Around.under_plainId plain_contains_loop _]
      exact last)⟩
theorem in_one {Q : Value → Shared → Prop} {l : Addr} {x y : Value} (hl : OneAt l y s)
    (h : wpAny (model prog w) A.in1 (eqBool y x) (fun r s' => OneAt l y s' ∧ Q (.bool r) s') E s) : wpAny (model prog w) A (compareOp .In x (.ref l)) Q E s := by
  obtain ⟨items, n, ho, _, _⟩ := id hl
  show wpAny _ A (do return .bool (← contains (.ref l) x)) Q E s
  refine wpAny_bind (wpAny_contains_slot ⟨_, ho, rfl⟩ PySem.F.slot_list_contains (GQ.call_here PySem.F.slot_list_contains ⟨_, ho, rfl⟩ PySem.F.entry_list_contains (PySem.F.args_list_contains_2 _ _) ?_))
  have first := loop_one (prog := prog) (w := w) (A := A) (R := wants (fun r s' => wpAny (model prog w) A (truthy r) (fun a s' => wpAny (model prog w) A (pure (Value.bool a)) Q E s') E s') E) hl
    (wpAny_mono h (fun r s' hr => ⟨hr.1, wpAny_truthy_bool (wpAny_pure hr.2)⟩) fun _ _ x => x) 0 rfl
  obtain ⟨hp, g, d, tk, os⟩ := s
  wp_walk using wpAny_loadPart' ho
  exact ⟨plainId_quiet plain_contains_loop _, codeAny_builtin entry_contains_loop (by
    rw [Around.under_plainId plain_contains_loop _]
    exact first)⟩
theorem eqloop_end {R : Result → Shared → Prop} {l b : Addr} {x y : Value} (hl : OneAt l y s) (hb : OneAt b x s) (h : R (.ok (.ret (.bool true))) s) (i : Nat) (h1 : i = 1) :
    wpAny (model prog w) A.in1 (Builtin.«list.__eq__.loop» ⟨[.ref l, .ref b, rawInt i, rawInt 2], []⟩) (GQ.FinOf prog w A R) (fun e s' => R (.error e) s') s := by
  obtain ⟨items, n, hl, hz, _⟩ := hl
  obtain ⟨items2, n2, hb, hz2, _⟩ := hb
  obtain ⟨hp, g, d, tk, os⟩ := s
  wp_walk using wpAny_loadPart' hl, wpAny_loadPart' hb
  have hi1 : items[((i : Nat) : Int).toNat]? = none := by simp; omega
  have hi2 : items2[((i : Nat) : Int).toNat]? = none := by simp; omega
  rw [hi1, hi2]
  wp_walk using wpAny_loadPart' hl, wpAny_loadPart' hb
  show R (.ok (.ret (.bool (items.size == items2.size)))) _
  rw [hz, hz2]
  exact h
theorem eqloop_one {R : Result → Shared → Prop} {l b : Addr} {x y : Value} (hl : OneAt l y s) (hb : OneAt b x s)
    (h : wpAny (model prog w) A.in1 (eqBool y x) (fun r s' => OneAt l y s' ∧ OneAt b x s' ∧ R (.ok (.ret (.bool r))) s') (fun e s' => R (.error e) s') s) (i : Nat) (h0 : i = 0) :
    wpAny (model prog w) A.in1 (Builtin.«list.__eq__.loop» ⟨[.ref l, .ref b, rawInt i, rawInt 2], []⟩) (GQ.FinOf prog w A R) (fun e s' => R (.error e) s') s := by
  obtain ⟨items, n, hl, hz, hy⟩ := hl
  obtain ⟨items2, n2, hb, hz2, hy2⟩ := hb
  obtain ⟨hp, g, d, tk, os⟩ := s
  wp_walk using wpAny_loadPart' hl, wpAny_loadPart' hb
  have hi1 : items[((i : Nat) : Int).toNat]? = some y := by
    rw [h0]
    exact hy
  have hi2 : items2[((i : Nat) : Int).toNat]? = some x := by
    rw [h0]
    exact hy2
  rw [hi1, hi2]
  refine wpAny_bind (wpAny_mono h (fun r s2 hr => ?_) fun _ _ x => x)
  obtain ⟨h1, h2, h3⟩ := hr
  cases r with
  | true =>
    have last := eqloop_end (prog := prog) (w := w) (A := A) h1 h2 h3 (i + 1) (by omega)
    have hc : ((i : Int) + 1) = ((i + 1 : Nat) : Int) := by omega
    obtain ⟨hp2, g2, d2, tk2, os2⟩ := s2
    wp_walk
    rw [hc]
    exact ⟨plainId_quiet plain_eq_loop _, codeAny_builtin entry_eq_loop (by
      rw [Around.under_plainId plain_eq_loop _]
      exact last)⟩
  | false =>
    obtain ⟨items3, n3, hl3, hz3, hy3⟩ := h1
    obtain ⟨items4, n4, hb4, hz4, hy4⟩ := h2
    obtain ⟨hp2, g2, d2, tk2, os2⟩ := s2
    wp_walk using wpAny_loadPart' hl3, wpAny_loadPart' hb4
    have hi3 : items3[((i : Nat) : Int).toNat]? = some y := by
      rw [h0]
      exact hy3
    have hi4 : items4[((i : Nat) : Int).toNat]? = some x := by
      rw [h0]
      exact hy4
    rw [hi3, hi4]
    wp_walk
    exact h3
/-- two lists of one thing each -/
theorem eq_one {Q : Value → Shared → Prop} {l b : Addr} {x y : Value} (hu : A.units < cLine) (hl : OneAt l y s) (hb : OneAt b x s)
    (h : wpAny (model prog w) A.in1 (eqBool y x) (fun r s' => OneAt l y s' ∧ OneAt b x s' ∧ Q (.bool r) s') E s) : wpAny (model prog w) A (richCompare .Eq (.ref l) (.ref b)) Q E s := by
  obtain ⟨items, n, ho, hz, hy⟩ := id hl
  obtain ⟨items2, n2, ho2, hz2, hy2⟩ := id hb
  refine wpAny_richCompare_same_room (op := .Eq) ⟨_, ho, rfl⟩ ⟨_, ho2, rfl⟩ PySem.F.slot_list_eq (GQ.call_here PySem.F.slot_list_eq ⟨_, ho, rfl⟩ PySem.F.entry_list_eq (PySem.F.args_list_eq_2 _ _) ?_) hu
  have first := eqloop_one (prog := prog) (w := w) (A := A) (R := wants (fun v s' => v ≠ .notImplemented ∧ Q v s') E) hl hb
    (wpAny_mono h (fun r s' hr => ⟨hr.1, hr.2.1, (fun z => nomatch z), hr.2.2⟩) fun _ _ x => x) 0 rfl
  have f3 := AutoSeq1.sub_list_list
  have hne : ¬ (items.size != items2.size) = true := by simp [hz, hz2]
  obtain ⟨hp, g, d, tk, os⟩ := s
  wp_walk using wpAny_loadPart' ho, wpAny_loadPart' ho2
  exact ⟨plainId_quiet plain_eq_loop _, codeAny_builtin entry_eq_loop (by
    rw [Around.under_plainId plain_eq_loop _]
    exact first)⟩
end
/-! ### the same over the layer -/
section
variable {X : Cx} {C f : Addr} {fd : FuncData} {ps : List Str} {sp : Sp} {n : Nat}
theorem one_at {pins : List (Addr × Obj)} {σ : L2.St} {H : Hp} {s : Shared} {l a : Addr} (I : Inv X pins σ H s) (h : H l = some (.lst [.ref a])) : OneAt l (.ref a) s := by
  obtain ⟨_, its, k, rv, h1⟩ := (show ObjOk X.prog X.w H s.heap l (.lst [.ref a]) from I.hok l _ h)
  cases rv with
  | cons r1 r2 =>
    cases r2
    cases r1
    exact ⟨_, _, h1, rfl, rfl⟩
/-- x in [y] -/
theorem op_in_one (EC : EqC X.K C f) (F : FnOk X.prog X.w X.K X.mg X.base CX0 n f fd ps sp) (hr : Room (n + 1) X.A) (hb : L2.Binds X.K fd ps []) :
    OpR X (compareOp .In) (fun x y H Q => ∃ (l a b dx dy : Addr) (fs gs : List (Str × V)), x = .ref a ∧ y = .ref l ∧ H l = some (.lst [.ref b]) ∧ H a = some (.ins C dx fs) ∧ H b = some (.ins C dy gs) ∧
      (b = a → Q (.bl true) H) ∧ (b ≠ a → sp [.ref b, .ref a] H (fun z H' => ∃ r, z = .bl r ∧ H' l = some (.lst [.ref b]) ∧ Q z H') E0)) := by
  intro pins s σ H x y v u Q I rx ry h
  obtain ⟨l, a, b, dx, dy, fs, gs, rfl, rfl, hl, ha, hb', h1, h2⟩ := h
  cases rx
  cases ry
  refine in_one (one_at I hl) (wpAny_mono (eqb_own (Q := fun z H' => H' l = some (.lst [.ref b]) ∧ Q z H') EC F ⟨hr.in1, rfl⟩ hb I hb' ha (fun e => ⟨hl, h1 e⟩) h2) (fun r s' hz => ?_) fun _ _ x => x)
  obtain ⟨H', I', q1, q2⟩ := hz
  exact ⟨one_at I' q1, .bl r, H', I', rfl, q2⟩
/-- [x] == [y] -/
theorem op_eq_one (EC : EqC X.K C f) (F : FnOk X.prog X.w X.K X.mg X.base CX0 n f fd ps sp) (hr : Room (n + 1) X.A) (hb : L2.Binds X.K fd ps []) :
    OpR X (compareOp .Eq) (fun x y H Q => ∃ (l k a b dx dy : Addr) (fs gs : List (Str × V)), x = .ref l ∧ y = .ref k ∧ H l = some (.lst [.ref b]) ∧ H k = some (.lst [.ref a]) ∧ H a = some (.ins C dx fs) ∧ H b = some (.ins C dy gs) ∧
      (b = a → Q (.bl true) H) ∧ (b ≠ a → sp [.ref b, .ref a] H (fun z H' => ∃ r, z = .bl r ∧ H' l = some (.lst [.ref b]) ∧ H' k = some (.lst [.ref a]) ∧ Q z H') E0)) := by
  intro pins s σ H x y v u Q I rx ry h
  obtain ⟨l, k, a, b, dx, dy, fs, gs, rfl, rfl, hl, hk, ha, hb', h1, h2⟩ := h
  cases rx
  cases ry
  refine eq_one hr.units0 (one_at I hl) (one_at I hk) (wpAny_mono (eqb_own (Q := fun z H' => H' l = some (.lst [.ref b]) ∧ H' k = some (.lst [.ref a]) ∧ Q z H') EC F ⟨hr.in1, rfl⟩ hb I hb' ha (fun e => ⟨hl, hk, h1 e⟩) h2) (fun r s' hz => ?_) fun _ _ x => x)
  obtain ⟨H', I', q1, q2, q3⟩ := hz
  exact ⟨one_at I' q1, one_at I' q2, .bl r, H', I', rfl, q3⟩
end
/-! ### the same, the answer told ahead, the heap as it was -/
section
variable {X : Cx} {C f : Addr} {fd : FuncData} {ps : List Str} {sp : Sp} {n : Nat}
theorem op_in_r (EC : EqC X.K C f) (F : FnOk X.prog X.w X.K X.mg X.base CX0 n f fd ps sp) (hr : Room (n + 1) X.A) (hb : L2.Binds X.K fd ps []) :
    OpR X (compareOp .In) (fun x y H Q => ∃ (r : Bool) (l a b dx dy : Addr) (fs gs : List (Str × V)), x = .ref a ∧ y = .ref l ∧ H l = some (.lst [.ref b]) ∧ H a = some (.ins C dx fs) ∧ H b = some (.ins C dy gs) ∧
      (b = a → r = true) ∧ sp [.ref b, .ref a] H (fun z H' => ∃ k, z = .bl k ∧ z = .bl r ∧ H' = H) E0 ∧ Q (.bl r) H) := by
  intro pins s σ H x y v u Q I rx ry h
  obtain ⟨r, l, a, b, dx, dy, fs, gs, rfl, rfl, hl, ha, hb', h1, h2, q⟩ := h
  cases rx
  cases ry
  refine in_one (one_at I hl) (wpAny_mono (eqb_own (Q := fun z H' => z = .bl r ∧ H' = H) EC F ⟨hr.in1, rfl⟩ hb I hb' ha (fun e => ⟨by rw [h1 e], rfl⟩) fun _ => h2) (fun k s' hz => ?_) fun _ _ x => x)
  obtain ⟨H', I', e, rfl⟩ := hz
  cases e
  exact ⟨one_at I' hl, .bl _, _, I', rfl, q⟩
theorem op_eq_r (EC : EqC X.K C f) (F : FnOk X.prog X.w X.K X.mg X.base CX0 n f fd ps sp) (hr : Room (n + 1) X.A) (hb : L2.Binds X.K fd ps []) :
    OpR X (compareOp .Eq) (fun x y H Q => ∃ (r : Bool) (l k a b dx dy : Addr) (fs gs : List (Str × V)), x = .ref l ∧ y = .ref k ∧ H l = some (.lst [.ref b]) ∧ H k = some (.lst [.ref a]) ∧ H a = some (.ins C dx fs) ∧ H b = some (.ins C dy gs) ∧
      (b = a → r = true) ∧ sp [.ref b, .ref a] H (fun z H' => ∃ k, z = .bl k ∧ z = .bl r ∧ H' = H) E0 ∧ Q (.bl r) H) := by
  intro pins s σ H x y v u Q I rx ry h
  obtain ⟨r, l, k, a, b, dx, dy, fs, gs, rfl, rfl, hl, hk, ha, hb', h1, h2, q⟩ := h
  cases rx
  cases ry
  refine eq_one hr.units0 (one_at I hl) (one_at I hk) (wpAny_mono (eqb_own (Q := fun z H' => z = .bl r ∧ H' = H) EC F ⟨hr.in1, rfl⟩ hb I hb' ha (fun e => ⟨by rw [h1 e], rfl⟩) fun _ => h2) (fun c s' hz => ?_) fun _ _ x => x)
  obtain ⟨H', I', e, rfl⟩ := hz
  cases e
  exact ⟨one_at I' hl, one_at I' hk, .bl _, _, I', rfl, q⟩
end
/-! ### != by an own __eq__ -/
section
variable {prog : Program} {w : World} {A : Around} {E : Value → Shared → Prop} {s : Shared} {K : PySem.W.Frag} {x C f : Addr} {ox : Obj} {od : Option Obj}
theorem ifBound_B {M : Model} {name : Str} {id : String} {args : List Value} {Q : Option Value → Shared → Prop} (X : K.In s.heap) (I : PySem.W.InstAt s.heap x ox C od)
    (hs : PySem.W.findIn K (.ref C) name = some (some (.builtin id))) (hb : ∀ self, bindSpecial (.builtin id) self = pure (.builtin id, [self]))
    (h : wpAny M A (call (.builtin id) (.ref x :: args)) (fun v => Q (some v)) E s) : wpAny M A (callSpecialIfBound? (.ref x) name args) Q E s := by
  simp only [callSpecialIfBound?, bindSpecialIfBound?]
  refine wpAny_holding (wpAny_bind (wpAny_bind (wpAny_bind (I.type.here ((PySem.W.looks_findIn X hs).here ?_)))))
  refine wpAny_bind (wpAny_askSetting (wpAny_ite ?_))
  have fin : wpAny M A (call (.builtin id) ([.ref x] ++ args) >>= fun v => pure (some v)) Q E s := wpAny_bind (wpAny_mono h (fun v s' h' => wpAny_pure h') fun _ _ h' => h')
  have bd : PySem.W.Looks M s.heap (bindSpecial (.builtin id) (.ref x)) (.builtin id, [.ref x]) := PySem.W.Looks.of_pure (hb _)
  split
  · exact wpAny_bind (bd.here (wpAny_pure (by exact fin)))
  · exact wpAny_tryCatch (wpAny_bind (bd.here (wpAny_pure (by exact fin))))
theorem ne_own {Q : Value → Shared → Prop} {y : Addr} {oy : Obj} {oe : Option Obj} (hu : A.units + 1 < cLine) (EC : EqC K C f) (X : K.In s.heap) (I : PySem.W.InstAt s.heap x ox C od) (J : PySem.W.InstAt s.heap y oy C oe)
    (h : wpAny (model prog w) A.in1 (call (.ref f) [.ref x, .ref y]) (fun v s' => ∃ b, v = .bool b ∧ Q (.bool (!b)) s') E s) : wpAny (model prog w) A (richCompare .NotEq (.ref x) (.ref y)) Q E s := by
  have one : wpAny (model prog w) A (tryCompare (.ref x) "__ne__" (.ref y)) (fun r s' => ∃ v, r = some v ∧ Q v s') E s := by
    unfold tryCompare
    refine wpAny_bind (ifBound_B X I EC.ne PySem.F.slot_object_ne.bind ?_)
    refine wpAny_call (codeAny_call_builtin PySem.F.slot_object_ne.plain PySem.F.cmpEntry_ne (PySem.W.check_slot PySem.F.cmpKind_ne PySem.F.cmpSplit_ne (I.type.andThen (PySem.W.looks_mroIn X EC.ob)) (PySem.F.cmpArgs_ne _ _) ?_))
    unfold Builtin.«object.__ne__»
    refine wpAny_bind (m := slotArgs "__ne__" 1 _) (wpAny_pure ?_)
    refine wpAny_bind (m := cRoomFor _ _) (wpAny_cRoomFor (by show A.units + 1 < cLine; exact hu) ?_)
    refine wpAny_bind (m := callSpecialIfBound? (.ref x) (Str.ofString "__eq__") _) (PySem.W.ifBound_K X I EC.eq EC.fn (wpAny_mono h (fun v s' hv => ?_) fun _ _ e => e))
    obtain ⟨b, rfl, q⟩ := hv
    refine wpAny_bind (m := truthy (.bool b)) (wpAny_truthy_bool ?_)
    exact wpAny_pure (wpAny_pure ⟨_, rfl, q⟩)
  unfold richCompare
  simp only [oneThing_ref, cmpInfo]
  refine wpAny_holding (wpAny_bind (wpAny_cRoomFor (by omega) ?_))
  refine wpAny_bind (I.type.here (wpAny_bind (J.type.here ?_)))
  rw [if_neg (by simp)]
  refine wpAny_bind (wpAny_pure ?_)
  simp only [Bool.false_eq_true, if_false]
  refine wpAny_bind (m := tryCompare (.ref x) _ (.ref y)) (wpAny_mono one (fun r s' z => ?_) fun _ _ e => e)
  obtain ⟨v, rfl, hq⟩ := z
  exact wpAny_pure hq
end
section
variable {X : Cx} {C f : Addr} {fd : FuncData} {ps : List Str} {sp : Sp} {n : Nat}
theorem op_ne_own (EC : EqC X.K C f) (F : FnOk X.prog X.w X.K X.mg X.base CX0 n f fd ps sp) (hr : Room (n + 1) X.A) (hb : L2.Binds X.K fd ps []) :
    OpR X (compareOp .NotEq) (fun x y H Q => ∃ (a b dx dy : Addr) (fs gs : List (Str × V)), x = .ref a ∧ y = .ref b ∧ H a = some (.ins C dx fs) ∧ H b = some (.ins C dy gs) ∧
      sp [.ref a, .ref b] H (fun z H' => ∃ k, z = .bl k ∧ ∃ r, z = .bl r ∧ Q (.bl (!r)) H') E0) := by
  intro pins s σ H x y v u Q I rx ry h
  obtain ⟨a, b, dx, dy, fs, gs, rfl, rfl, ha, hb', h1⟩ := h
  cases rx
  cases ry
  obtain ⟨mA, J, _⟩ := ins_get I.hok ha
  obtain ⟨od, J, _⟩ := J.look
  obtain ⟨mB, J', _⟩ := ins_get I.hok hb'
  obtain ⟨od', J', _⟩ := J'.look
  refine ne_own (by have := hr.units; omega) EC I.kIn J J' (wpAny_mono (run_eq (v := .ref b) (Q := fun z H' => ∃ r, z = .bl r ∧ Q (.bl (!r)) H') F ⟨hr.in1, rfl⟩ hb I rfl h1) (fun z s' hz => ?_) fun _ _ x => x)
  · obtain ⟨r, H', rfl, I', r', e, q⟩ := hz
    cases e
    exact ⟨r, rfl, .bl (!r), H', I', rfl, q⟩
/-! ### repr, str of an instance -/
theorem run_str {A : Around} {pins : List (Addr × Obj)} {σ : L2.St} {H : Hp} {s : Shared} {Q : VK} {a : Addr}
    (F : FnOk X.prog X.w X.K X.mg X.base CX0 n f fd ps sp) (sb : L2.Sub X n A) (hb : L2.Binds X.K fd ps []) (I : Inv X pins σ H s)
    (h : sp [.ref a] H (fun z H' => ∃ t, z = .str t ∧ Q z H') E0) :
    wpAny (model X.prog X.w) A (call (.ref f) [.ref a]) (PySem.W.StrBack (EP X pins σ Q)) X.xe s := by
  have e0 : Env0 X.prog X.w X.K X.mg X.base A X.stack s H := by
    have e := I.env0
    exact ⟨by rw [sb.fr]; exact e.frames, e.mod, e.bs, e.bsz, e.funs, e.frf, e.hok, e.bare⟩
  have r2 : Vals [V.ref a] [Value.ref a] := .cons rfl .nil
  have hl := F.len _ _ _ _ h
  have b := hb s [.ref a] I.kIn (by simpa using hl)
  rw [List.append_nil] at b
  refine wpAny_call (codeAny_mono (F.run A X.stack s H ⟨[.ref a], []⟩ [.ref a] [.ref a] _ E0 sb.room e0 b r2 h) fun r s' hq => ?_)
  match r, hq with
  | .error _, hq => exact hq.elim
  | .ok .next, hq => exact hq.elim
  | .ok .brk, hq => exact hq.elim
  | .ok .cont, hq => exact hq.elim
  | .ok (.ret z), hq =>
    obtain ⟨z', H', I', rz, t, rfl, q⟩ := I.after hq
    obtain ⟨tk, rfl⟩ := rz
    exact ⟨.str t, H', I', ⟨tk, rfl⟩, q⟩
theorem call_repr_own (hs : PySem.W.findIn X.K (.ref C) "__repr__" = some (some (.ref f))) (hf : PySem.W.isFn X.K (.ref f) = true) (F : FnOk X.prog X.w X.K X.mg X.base CX0 n f fd ps sp) (hr : Room (n + 1) X.A) (hb : L2.Binds X.K fd ps []) :
    CallR X (.builtin "repr") (fun xs H Q => ∃ a dx fs, xs = [.ref a] ∧ H a = some (.ins C dx fs) ∧ sp [.ref a] H (fun z H' => ∃ t, z = .str t ∧ Q z H') E0) := by
  intro pins s σ H xs us Q I r h
  obtain ⟨a, dx, fs, rfl, ha, h⟩ := h
  rw [Vals.ref1 r]
  obtain ⟨mA, J, _⟩ := ins_get I.hok ha
  obtain ⟨od, J, _⟩ := J.look
  obtain ⟨m, hF⟩ := I.fr
  exact PySem.W.repr_K hr.in1.units0 hF I.ok.mod.kin J hs hf (run_str F ⟨hr.in1, rfl⟩ hb I h)
theorem call_str_own (hs : PySem.W.findIn X.K (.ref C) "__str__" = some (some (.ref f))) (hf : PySem.W.isFn X.K (.ref f) = true) (F : FnOk X.prog X.w X.K X.mg X.base CX0 n f fd ps sp) (hr : Room (n + 2) X.A) (hb : L2.Binds X.K fd ps []) :
    CallR X (.type "str") (fun xs H Q => ∃ a dx fs, xs = [.ref a] ∧ H a = some (.ins C dx fs) ∧ sp [.ref a] H (fun z H' => ∃ t, z = .str t ∧ Q z H') E0) := by
  intro pins s σ H xs us Q I r h
  obtain ⟨a, dx, fs, rfl, ha, h⟩ := h
  rw [Vals.ref1 r]
  obtain ⟨mA, J, _⟩ := ins_get I.hok ha
  obtain ⟨od, J, _⟩ := J.look
  exact PySem.W.kso_call hr.in1.in1.units0 I.kIn J hs hf (run_str F ⟨hr.in1.in1, rfl⟩ hb I h)
end
/-! ### o.m(k = v): a method by keywords alone, what is raised wished for at the slots -/
section
variable {X : Cx} {CX : CXT} {k : Nat} {f C : Addr} {fd : FuncData} {ps ks : List Str} {sp : Sp} {E : L2.St → XK} {m : Str} {apos pos : Pos} {o : Expr} {kws : List Keyword} {ta : TE} {tk : TA}
  {g : List Value → List Value → List Value} {gV : List V → List V → List V}
def tMethKw (C : Addr) (m : Str) (sp : Sp) (gV : List V → List V → List V) (E : L2.St → XK) (ta : TE) (tk : TA) : TE := fun σ H Q => ta σ H fun x H1 => ∃ a dx fs, x = .ref a ∧ H1 a = some (.ins C dx fs) ∧ fs.lookup m = none ∧
  tk σ H1 fun zs H2 => sp (gV [x] zs) H2 Q (E σ)
theorem pe_methKw {pl : Sem Bool} (he : PE X o ta) (c : Cls X.K C) (hm : Meth X.K C m f) (F : FnOk X.prog X.w X.K X.mg X.base CX k f fd ps sp) (hr : Room k X.A) (hb : KBinds X.K fd ps ks g gV) (hx : ∀ σ, PassesAt CX X σ (E σ)) (hkw : PK X kws tk)
    (hall : (backToKw pos (keywordEach kws X.env)).all (·.1.isSome) = true := by rfl)
    (hks : (backToKw pos (keywordEach kws X.env)).filterMap (·.1) = ks := by rfl)
    (hpl : ((backTo pos (starEach [] X.env)).any (·.1) || (backToKw pos (keywordEach kws X.env)).any (·.1.isNone)) = false := by rfl)
    (ht : eval (.Call (.Attribute o m apos) [] kws pos) X.env = (do
      let ov ← eval o X.env
      standAt apos.atName
      let (f, first) ← holding [ov] (getMethod ov m pl)
      callWith pos f first (backTo pos (starEach [] X.env)) (backToKw pos (keywordEach kws X.env))) := by rfl) :
    PE X (.Call (.Attribute o m apos) [] kws pos) (tMethKw C m sp gV E ta tk) := by
  refine ⟨fun pins s σ H Q I h => ?_⟩
  refine PySem.W.methodCall_KW (pl := pl) (thn (he.run pins s σ H _ I h) fun u s1 ⟨x, H1, I1, rx, a, dx, fs, ex, ea, l, q⟩ => ?_) ht
  subst ex
  obtain rfl : u = Value.ref a := rx
  refine getmeth_ok I1 ea c hm l ?_
  refine PySem.W.callWith_KW0 (first := [.ref a]) (h₀ := X.base) I.ok.mod.kin hm.kp hall ?_ hpl
  refine thn (hkw.run pos pins s1 σ H1 _ I1 q) fun ws s2 ⟨zs, H2, I2, rz, q2⟩ => ⟨I2.kIn, ?_⟩
  rw [hks]
  have r1 : Vals [V.ref a] [Value.ref a] := .cons rfl .nil
  have r2 := hb.rel r1 rz
  have hl : (g [Value.ref a] ws).length = ps.length := r2.length.symm.trans (F.len _ _ _ _ q2)
  refine wpAny_call (codeAny_mono (F.run X.A X.stack s2 H2 ⟨[.ref a], ks.zip ws⟩ (g [.ref a] ws) (gV [.ref a] zs) Q (E σ) hr I2.env0 (hb.to s2 [.ref a] ws I2.kIn hl) r2 q2) fun r s' hq => ?_)
  match r, hq with
  | .error e, hq => exact hx σ pins H2 s2 e s' I2 hq
  | .ok (.ret u), hq => exact I2.after hq
  | .ok .next, hq => exact hq.elim
  | .ok .brk, hq => exact hq.elim
  | .ok .cont, hq => exact hq.elim
end
end LT

set_option Elab.async false
set_option linter.all false
set_option maxRecDepth 100000
set_option maxHeartbeats 1000000
namespace LT
open PySem PySem.Spec PyProof.Rows L2 LamX
abbrev noX : CXT := fun _ _ _ _ _ _ => False
abbrev noE : XK := fun _ _ _ => False
/-! ### a lambda of one parameter -/
/-- x is the parameter; every other name is captured or global -/
structure LamP (sc scope : Scope) (x : Str) : Prop where
  kind : scope.kind = .function
  co : scope.isCoroutine = false
  gen : scope.isGenerator = false
  par : scope.names.lookup x = some .local
  nc : ∀ y ∈ scope.names, y.2 ≠ .cell
  own : ∀ y, scope.names.lookup y = some .local → y = x
  free : ∀ y ∈ scope.names, y.2 = .free → sc.names.lookup y.1 = some .cell ∨ sc.names.lookup y.1 = some .free
def lamPB (sc scope : Scope) (x : Str) : Bool :=
  decide (scope.kind = .function) && (!scope.isCoroutine && (!scope.isGenerator && (decide (scope.names.lookup x = some .local) && (scope.names.all (fun y => !decide (y.2 = .cell)) && (scope.names.all (fun y => !decide (y.2 = .local) || decide (y.1 = x)) &&
    scope.names.all (fun y => !decide (y.2 = .free) || (decide (sc.names.lookup y.1 = some .cell) || decide (sc.names.lookup y.1 = some .free))))))))
theorem lamP_by {sc scope : Scope} {x : Str} (h : lamPB sc scope x = true) : LamP sc scope x := by
  unfold lamPB at h
  simp only [Bool.and_eq_true, Bool.or_eq_true, Bool.not_eq_true', decide_eq_true_eq, decide_eq_false_iff_not, List.all_eq_true] at h
  obtain ⟨h1, h2, h3, h4, h5, h6, h7⟩ := h
  refine ⟨h1, h2, h3, h4, h5, fun y hy => ?_, fun y hy e => ?_⟩
  · rcases h6 (y, .local) (PySem.mem_of_lookup hy) with z | z
    · exact absurd rfl z
    · exact z
  · rcases h7 y hy with z | z
    · exact absurd e z
    · exact z
theorem LamP.has {X : Cx} {scope : Scope} {x : Str} (L : LamP X.env.scope scope x) (ok : X.Ok) : ∀ y ∈ scope.names, y.2 = .free → ∃ c, X.env.cells.lookup y.1 = some c :=
  fun y hy e => (L.free y hy e).elim (fun k => ok.has _ (.inl k)) (fun k => ok.has _ (.inr k))
/-- where the body of the lambda runs: slot 0 is the parameter, behind it the maker's slots -/
def lamCxP (CX : CXT) (X : Cx) (A : Around) (outer : List Env) (s : Shared) (H : Hp) (E : XK) (scope : Scope) (f c' : Addr) (x : Str) : Cx where
  prog := X.prog
  w := X.w
  K := X.K
  mg := X.mg
  base := X.base
  A := A.deeper (lamEnv X scope s.heap.objs.size f c')
  N := x :: X.N
  s_0 := s
  H_0 := H
  env := lamEnv X scope s.heap.objs.size f c'
  outer := outer
  stack := lamEnv X scope s.heap.objs.size f c' :: outer
  ex := []
  fn := fun _ => false
  calm := true
  pn := []
  xe := fun e s' => wpAny (model X.prog X.w) (A.deeper (lamEnv X scope s.heap.objs.size f c')) (leaving (lamEnv X scope s.heap.objs.size f c') e) (fun _ z => CX outer H s E e z) (fun e' z => CX outer H s E e' z) s'
section
variable {X : Cx} {pins : List (Addr × Obj)} {σ : L2.St} {H HZ : Hp} {s s1 : Shared} {CX : CXT}
theorem lam_startP {A : Around} {outer : List Env} {E : XK} {scope : Scope} {f c' : Addr} {x : Str} {v : V} {u : Value} {h₁ : Heap} {tk : Nat} (I : Inv X pins σ H s) (L : LamP X.env.scope scope x) (hx : x ∉ X.N)
    (e0 : Env0 X.prog X.w X.K X.mg X.base A outer s1 HZ) (hd : A.handled = none) (un : Un (frs X.stack) [] H HZ s.heap s1.heap) (r : RelV v u)
    (hns : h₁.Ns s1.heap.objs.size fun y => [(x, u)].reverse.lookup y) (kp : ∀ b o, s1.heap.get? b = some o → h₁.get? b = some o) :
    Inv (lamCxP CX X A outer s1 HZ E scope f c' x) [] (some v :: σ) HZ { s1 with heap := h₁, toks := tk } := by
  have hfree := L.has I.ok
  have cm : ∀ {y c}, (cloFrom X.env.cells scope.names []).lookup y = some c → X.env.cells.lookup y = some c := fun {y c} e => by
    rcases cloFrom_mem (PySem.mem_of_lookup e) with hm | ⟨g1, g2⟩
    · cases hm
    · obtain ⟨c1, hc⟩ := hfree _ g1 rfl
      have hc : X.env.cells.lookup y = some c1 := hc
      have e2 : c = c1 := by rw [g2, hc] <;> rfl
      rw [e2, hc]
  have look : ∀ {y}, scope.names.lookup y = some .free → ∃ c, (cloFrom X.env.cells scope.names []).lookup y = some c := fun {y} hl =>
    mem_lookup (cloFrom_has (cells := X.env.cells) (acc := []) (show (y, NameKind.free) ∈ scope.names from PySem.mem_of_lookup hl))
  have cellK : ∀ {c : Addr} {z : Option Value}, H c = none → s.heap.IsCell c z → h₁.IsCell c z := fun {c z} n ⟨o, ho, hd⟩ =>
    let ⟨_, q⟩ := un.any ho n (by simp)
    ⟨_, kp _ _ q, hd⟩
  have noA : ∀ b : Addr, b ∉ (lamCxP CX X A outer s1 HZ E scope f c' x).ex := fun b z => nomatch (show b ∈ ([] : List Addr) from z)
  refine ⟨⟨e0.mod, L.kind, rfl, rfl, Nat.le_refl _, fun y z c e1 e2 => I.ok.inj y z c (cm e1) (cm e2), fun y hy => ?has, fun y c z _ => (nomatch (show false = true from z)), fun _ => hd, Around.frames_deeper e0.frames, .inr ⟨rfl, rfl⟩, fun b z => absurd z (noA b),
      e0.bs, e0.bsz, fun b _ _ => noA b, fun b z => absurd z (noA b), e0.funs, e0.frf⟩,
    rfl, e0.bare, Un.kept kp, ⟨_, hns, fun i y z e1 e2 e3 => ?loc⟩, fun y c e => ?cell, e0.hok.fresh (Nat.le_refl _), fun y c e => ?freeC, fun q hq => (nomatch (show q ∈ ([] : List (Addr × Obj)) from hq)), e0.hok.kept kp, ?len⟩
  case has =>
    have hy : scope.names.lookup y = some .cell ∨ scope.names.lookup y = some .free := hy
    rcases hy with hy | hy
    · exact absurd rfl (L.nc _ (PySem.mem_of_lookup hy))
    · exact look hy
  case loc =>
    have e3 : Vis scope y := e3
    cases i with
    | zero =>
      have a1 : x = y := Option.some.inj e1
      have a2 : v = z := Option.some.inj (Option.some.inj e2)
      subst a1 a2
      refine ⟨u, r, .inl ⟨L.par, ?_⟩⟩
      show List.lookup x [(x, u)] = some u
      rw [List.lookup_cons, beq_self_eq_true]
    | succ i =>
      have n1 : X.N[i]? = some y := e1
      have n2 : σ[i]? = some (some z) := e2
      rcases e3 with k | k | k
      · exact absurd (L.own _ k ▸ List.mem_of_getElem? n1) hx
      · exact absurd rfl (L.nc _ (PySem.mem_of_lookup k))
      · obtain ⟨m, hn, hl⟩ := I.loc
        have kf := L.free _ (PySem.mem_of_lookup k) rfl
        obtain ⟨w', r', q⟩ := hl i y z n1 n2 (kf.elim (fun k => .inr (.inl k)) (fun k => .inr (.inr k)))
        obtain ⟨c2, h2⟩ := look k
        refine ⟨w', r', .inr ⟨.inr k, c2, h2, ?_⟩⟩
        have c1 := cm h2
        rcases q with ⟨k', _⟩ | ⟨_, c3, e', zz⟩
        · have k' : X.env.scope.names.lookup y = some .local := k'
          rcases kf with k2 | k2 <;> rw [show X.env.scope.names.lookup y = _ from k2] at k' <;> cases k'
        · rw [c1] at e'
          cases e'
          exact cellK (I.freeC y _ c1) zz
  case cell =>
    obtain ⟨w', z⟩ := I.cell y c (cm e)
    exact ⟨w', cellK (I.freeC y c (cm e)) z⟩
  case freeC =>
    obtain ⟨w', o, ho, _⟩ := I.cell y c (cm e)
    exact un.free c o ho (I.freeC y c (cm e)) (by simp)
  case len =>
    show σ.length + 1 = X.N.length + 1
    rw [I.len]
/-- the lambda called with one value -/
theorem lam_run {A : Around} {outer : List Env} {E : XK} {scope : Scope} {f c' : Addr} {x : Str} {v : V} {u pm ctv : Value} {params : Arguments} {body : Expr} {k : Nat} {Q : VK} {tb : TE} (I : Inv X pins σ H s) (L : LamP X.env.scope scope x) (hx : x ∉ X.N)
    (e0 : Env0 X.prog X.w X.K X.mg X.base A outer s1 HZ) (un : Un (frs X.stack) [] H HZ s.heap s1.heap)
    (hf : s1.heap.get? f = some (PySem.W.kla_obj "<lambda>" (X.env.qual ++ "<lambda>") params body scope (cloFrom X.env.cells scope.names []) pm c' ctv)) (hc : HZ c' = some (CodeO c' (X.env.qual ++ "<lambda>")))
    (hbind : bindArgs (PySem.W.kla_fn "<lambda>" (X.env.qual ++ "<lambda>") params body scope (cloFrom X.env.cells scope.names []) pm (.ref c') ctv) ⟨[u], []⟩ = pure [(x, u)]) (r : RelV v u) (hr : Room (k + 1) A)
    (hbody : Room k (A.deeper (lamEnv X scope s1.heap.objs.size f c')) → PE (lamCxP CX X A outer s1 HZ E scope f c' x) body tb) (ht : tb (some v :: σ) HZ Q) :
    codeAny (model X.prog X.w) A (.call (.ref f) ⟨[u], []⟩) (CR CX outer X.prog X.w HZ s1 Q E) s1 := by
  obtain ⟨⟨oc, vs, t, hoc, hdc, hvc⟩, _, _⟩ := e0.hok c' _ hc
  have lim : s1.heap.NoLimit := e0.mod.nolimit.keeps fun b o e => (e0.bs b o e).1
  refine PySem.W.kla_callFunE hr.depth hf rfl L.co L.gen rfl ⟨c', oc, vs, t, rfl, hoc, hdc, hvc⟩ ?_
  rw [hbind]
  refine wpAny_pure (wpAny_newFunctionEnv L.nc (fun y hy => ?_) (fun h₁ hns hsb => ⟨lim.fresh _ hsb, ?_⟩) L.kind)
  · rw [List.mem_singleton.mp hy]
    exact L.par
  show codeAny _ _ (.expr body (lamEnv X scope s1.heap.objs.size f c')) _ _
  have kp : ∀ b o, s1.heap.get? b = some o → h₁.get? b = some o := fun b o e => hsb.extBut b o (Nat.ne_of_lt (Heap.lt_size e)) (Heap.get?_push_of_some _ e)
  have J : Inv (lamCxP CX X A outer s1 HZ E scope f c' x) [] (some v :: σ) HZ { s1 with heap := h₁, toks := s1.toks + [(x, u)].length } := lam_startP I L hx e0 hr.hd un r hns kp
  refine PySem.W.kla_codeExpr (wpAny_mono ((hbody (hr.deeper _)).run [] _ _ HZ Q J ht) (fun z s' hq => ?_) fun e s' hq => hq)
  obtain ⟨w', H', J', rv, q⟩ := hq
  exact ⟨w', H', J'.os, J'.bare, J'.base, J'.hok, rv, q⟩
end
end LT

set_option Elab.async false
set_option linter.all false
set_option maxRecDepth 100000
set_option maxHeartbeats 1000000
namespace LT
open PySem PySem.Spec PyProof.Rows L2 LamX
/-! ### sorted(list or tuple, key=f) -/
theorem freed_get {h : Heap} {a : Addr} : (h.update a fun o => { o with data := .freed }).get? a = none := by
  obtain ⟨objs, l⟩ := h
  show Heap.get? ⟨objs.modify a (fun o => { o with data := .freed }), l⟩ a = none
  unfold Heap.get?
  show (match (objs.modify a (fun o => { o with data := .freed }))[a]? with
    | some ⟨_, _, .freed, _⟩ => none
    | r => r) = none
  rw [Array.getElem?_modify, if_pos rfl]
  cases objs[a]? <;> rfl
theorem vals_at : ∀ {xs : List V} {us : List Value}, Vals xs us → ∀ (j : Nat) {v : V} {u : Value}, xs[j]? = some v → us[j]? = some u → RelV v u
  | _, _, .cons h _, 0, _, _, e1, e2 => by
    cases e1
    cases e2
    exact h
  | _, _, .cons _ t, j + 1, _, _, e1, e2 => vals_at t j e1 e2
theorem dataLe_int {β : Type} (k : β → Int) : PySem.W.dataLe false (fun v => PyData.int (k v)) = fun a b => decide (k a ≤ k b) := by
  funext a b
  have e : PySem.W.dataLe false (fun v => PyData.int (k v)) a b = !(PyProof.Rows.lexLt itemOrd [.inl (k b)] [.inl (k a)]) := rfl
  rw [e]
  have e2 : PyProof.Rows.lexLt itemOrd [.inl (k b)] [.inl (k a)] = decide (k b < k a) := by
    show (decide (k b < k a) || (!decide (k a < k b) && false)) = _
    rw [Bool.and_false, Bool.or_false]
  rw [e2, Bool.eq_iff_iff]
  simp
section
variable {prog : Program} {w : World} {A : Around} {E : Value → Shared → Prop} {s : Shared}
theorem sorted_seq {it : Addr} {T : String} {o : Obj} {vs : List Value} {n : Nat} {kw : List (Str × Value)} {Q : Value → Shared → Prop} (hT : T = "list" ∨ T = "tuple") (ho : s.heap.get? it = some o) (hc : o.cls = .type T) (hd : o.data = .seq vs.toArray n) (hL : vs.length ≤ sizeLine)
    (ha1 : argsOk "sorted" ⟨[.ref it], kw⟩) (ha2 : ∀ x, argsOk "list.sort" ⟨[.ref x], kw⟩)
    (go : ∀ (E' : Value → Shared → Prop) (g : Heap), (∀ b u, s.heap.get? b = some u → g.get? b = some u) →
      wpAny (model prog w) A.in1.in1 (Builtin.«list.sort» ⟨[.ref g.objs.size], kw⟩) (fun f s' => f = .done (.ret .none) ∧ Q (.ref g.objs.size) s') E' { s with heap := g.push (seqObj "list" vs.toArray 0) }) :
    wpAny (model prog w) A (call (.builtin "sorted") [.ref it] kw) Q E s := by
  refine call_function_entry_kw kind_sorted plain_sorted entry_sorted ha1 ?_
  unfold Builtin.«sorted»
  refine wpAny_bind (m := checkCount "sorted" 1 1 _) (wpAny_pure ?_)
  refine wpAny_bind (wpAny_collect_seq it hT ho hc hd (fun g hg => ?_) (by rw [List.size_toArray]; exact hL))
  refine wpAny_bind (wpAny_newList ?_ hL)
  refine wpAny_bind (wpAny_holding (wpAny_call_entry_kw slot_list_sort ⟨_, Heap.get?_push_size _ rfl, rfl⟩ entry_list_sort ?body (ha2 _)))
  case body =>
    refine wpAny_mono (go _ g hg) (fun f s' hf => ?_) fun _ _ e => e
    obtain ⟨rfl, hq⟩ := hf
    exact ⟨_, rfl, wpAny_pure ⟨_, rfl, hq⟩⟩
end
section
variable {X : Cx} {pins : List (Addr × Obj)} {σ : L2.St} {H : Hp} {s : Shared}
/-- an object that was not looked at is looked at as a list from now on -/
theorem inv_track {a : Addr} {ys : List V} {out : List Value} {c : Nat} (I : Inv X pins σ H s) (fp : FpOk X pins H a) (hv : Vals ys out) (hz : ys.length ≤ sizeLine) (ho : s.heap.get? a = some (seqObj "list" out.toArray c)) :
    Inv X pins σ (upd H a (.lst ys)) s := by
  have ne : ∀ b u, H b = some u → b ≠ a := fun b u e => ne_of_none e fp.1
  have at_ : ∀ b u, H b = some u → upd H a (.lst ys) b = some u := fun b u e => by rw [upd_ne (ne b u e)]; exact e
  refine I.step (h' := s.heap) (g' := s.gens) (d' := s.drawn) (t' := s.toks) (ch := [a]) (fun b hb => ?_) (fun _ _ _ _ _ e _ => e) (fun b o _ _ _ e _ => ⟨o.slots, e⟩) (fun b o hb e n => ?_) (fun b o _ e => ⟨o, e⟩) (fun b xs e => at_ _ _ e) (fun b o u e => at_ _ _ e) (fun b ps e => ⟨#[], by rw [at_ _ _ e]; simp⟩) (fun _ h => h) (fun b u e => ?_) I.bare
  · rw [List.mem_singleton.mp hb]
    exact ⟨fp.2.2.2.1, fp.2.1, fp.2.2.2.2.1, fp.2.2.2.2.2⟩
  · rw [upd_ne (fun z => hb (by rw [z]; exact List.mem_singleton.mpr rfl))]
    exact n
  · by_cases hb : b = a
    · subst hb
      rw [upd_same] at e
      cases e
      exact ⟨hz, out, c, hv, ho⟩
    · rw [upd_ne hb] at e
      exact (I.hok b u e).stay (fun _ _ _ q => q) (fun d q => at_ _ _ q) fun d xs q => at_ _ _ q
/-- the calls of the key, the sorting, the new list -/
theorem sort_keyed {xs : List V} {us : List Value} {k : V → Int} {f : Value} {g : Heap} {E' : Value → Shared → Prop} {A : Around} {R : PySem.Fin → Shared → Prop} (I : Inv X pins σ H { s with heap := g }) (hv : Vals xs us) (hz : us.length ≤ sizeLine) (hu : A.units < cLine)
    (turn : ∀ (pins' : List (Addr × Obj)) (s' : Shared) (v : V) (u : Value), (∀ p ∈ pins, p ∈ pins') → Inv X pins' σ H s' → v ∈ xs → RelV v u →
      wpAny (model X.prog X.w) A (call f [u]) (fun z s'' => ∃ t, z = .int (k v) t ∧ Inv X pins' σ H s'') (fun _ _ => False) s')
    (fin : ∀ s', H g.objs.size = none → Inv X pins σ (upd H g.objs.size (.lst (xs.mergeSort fun a b => decide (k a ≤ k b)))) s' → R (.done (.ret .none)) s') :
    wpAny (model X.prog X.w) A (ksk_tree g.objs.size f false) R E' { s with heap := g.push (seqObj "list" us.toArray 0) } := by
  have ho : (g.push (seqObj "list" us.toArray 0)).get? g.objs.size = some (seqObj "list" us.toArray 0) := Heap.get?_push_size _ rfl
  obtain ⟨e1, ho1⟩ : ∃ e1, ((g.push (seqObj "list" us.toArray 0)).update g.objs.size (Obj.mapSeq fun _ => (#[] : Array Value))).get? g.objs.size = some (seqObj "list" #[] e1) := ⟨_, get?_update_seq ho fun _ => #[]⟩
  have fa0 : FpOk X pins H g.objs.size := I.fpOk (Nat.le_refl _) (I.hok.fresh (Nat.le_refl _))
  generalize ea : g.objs.size = a at *
  have old : ∀ b u, g.get? b = some u → ((g.push (seqObj "list" us.toArray 0)).update a (Obj.mapSeq fun _ => (#[] : Array Value))).get? b = some u := fun b u e => by
    rw [Heap.get?_update_ne _ _ _ _ (by rw [← ea]; exact Nat.ne_of_lt (Heap.lt_size e))]
    exact Heap.get?_push_of_some _ e
  have hs1 : ((g.push (seqObj "list" us.toArray 0)).update a (Obj.mapSeq fun _ => (#[] : Array Value))).objs.size = a + 1 := by rw [Heap.size_update, size_push', ea]
  unfold ksk_tree
  refine wpAny_bind (listItems_at ho rfl ?_)
  refine wpAny_bind (listUpdate_at ho rfl ?_ (by rw [List.size_toArray]; exact hz) (Nat.zero_le _))
  refine wpAny_bind (seqEpoch_at ho1 rfl ?_)
  refine wpAny_bind (wpAny_newTuple ?_ (by show us.length ≤ _; exact hz))
  refine wpAny_bind (wpAny_newList ?_ (Nat.zero_le _))
  refine wpAny_holding ?_
  generalize eg1 : (g.push (seqObj "list" us.toArray 0)).update a (Obj.mapSeq fun _ => (#[] : Array Value)) = g1 at *
  have hs2 : (g1.push (seqObj "tuple" us.toArray 0)).objs.size = a + 2 := by rw [size_push', hs1]
  have nk : ((g1.push (seqObj "tuple" us.toArray 0)).push (seqObj "list" #[] 0)).get? (a + 2) = some (seqObj "list" #[] 0) := by
    rw [← hs2]
    exact Heap.get?_push_size _ rfl
  have na : ((g1.push (seqObj "tuple" us.toArray 0)).push (seqObj "list" #[] 0)).get? a = some (seqObj "list" #[] e1) := Heap.get?_push_of_some _ (Heap.get?_push_of_some _ ho1)
  have old2 : ∀ b u, g.get? b = some u → ((g1.push (seqObj "tuple" us.toArray 0)).push (seqObj "list" #[] 0)).get? b = some u := fun b u e => Heap.get?_push_of_some _ (Heap.get?_push_of_some _ (old b u e))
  show wpAny (model X.prog X.w) A (ksk_rest a f false us.toArray _ (.ref (g1.push (seqObj "tuple" us.toArray 0)).objs.size)) _ _ _
  rw [hs2]
  generalize (g1.push (seqObj "tuple" us.toArray 0)).push (seqObj "list" #[] 0) = g2 at *
  have I2 : Inv X pins σ H { s with heap := g2 } := by
    have := I.kept (h' := g2) (t' := s.toks) old2
    exact this
  have fk0 : FpOk X pins H (a + 2) := I.fpOk (by show g.objs.size ≤ a + 2; omega) (I.hok.fresh (by show g.objs.size ≤ a + 2; omega))
  have pinA : ∀ {s' : Shared}, Inv X pins σ H s' → s'.heap.get? a = some (seqObj "list" #[] e1) → Inv X ((a, seqObj "list" #[] e1) :: pins) σ H s' := fun {s'} J e => J.pins_of fun p hp => by
    rcases List.mem_cons.mp hp with rfl | hp
    · exact ⟨e, fa0.1, fa0.2.1, fa0.2.2.1, fun v z => nomatch z⟩
    · exact J.pin p (List.mem_append_right _ hp)
  have fk : FpOk X ((a, seqObj "list" #[] e1) :: pins) H (a + 2) := ⟨fk0.1, fk0.2.1, fk0.2.2.1, fk0.2.2.2.1, fk0.2.2.2.2.1, fun p hp => by
    rcases List.mem_append.mp hp with h | h
    · exact fk0.2.2.2.2.2 p (List.mem_append_left _ h)
    · rcases List.mem_cons.mp h with rfl | h
      · show a ≠ a + 2
        omega
      · exact fk0.2.2.2.2.2 p (List.mem_append_right _ h)⟩
  have hlen : us.length = xs.length := hv.length.symm
  unfold ksk_rest
  refine wpAny_bind (wpAny_rule ?_)
  rw [List.forIn_toArray]
  refine wpAny_bind (ksk_fold (fun i s' => ∃ (kA : Array Value) (e : Nat), Inv X ((a, seqObj "list" #[] e1) :: pins) σ H s' ∧ s'.heap.get? (a + 2) = some (seqObj "list" kA e) ∧ PySem.W.EachIs (fun u n => ∃ t, u = Value.int n t) kA.toList ((xs.map k).take i)) us 0 _
    ⟨#[], 0, pinA I2 na, nk, by rw [List.take_zero]; exact .nil⟩ ?step ?done)
  case step =>
    rintro j u s' hj ⟨kA, e, J, nk', hk⟩
    simp only [Nat.zero_add] at hk ⊢
    have hjl : j < us.length := (List.getElem?_eq_some_iff.mp hj).1
    obtain ⟨v, hvj⟩ : ∃ v, xs[j]? = some v := ⟨_, List.getElem?_eq_getElem (by omega)⟩
    have r : RelV v u := vals_at hv j hvj hj
    have hzA : kA.size ≤ us.length := by
      have h1 := hk.length
      rw [Array.length_toList, List.length_take, List.length_map] at h1
      omega
    have J2 : Inv X ((a + 2, seqObj "list" kA e) :: (a, seqObj "list" #[] e1) :: pins) σ H s' := J.pins_of fun p hp => by
      rcases List.mem_cons.mp hp with rfl | hp
      · exact ⟨nk', fk.1, fk.2.1, fk.2.2.1, fun v z => nomatch z⟩
      · exact J.pin p (List.mem_append_right _ hp)
    refine wpAny_bind (wpAny_attempt (wpAny_mono (turn _ s' v u (fun p hp => .tail _ (.tail _ hp)) J2 (List.mem_of_getElem? hvj) r) (fun z s'' hq => ?_) fun _ _ hF => hF.elim))
    obtain ⟨t, rfl, J3⟩ := hq
    have nk3 := (J3.pin (a + 2, seqObj "list" kA e) (List.mem_append_right _ (.head _))).1
    have J4 : Inv X ((a, seqObj "list" #[] e1) :: pins) σ H s'' := J3.pins_of fun p hp => J3.pin p (List.mem_append_right _ (.tail _ hp))
    obtain ⟨c2, hc2⟩ : ∃ c2, (s''.heap.update (a + 2) (Obj.mapSeq (·.push (.int (k v) t)))).get? (a + 2) = some (seqObj "list" (kA.push (.int (k v) t)) c2) := ⟨_, get?_update_seq nk3 (·.push (.int (k v) t))⟩
    have sb := Heap.SameBut.update s''.heap (a + 2) (Obj.mapSeq (·.push (.int (k v) t)))
    try dsimp only
    refine wpAny_bind (listUpdate_at nk3 rfl ?_ (Nat.le_trans hzA hz) (Nat.le_trans (Nat.le_of_eq (Array.size_push ..)) (Nat.succ_le_succ (Nat.le_trans hzA hz))))
    have J5 : Inv X ((a, seqObj "list" #[] e1) :: pins) σ H { s'' with heap := s''.heap.update (a + 2) (Obj.mapSeq (·.push (.int (k v) t))) } := by
      have := J4.turnedL (h' := s''.heap.update (a + 2) (Obj.mapSeq (·.push (.int (k v) t)))) (t' := s''.toks) (ch := [a + 2]) (fun b o hb q => (sb.2 b fun z => hb (by rw [z]; exact List.mem_singleton.mpr rfl)).trans q) (fun b hb => by rw [List.mem_singleton.mp hb]; exact fk)
      exact this
    refine wpAny_pure ⟨rfl, kA.push (.int (k v) t), c2, J5, hc2, ?_⟩
    have ek : (xs.map k).take (j + 1) = (xs.map k).take j ++ [k v] := by rw [List.take_add_one, List.getElem?_map, hvj]; rfl
    rw [Array.toList_push, ek]
    exact PySem.W.each_snoc (R := fun (u : Value) (n : Int) => ∃ t, u = Value.int n t) ⟨t, rfl⟩ hk
  case done =>
    rintro s' ⟨kA, e, J, nk', hk⟩
    have hk1 : PySem.W.EachIs (fun u n => ∃ t, u = Value.int n t) kA.toList (xs.map k) := by
      have e3 : (xs.map k).take (0 + us.length) = xs.map k := List.take_of_length_le (by rw [List.length_map]; omega)
      rw [e3] at hk
      exact hk
    have hsz : kA.size = us.length := by
      have h1 := hk1.length
      rw [Array.length_toList, List.length_map] at h1
      omega
    have na' := (J.pin (a, seqObj "list" #[] e1) (List.mem_append_right _ (.head _))).1
    have hk2 : PySem.W.EachIs (fun v d => ∃ as, Reads s'.heap v d as) kA.toList (xs.map fun v => PyData.int (k v)) := by
      have h2 : ∀ (us : List Value) (ys : List V), PySem.W.EachIs (fun u n => ∃ t, u = Value.int n t) us (ys.map k) → PySem.W.EachIs (fun v d => ∃ as, Reads s'.heap v d as) us (ys.map fun v => PyData.int (k v)) := by
        intro us ys h
        induction ys generalizing us with
        | nil => cases h; exact .nil
        | cons y ys ih =>
          cases h with
          | cons h t =>
            obtain ⟨tt, rfl⟩ := h
            exact .cons ⟨[], .int _ _⟩ (ih _ t)
      exact h2 _ _ hk1
    have hal : PySem.W.AllAlike (xs.map fun v => PyData.int (k v)) := fun d hd d' hd' => by
      obtain ⟨_, _, rfl⟩ := List.mem_map.mp hd
      obtain ⟨_, _, rfl⟩ := List.mem_map.mp hd'
      simp [PySem.W.alike]
    have hso : PySem.W.Sortable (xs.map fun v => PyData.int (k v)) := .inr fun d hd => by
      obtain ⟨_, _, rfl⟩ := List.mem_map.mp hd
      exact ⟨nofun, nofun⟩
    have hdp : ∀ d, d ∈ (xs.map fun v => PyData.int (k v)) → A.units + d.depth < cLine := fun d hd => by
      obtain ⟨_, _, rfl⟩ := List.mem_map.mp hd
      simpa [PyData.depth] using hu
    have sb := Heap.SameBut.update s'.heap (a + 2) fun o => { o with data := .freed }
    have kp : PySem.W.KeepsBut a (s'.heap.update (a + 2) fun o => { o with data := .freed }) s'.heap := fun b o hb q => by
      by_cases hb2 : b = a + 2
      · rw [hb2, freed_get] at q
        cases q
      · exact ((sb.2 b hb2).symm.trans q)
    try dsimp only
    refine wpAny_bind (listItems_at nk' rfl ?_)
    refine PySem.W.keyH_end (κ := PySem.W.dataKind s'.heap (xs.map fun v => PyData.int (k v))) (h₁ := s'.heap.update (a + 2) fun o => { o with data := .freed }) kp freed_get nk' na' (show a + 2 ≠ a by omega) (PySem.W.SortsAt.data (s := s') hk2 hal hso hdp) hsz hz fun h3 tk3 c k3 n3 => ?_
    have ko : PySem.W.KeyedOut false (xs.map fun v => PyData.int (k v)) us (PySem.W.sortVals (PySem.W.dataKind s'.heap (xs.map fun v => PyData.int (k v))) false kA.toList us) := ⟨s'.heap, kA.toList, hal, rfl, hk2⟩
    have hR : PySem.W.EachIs (fun (u : Value) (v : V) => RelV v u) us xs := by
      have h2 : ∀ (xs : List V) (us : List Value), Vals xs us → PySem.W.EachIs (fun (u : Value) (v : V) => RelV v u) us xs := by
        intro xs us h
        induction h with
        | nil => exact .nil
        | cons a _ ih => exact .cons a ih
      exact h2 _ _ hv
    have hO := PySem.W.keyedOut_each (fun v => PyData.int (k v)) ko hR
    rw [dataLe_int] at hO
    have hV : Vals (xs.mergeSort fun a b => decide (k a ≤ k b)) (PySem.W.sortVals (PySem.W.dataKind s'.heap (xs.map fun v => PyData.int (k v))) false kA.toList us) := by
      have h2 : ∀ (us : List Value) (xs : List V), PySem.W.EachIs (fun (u : Value) (v : V) => RelV v u) us xs → Vals xs us := by
        intro us xs h
        induction h with
        | nil => exact .nil
        | cons a _ ih => exact .cons a ih
      exact h2 _ _ hO
    have J1 : Inv X pins σ H s' := J.pins_of fun p hp => J.pin p (List.mem_append_right _ (.tail _ hp))
    have J6 := J1.turnedL (h' := h3) (t' := tk3) (ch := [a, a + 2]) (fun b o hb q => by
      have n1 : b ≠ a := fun z => hb (by rw [z]; exact .head _)
      have n2 : b ≠ a + 2 := fun z => hb (by rw [z]; exact .tail _ (.head _))
      exact k3 b o n1 ((sb.2 b n2).trans q)) (fun b hb => by
      rcases List.mem_cons.mp hb with rfl | hb
      · exact fa0
      · rw [List.mem_singleton.mp hb]
        exact fk0)
    refine fin _ fa0.1 (inv_track J6 fa0 hV ?_ n3)
    rw [List.length_mergeSort]
    omega
end
end LT

set_option Elab.async false
set_option linter.all false
set_option maxRecDepth 100000
set_option maxHeartbeats 1000000
namespace LT
open PySem PySem.Spec PyProof.Rows L2 LamX
theorem extN_seqL {K : PySem.W.Frag} {H H' : Hp} {a : Addr} {xs : List V} (e : ExtN H H') (h : SqL K H a xs) : SqL K H' a xs := by
  rcases h with (h | ⟨o, h⟩) | h
  · exact .inl (.inl (e _ _ h nofun))
  · exact .inl (.inr ⟨o, e _ _ h nofun⟩)
  · exact .inr h
theorem extN_seqT {K : PySem.W.Frag} {H H' : Hp} {a : Addr} {xs : List V} (e : ExtN H H') (h : SqT K H a xs) : SqT K H' a xs := by
  rcases h with (h | ⟨o, h⟩) | h
  · exact .inl (.inl (e _ _ h nofun))
  · exact .inl (.inr ⟨o, e _ _ h nofun⟩)
  · exact .inr h
def oneOf (R : V → Hp → Prop) : List V → Hp → Prop
  | [z], H => R z H
  | _, _ => False
def tSortLam (K : PySem.W.Frag) (T : List (Addr × Str)) (ta : TA) (tb : TE) : TE := fun σ H Q => ta σ H (oneOf fun z H1 => Tabs T H1 ∧ ∃ (q : Addr) (xs : List V) (k : V → Int), z = .ref q ∧ (SqL K H1 q xs ∨ SqT K H1 q xs) ∧
  ∀ H2, ExtN H1 H2 → Tabs T H2 → (∀ v ∈ xs, ∀ Q' : VK, Q' (.int (k v)) H2 → tb (some v :: σ) H2 Q') ∧ ∀ l, H2 l = none → Q (.ref l) (upd H2 l (.lst (xs.mergeSort fun a b => decide (k a ≤ k b)))))
section
variable {X : Cx}
theorem stk_free {f : Addr} (hst : X.stack = X.env :: X.outer) (hfr : X.env.frame = some X.env.locals) (h : f ∉ frs X.stack) : f ≠ X.env.locals ∧ f ∉ X.fs := by
  rw [hst] at h
  have e : frs (X.env :: X.outer) = X.env.locals :: frs X.outer := by
    unfold frs
    rw [List.filterMap_cons, hfr]
  rw [e] at h
  exact ⟨fun z => h (by rw [z]; exact .head _), fun z => h (.tail _ z)⟩
theorem in1_env0 {pins : List (Addr × Obj)} {σ : L2.St} {H : Hp} {s : Shared} (I : Inv X pins σ H s) : Env0 X.prog X.w X.K X.mg X.base X.A.in1.in1 X.stack s H := by
  have e := I.env0
  exact ⟨e.frames, e.mod, e.bs, e.bsz, e.funs, e.frf, e.hok, e.bare⟩
/-- sorted(e, key=lambda x: body) -/
theorem pe_sortedLam {T : List (Addr × Str)} {c P : Addr} {x : Str} {k : Nat} {params : Arguments} {body e : Expr} {scope : Scope} {ta : TA} {tb : TE} {p lpos kpos pos : Pos} (hg : Gl X "sorted") (hm : X.mg "sorted" = none) (ha : PA X [e] ta)
    (hst : X.stack = X.env :: X.outer) (hfr : X.env.frame = some X.env.locals) (TB : TabB X.base X.mg c P) (hcode : X.env.code = .ref c) (hmT : (P, X.env.qual ++ "<lambda>") ∈ T) (hu : ∀ p ∈ T, p.1 = P → p.2 = X.env.qual ++ "<lambda>")
    (L : LamP X.env.scope scope x) (hx : x ∉ X.N) (hdef : defaultsOf params X.env = ([], [])) (hbind : ∀ (q : Str) (cl : List (Str × Addr)) (pm cv ctv u : Value), bindArgs (PySem.W.kla_fn "<lambda>" q params body scope cl pm cv ctv) ⟨[u], []⟩ = pure [(x, u)]) (hr : Room (k + 3) X.A)
    (hbody : ∀ (A : Around) (outer : List Env) (s : Shared) (H : Hp) (f c' : Addr), Room k (A.deeper (lamEnv X scope s.heap.objs.size f c')) → PE (lamCxP noX X A outer s H noE scope f c' x) body tb)
    (hv : bootBuiltins "sorted" = some (.builtin "sorted"))
    (he : backTo pos (starEach [e] X.env) = (false, eval e X.env) :: backTo pos (starEach [] X.env) := by rfl) (hpl : (backTo pos (starEach [e] X.env)).any (·.1) = false := by rfl)  :
    PE X (.Call (.Name "sorted" p) [e] [⟨some "key", .Lambda params body scope lpos, kpos⟩] pos) (tSortLam X.K T ta tb) := by
  refine ⟨fun pins s σ H Q I h => ?_⟩
  refine wpAny_Call_Name_kw (ld_blt I hg hm hv ?_)
  refine PyProof.Rows.callWith_kw (thn (ha.run pos pins s σ H (oneOf fun z H1 => Tabs T H1 ∧ ∃ (q : Addr) (xs : List V) (k : V → Int), z = .ref q ∧ (SqL X.K H1 q xs ∨ SqT X.K H1 q xs) ∧
    ∀ H2, ExtN H1 H2 → Tabs T H2 → (∀ v ∈ xs, ∀ Q' : VK, Q' (.int (k v)) H2 → tb (some v :: σ) H2 Q') ∧ ∀ l, H2 l = none → Q (.ref l) (upd H2 l (.lst (xs.mergeSort fun a b => decide (k a ≤ k b))))) I h) fun us s1 ⟨vs, H1, I1, r1, q1⟩ => ?_) he hpl (by rfl) (by rfl)
  match vs, q1 with
  | [z], q1 =>
  have q1 : Tabs T H1 ∧ ∃ (q : Addr) (xs : List V) (k : V → Int), z = .ref q ∧ (SqL X.K H1 q xs ∨ SqT X.K H1 q xs) ∧
    ∀ H2, ExtN H1 H2 → Tabs T H2 → (∀ v ∈ xs, ∀ Q' : VK, Q' (.int (k v)) H2 → tb (some v :: σ) H2 Q') ∧ ∀ l, H2 l = none → Q (.ref l) (upd H2 l (.lst (xs.mergeSort fun a b => decide (k a ≤ k b)))) := q1
  show wpAny _ _ (evalAll ((do let v ← eval (.Lambda params body scope lpos) X.env; standAt pos; pure v) :: (backToKw pos (keywordEach [] X.env)).map (·.2))) _ _ s1
  obtain ⟨hT, q, xs, kf, rfl, hq, h2⟩ := q1
  refine wpAny_evalAll_cons (wpAny_bind (lam_make2 I1 TB hcode hmT hu hT hdef (L.has I1.ok) fun f c' pm ctv H2 s2 I2 eN T2 hf hfn hfs hco => wpAny_bind (wpAny_standAt (wpAny_pure ?_))))
  refine wpAny_evalAll_nil ?_
  obtain ⟨hb, hQ⟩ := h2 H2 eN T2
  obtain ⟨n1, n2⟩ := stk_free hst hfr hfs
  have I3 : Inv X ((f, PySem.W.kla_obj "<lambda>" (X.env.qual ++ "<lambda>") params body scope (cloFrom X.env.cells scope.names []) pm c' ctv) :: pins) σ H2 s2 := I2.pins_of fun p hp => by
    rcases List.mem_cons.mp hp with rfl | hp
    · exact ⟨hf, hfn, n1, n2, fun v z => nomatch z⟩
    · exact I2.pin p (List.mem_append_right _ hp)
  cases r1 with
  | cons r1 r0 =>
    cases r0
    cases r1
    show wpAny (model X.prog X.w) X.A (call (.builtin "sorted") [.ref q] [(Str.ofString "key", .ref f)]) _ _ s2
    have seq : ∃ (T : String) (o : Obj) (its : List Value) (n : Nat), (T = "list" ∨ T = "tuple") ∧ s2.heap.get? q = some o ∧ o.cls = .type T ∧ o.data = .seq its.toArray n ∧ Vals xs its ∧ its.length ≤ sizeLine := by
      rcases hq with hq | hq
      · obtain ⟨its, hv, ⟨o, n, e1, e2, _, e4⟩, hl⟩ := I2.list (extN_seqL eN hq)
        exact ⟨"list", o, its, n, .inl rfl, e1, e2, e4, hv, by rw [← hv.length]; exact hl⟩
      · obtain ⟨its, hv, ⟨o, e1, e2, n, e4⟩, hl⟩ := I2.tuple (extN_seqT eN hq)
        exact ⟨"tuple", o, its, n, .inr rfl, e1, e2, e4, hv, by rw [← hv.length]; exact hl⟩
    obtain ⟨T', o, its, n, hT', e1, e2, e3, hvs, hl⟩ := seq
    refine sorted_seq hT' e1 e2 e3 hl (ksk_s1 _ _) (fun _ => ksk_l1 _ _) fun E' g hg => ?_
    rw [ksk_t1]
    have I4 : Inv X ((f, PySem.W.kla_obj "<lambda>" (X.env.qual ++ "<lambda>") params body scope (cloFrom X.env.cells scope.names []) pm c' ctv) :: pins) σ H2 { s2 with heap := g } := by
      have := I3.kept (h' := g) (t' := s2.toks) hg
      exact this
    have hr2 : Room (k + 1) X.A.in1.in1 := hr.in1.in1
    refine sort_keyed (k := kf) I4 hvs hl hr2.units0 (fun pins' s' v u hp J hv r => ?_) fun s' hn J => ⟨rfl, .ref g.objs.size, _, J.pins_of fun p hp => J.pin p (List.mem_append_right _ (.tail _ hp)), rfl, hQ _ hn⟩
    have hf' := (J.pin _ (List.mem_append_right _ (hp _ (.head _)))).1
    refine wpAny_call (codeAny_mono (lam_run (CX := noX) (E := noE) (Q := fun z H' => z = .int (kf v) ∧ H' = H2) (k := k) J L hx (in1_env0 J) Un.refl hf' hco (hbind _ _ _ _ _ _) r hr2 (fun hr3 => hbody _ _ _ _ _ _ hr3) (hb v hv _ ⟨rfl, rfl⟩)) fun res s'' hq => ?_)
    match res, hq with
    | .error _, hq => exact hq.elim
    | .ok .next, hq => exact hq.elim
    | .ok .brk, hq => exact hq.elim
    | .ok .cont, hq => exact hq.elim
    | .ok (.ret z), hq =>
      obtain ⟨z', H', J', rz, rfl, rfl⟩ := J.after hq
      obtain ⟨t, rfl⟩ := rz
      exact ⟨t, rfl, J'⟩
/-- a(ea), in the def that got the lambda in its i-th slot; that def was entered at s -/
theorem pe_actP {pins : List (Addr × Obj)} {σ : L2.St} {H : Hp} {s : Shared} {Ng : List Str} {qg : Str} {sg : Scope} {g f c' : Addr} {cdg pm ctv : Value} {params : Arguments} {body ea : Expr} {scope : Scope} {k i : Nat} {a x : Str} {ta : TA} {tb : TE} {p1 p2 : Pos}
    (I : Inv X pins σ H s) (L : LamP X.env.scope scope x) (hx : x ∉ X.N) (hf : s.heap.get? f = some (PySem.W.kla_obj "<lambda>" (X.env.qual ++ "<lambda>") params body scope (cloFrom X.env.cells scope.names []) pm c' ctv)) (hfn : H f = none) (hfs : f ∉ frs X.stack)
    (hbind : ∀ u : Value, bindArgs (PySem.W.kla_fn "<lambda>" (X.env.qual ++ "<lambda>") params body scope (cloFrom X.env.cells scope.names []) pm (.ref c') ctv) ⟨[u], []⟩ = pure [(x, u)]) (hr : Room (k + 1) (X.A.deeper (envOfC qg sg s.heap.objs.size g cdg)))
    (hbody : ∀ (A : Around) (outer : List Env) (s : Shared) (H : Hp), Room k (A.deeper (lamEnv X scope s.heap.objs.size f c')) → PE (lamCxP noX X A outer s H noE scope f c' x) body tb)
    (hN : Ng[i]? = some a) (hv : Vis sg a) (ha : PA (cxOf noX X.prog X.w X.K X.mg X.base Ng qg sg g cdg X.A X.stack s H noE).nox [ea] ta)
    (he : starEach [ea] (envOfC qg sg s.heap.objs.size g cdg) = (false, eval ea (envOfC qg sg s.heap.objs.size g cdg)) :: starEach [] (envOfC qg sg s.heap.objs.size g cdg))
    (hd : (a == ("__debug__" : Str)) = false := by decide) (hcd : (a == ("__classdict__" : Str)) = false := by decide) :
    PE (cxOf noX X.prog X.w X.K X.mg X.base Ng qg sg g cdg X.A X.stack s H noE).nox (.Call (.Name a p1) [ea] [] p2)
      (fun σZ HZ Q => σZ[i]? = some (some (.ref f)) ∧ ta σZ HZ (oneOf fun v H1 => H1 c' = some (CodeO c' (X.env.qual ++ "<lambda>")) ∧ tb (some v :: σ) H1 Q)) := by
  refine ⟨fun pZ sZ σZ HZ Q IZ h => ?_⟩
  obtain ⟨hs, ht⟩ := h
  refine wpAny_Call_Name_kw (thn ((pe_var (pos := p1) (i := i) hN hv hd hcd).run pZ sZ σZ HZ (fun v H1 => v = .ref f ∧ H1 = HZ) IZ ⟨.ref f, hs, rfl, rfl⟩) fun u s1 ⟨v, H1, I1, r1, q1⟩ => ?_)
  obtain ⟨rfl, rfl⟩ := q1
  cases r1
  have kf : ∀ {s' : Shared} {H' : Hp} {σ' : L2.St} {pp : List (Addr × Obj)}, Inv (cxOf noX X.prog X.w X.K X.mg X.base Ng qg sg g cdg X.A X.stack s H noE).nox pp σ' H' s' → s'.heap.get? f = some (PySem.W.kla_obj "<lambda>" (X.env.qual ++ "<lambda>") params body scope (cloFrom X.env.cells scope.names []) pm c' ctv) :=
    fun J => J.base.keep f _ hf hfn hfs (fun z => nomatch (show f ∈ ([] : List Addr) from z))
  refine PySem.W.callWith_F ⟨_, _, _, _, kf I1⟩ (thn (ha.run p2 pZ s1 σZ _ _ I1 ht) fun us s2 ⟨vs, H2, I2, r2, q2⟩ => ⟨⟨_, _, _, _, kf I2⟩, ?_⟩) he (by rfl)
  match vs, q2 with
  | [v], q2 =>
  have q2 : H2 c' = some (CodeO c' (X.env.qual ++ "<lambda>")) ∧ tb (some v :: σ) H2 Q := q2
  cases r2 with
  | cons r2 r0 =>
    cases r0
    have un : Un (frs X.stack) [] H H2 s.heap s2.heap := I2.base
    have e0 : Env0 X.prog X.w X.K X.mg X.base (X.A.deeper (envOfC qg sg s.heap.objs.size g cdg)) (envOfC qg sg s.heap.objs.size g cdg :: X.stack) s2 H2 := I2.env0
    have rc := lam_run (X := X) (CX := noX) (E := noE) (Q := Q) (k := k) I L hx e0 un (kf I2) q2.1 (hbind _) r2 hr (fun hr3 => hbody _ _ _ _ hr3) q2.2
    refine wpAny_call (codeAny_mono rc fun res s'' hq => ?_)
    match res, hq with
    | .error _, hq => exact hq.elim
    | .ok .next, hq => exact hq.elim
    | .ok .brk, hq => exact hq.elim
    | .ok .cont, hq => exact hq.elim
    | .ok (.ret z), hq => exact I2.after hq
/-- what the def makes of (a value, a lambda): TT -/
def Takes2 (X : Cx) (Ng : List Str) (x : Str) (sg : Scope) (g : Addr) (cdg : Value) (bg : List Stmt) (a : Str) (q : Str) (TT : V → (V → Hp → VK → Prop) → Hp → VK → Prop) : Prop :=
  ∀ (f c' : Addr) (s : Shared) (H : Hp) (Q : VK) (z : V) (tl : V → Hp → VK → Prop),
    (∀ (ea : Expr) (ta : TA) (p1 p2 : Pos), PA (cxOf noX X.prog X.w X.K X.mg X.base Ng x sg g cdg X.A X.stack s H noE).nox [ea] ta →
      starEach [ea] (envOfC x sg s.heap.objs.size g cdg) = (false, eval ea (envOfC x sg s.heap.objs.size g cdg)) :: starEach [] (envOfC x sg s.heap.objs.size g cdg) →
      PE (cxOf noX X.prog X.w X.K X.mg X.base Ng x sg g cdg X.A X.stack s H noE).nox (.Call (.Name a p1) [ea] [] p2) (fun σZ HZ Q => σZ[1]? = some (some (.ref f)) ∧ ta σZ HZ (oneOf fun v H1 => H1 c' = some (CodeO c' q) ∧ tl v H1 Q))) →
    H c' = some (CodeO c' q) → H f = none → TT z tl H Q →
    ∃ t, PSs (cxOf noX X.prog X.w X.K X.mg X.base Ng x sg g cdg X.A X.stack s H noE).nox bg t ∧ t { nx := fun _ H' => Q .non H', rt := Q } (L2.start Ng [z, .ref f]) H
def tLam2 (T : List (Addr × Str)) (TT : V → (V → Hp → VK → Prop) → Hp → VK → Prop) (te tb : TE) : TE := fun σ H Q => te σ H fun z H1 => Tabs T H1 ∧ ∀ H2, ExtN H1 H2 → Tabs T H2 → TT z (fun v H' Q' => tb (some v :: σ) H' Q') H2 Q
/-- x(e, lambda y: body) -/
theorem pe_lamArg {T : List (Addr × Str)} {TT : V → (V → Hp → VK → Prop) → Hp → VK → Prop} {x a1 a y : Str} {g c P : Addr} {k : Nat} {pg : Arguments} {bg : List Stmt} {sg : Scope} {dV kV doc pm cdv ct oc : Value} {an od : Option Addr} {osl : Array (Option Value)} {Ng : List Str}
    {params : Arguments} {body e : Expr} {scope : Scope} {te tb : TE} {p lpos pos : Pos} (hg : Gl X x) (hm : X.mg x = some (.ref g)) (hk : PySem.W.keepIn X.K (.ref g) = true)
    (lk : X.K.lookup g = some ⟨oc, od, .func (PySem.W.fnOf x x pg bg sg dV kV doc pm an cdv ct), osl⟩) (hcg : PySem.W.codeIn X.K cdv x = true) (hb : L2.Binds X.K (PySem.W.fnOf x x pg bg sg dV kV doc pm an cdv ct) [a1, a] []) (Sg : FnScope Ng [a1, a] sg) (hNg : Ng[1]? = some a) (hva : Vis sg a)
    (hG : Takes2 X Ng x sg g cdv bg a (X.env.qual ++ "<lambda>") TT) (ha : PE X e te)
    (TB : TabB X.base X.mg c P) (hcode : X.env.code = .ref c) (hmT : (P, X.env.qual ++ "<lambda>") ∈ T) (hu : ∀ p ∈ T, p.1 = P → p.2 = X.env.qual ++ "<lambda>") (hr : Room (k + 2) X.A) (L : LamP X.env.scope scope y) (hy : y ∉ X.N) (hdef : defaultsOf params X.env = ([], []))
    (hbind : ∀ (q : Str) (cl : List (Str × Addr)) (pm cv ctv u : Value), bindArgs (PySem.W.kla_fn "<lambda>" q params body scope cl pm cv ctv) ⟨[u], []⟩ = pure [(y, u)])
    (hbody : ∀ (A : Around) (outer : List Env) (s : Shared) (H : Hp) (f c' : Addr), Room k (A.deeper (lamEnv X scope s.heap.objs.size f c')) → PE (lamCxP noX X A outer s H noE scope f c' y) body tb)
    (he : starEach [e, .Lambda params body scope lpos] X.env = (false, eval e X.env) :: starEach [.Lambda params body scope lpos] X.env := by rfl)
    (hdb : (x == ("__debug__" : Str)) = false := by decide) (hd : (a == ("__debug__" : Str)) = false := by decide) (hcd : (a == ("__classdict__" : Str)) = false := by decide) :
    PE X (.Call (.Name x p) [e, .Lambda params body scope lpos] [] pos) (tLam2 T TT te tb) := by
  refine ⟨fun pins s σ H Q I h => ?_⟩
  refine wpAny_Call_Name_kw (ld_glob I hg hm ?_ hdb)
  refine PySem.W.callWith_K (h₀ := X.base) I.ok.mod.kin hk ?_ he (by rfl)
  rw [he]
  show wpAny _ _ (spliced ((false, eval e X.env) :: backTo pos (starEach [.Lambda params body scope lpos] X.env))) _ _ s
  refine Calls.spliced_cons (thn (ha.run pins s σ H _ I h) fun u s1 ⟨z, H1, I1, r1, q1⟩ => ?_)
  obtain ⟨hT, h2⟩ := q1
  show wpAny _ _ (spliced ((false, eval (.Lambda params body scope lpos) X.env) :: backTo pos (starEach [] X.env))) _ _ s1
  refine Calls.spliced_cons (lam_make2 I1 TB hcode hmT hu hT hdef (L.has I1.ok) fun f c' pm' ctv H2 s2 I2 eN T2 hf hfn hfs hco => ?_)
  refine Calls.spliced_nil ⟨I2.kIn, ?_⟩
  have rc : codeAny (model X.prog X.w) X.A (.call (.ref g) ⟨[u, .ref f], []⟩) (CR noX X.stack X.prog X.w H2 s2 Q noE) s2 := by
    refine run_ofS (k := k + 1) (N := Ng) (ps := [a1, a]) (us := [u, .ref f]) (vs := [z, .ref f]) lk hcg Sg hr I2.env0 (hb s2 [u, .ref f] I2.kIn rfl) (.cons r1 (.cons rfl .nil)) rfl fun hr' => ?_
    obtain ⟨t', ht', hq'⟩ := hG f c' s2 H2 Q z (fun v H' Q' => tb (some v :: σ) H' Q')
      (fun ea ta p1 p2 hta hea => pe_actP (i := 1) I2 L hy hf hfn hfs (fun u => hbind _ _ _ _ _ u) hr' (fun A outer s H hr3 => hbody A outer s H f c' hr3) hNg hva hta hea hd hcd) hco hfn (h2 H2 eN T2)
    exact ⟨t', ht'.nox, hq'⟩
  refine wpAny_call (codeAny_mono rc fun r s3 hq => ?_)
  match r, hq with
  | .error _, hq => exact hq.elim
  | .ok .next, hq => exact hq.elim
  | .ok .brk, hq => exact hq.elim
  | .ok .cont, hq => exact hq.elim
  | .ok (.ret z), hq => exact I2.after hq
end
end LT

set_option Elab.async false
set_option linter.all false
namespace LD
abbrev Row := Int × Option Int
def In (r : Row) (d : Int) : Prop := r.1 ≤ d ∧ ∀ j, r.2 = some j → d ≤ j
def Ins (L : List Row) (d : Int) : Prop := ∃ r, r ∈ L ∧ In r d
def Ok (r : Row) : Prop := 0 ≤ r.1 ∧ ∀ j, r.2 = some j → r.1 ≤ j
theorem Ok.self {r : Row} (h : Ok r) : In r r.1 := ⟨Int.le_refl _, h.2⟩
/-- told in one way alone, the last row ahead -/
def Can : List Row → Prop
  | [] => True
  | [r] => Ok r
  | r :: s :: t => Ok r ∧ (∃ j, s.2 = some j ∧ j + 1 < r.1) ∧ Can (s :: t)
theorem Can.tail {r : Row} : ∀ {t : List Row}, Can (r :: t) → Can t
  | [], _ => trivial
  | _ :: _, h => h.2.2
theorem Can.hd {r : Row} : ∀ {t : List Row}, Can (r :: t) → Ok r
  | [], h => h
  | _ :: _, h => h.1
/-- the rows behind the head end two days ahead of it -/
theorem Can.under : ∀ {t : List Row} {r : Row}, Can (r :: t) → ∀ s ∈ t, ∃ j, s.2 = some j ∧ j + 1 < r.1
  | [], _, _, s, hs => nomatch hs
  | u :: t, r, h, s, hs => by
    obtain ⟨j, e, hj⟩ := h.2.1
    rcases List.mem_cons.mp hs with rfl | hs
    · exact ⟨j, e, hj⟩
    · obtain ⟨i, e2, hi⟩ := Can.under h.2.2 s hs
      have := h.2.2.hd.2 j e
      exact ⟨i, e2, by omega⟩
theorem Can.ok : ∀ {L : List Row}, Can L → ∀ s ∈ L, Ok s
  | [], _, s, hs => nomatch hs
  | r :: t, h, s, hs => by
    rcases List.mem_cons.mp hs with rfl | hs
    · exact h.hd
    · exact h.tail.ok s hs
theorem ins_cons {r : Row} {t : List Row} {d : Int} : Ins (r :: t) d ↔ In r d ∨ Ins t d := by
  constructor
  · rintro ⟨s, hs, h⟩
    rcases List.mem_cons.mp hs with rfl | hs
    · exact .inl h
    · exact .inr ⟨s, hs, h⟩
  · rintro (h | ⟨s, hs, h⟩)
    · exact ⟨r, .head _, h⟩
    · exact ⟨s, .tail _ hs, h⟩
theorem not_nil {d : Int} : ¬ Ins [] d := fun ⟨_, h, _⟩ => nomatch h
/-- what is of the tail is two days ahead of the head -/
theorem Can.below {r : Row} {t : List Row} (h : Can (r :: t)) {d : Int} (hd : Ins t d) : d + 1 < r.1 := by
  obtain ⟨s, hs, hi⟩ := hd
  obtain ⟨j, e, hj⟩ := h.under s hs
  have := hi.2 j e
  omega
/-- the same days, told in one way -/
theorem uniq : ∀ {L L' : List Row}, Can L → Can L' → (∀ d, Ins L d ↔ Ins L' d) → L = L'
  | [], [], _, _, _ => rfl
  | [], r :: t, _, h', e => absurd ((e r.1).mpr (ins_cons.mpr (.inl h'.hd.self))) not_nil
  | r :: t, [], h, _, e => absurd ((e r.1).mp (ins_cons.mpr (.inl h.hd.self))) not_nil
  | (a, x) :: t, (b, y) :: t', h, h', e => by
    have ha := h.hd
    have hb := h'.hd
    have lo : ∀ {a b : Int} {x y : Option Int} {t t' : List Row}, Can ((a, x) :: t) → Can ((b, y) :: t') → (∀ d, Ins ((a, x) :: t) d ↔ Ins ((b, y) :: t') d) → y = x → b ≤ a := by
      intro a b x y t t' h h' e exy
      by_cases hlt : a < b
      · exfalso
        have hin : In (a, x) (b - 1) := ⟨by show a ≤ b - 1; omega, fun j ej => by
          have := h'.hd.2 j (by show y = some j; rw [exy]; exact ej)
          show b - 1 ≤ j
          have : b ≤ j := this
          omega⟩
        rcases ins_cons.mp ((e (b - 1)).mp (ins_cons.mpr (.inl hin))) with z | z
        · have := z.1
          have : b ≤ b - 1 := this
          omega
        · have := h'.below z
          have : b - 1 + 1 < b := this
          omega
      · omega
    have hi : ∀ {a b : Int} {x y : Option Int} {t t' : List Row}, Can ((a, x) :: t) → Can ((b, y) :: t') → (∀ d, Ins ((a, x) :: t) d ↔ Ins ((b, y) :: t') d) → ∀ j, y = some j → ∃ i, x = some i ∧ i ≤ j := by
      intro a b x y t t' h h' e j ej
      have top : ∀ d, Ins ((b, y) :: t') d → d ≤ j := fun d hd => by
        rcases ins_cons.mp hd with z | z
        · exact z.2 j ej
        · have := h'.below z
          have h2 := h'.hd.2 j ej
          have : d + 1 < b := this
          have : b ≤ j := h2
          omega
      cases x with
      | none =>
        exfalso
        by_cases hc : a ≤ j + 1
        · have := top (j + 1) ((e _).mp (ins_cons.mpr (.inl ⟨hc, nofun⟩)))
          omega
        · have := top a ((e _).mp (ins_cons.mpr (.inl h.hd.self)))
          omega
      | some i =>
        refine ⟨i, rfl, ?_⟩
        exact top i ((e _).mp (ins_cons.mpr (.inl ⟨h.hd.2 i rfl, fun k ek => by cases ek; exact Int.le_refl _⟩)))
    have exy : x = y := by
      cases y with
      | some j =>
        obtain ⟨i, rfl, hij⟩ := hi h h' e j rfl
        obtain ⟨k, ek, hk⟩ := hi h' h (fun d => (e d).symm) i rfl
        cases ek
        exact congrArg some (by omega)
      | none =>
        cases x with
        | none => rfl
        | some i =>
          obtain ⟨k, ek, _⟩ := hi h' h (fun d => (e d).symm) i rfl
          cases ek
    subst exy
    have eab : a = b := by
      have h1 := lo h h' e rfl
      have h2 := lo h' h (fun d => (e d).symm) rfl
      omega
    subst eab
    have et : t = t' := uniq h.tail h'.tail fun d => by
      constructor
      · intro hd
        have lt := h.below hd
        rcases ins_cons.mp ((e d).mp (ins_cons.mpr (.inr hd))) with z | z
        · have := z.1
          have : a ≤ d := this
          have : d + 1 < a := lt
          omega
        · exact z
      · intro hd
        have lt := h'.below hd
        rcases ins_cons.mp ((e d).mpr (ins_cons.mpr (.inr hd))) with z | z
        · have := z.1
          have : a ≤ d := this
          have : d + 1 < a := lt
          omega
        · exact z
    rw [et]
/-! ### merging -/
def laterO : Option Int → Option Int → Option Int
  | some i, some j => some (if j > i then j else i)
  | _, _ => none
def meetsB (h r : Row) : Bool := match h.2 with
  | none => true
  | some j => decide (r.1 ≤ j + 1)
def stepM : List Row → Row → List Row
  | [], r => [r]
  | h :: t, r => if meetsB h r = true then (h.1, laterO h.2 r.2) :: t else r :: h :: t
theorem laterO_le {x y : Option Int} {k : Int} (h : laterO x y = some k) : ∃ i j, x = some i ∧ y = some j ∧ i ≤ k ∧ j ≤ k ∧ (k = i ∨ k = j) := by
  cases x with
  | none => cases h
  | some i =>
    cases y with
    | none => cases h
    | some j =>
      have h' : (if j > i then j else i) = k := Option.some.inj h
      refine ⟨i, j, rfl, rfl, ?_, ?_, ?_⟩ <;> split at h' <;> omega
/-- a row put to a list whose last row begins no later -/
theorem stepM_ok {R : List Row} {r : Row} (h : Can R) (ok : Ok r) (hd : ∀ u t, R = u :: t → u.1 ≤ r.1) :
    Can (stepM R r) ∧ (∀ d, Ins (stepM R r) d ↔ Ins R d ∨ In r d) ∧ (∀ u t, stepM R r = u :: t → u.1 ≤ r.1) ∧ stepM R r ≠ [] := by
  cases R with
  | nil => exact ⟨ok, fun d => by rw [show stepM [] r = [r] from rfl, ins_cons, or_comm], fun u t e => by cases e; exact Int.le_refl _, nofun⟩
  | cons u t =>
    obtain ⟨a, x⟩ := u
    obtain ⟨b, y⟩ := r
    have hab : a ≤ b := hd (a, x) t rfl
    have ha := h.hd
    have es : stepM ((a, x) :: t) (b, y) = if meetsB (a, x) (b, y) = true then (a, laterO x y) :: t else (b, y) :: (a, x) :: t := rfl
    rw [es]
    split
    · rename_i hm
      have okn : Ok (a, laterO x y) := ⟨ha.1, fun k ek => by
        obtain ⟨i, j, ei, _, h1, _⟩ := laterO_le ek
        have := ha.2 i ei
        show a ≤ k
        have : a ≤ i := this
        omega⟩
      refine ⟨?_, fun d => ?_, fun v s e => by cases e; exact hab, nofun⟩
      · cases t with
        | nil => exact okn
        | cons s t => exact ⟨okn, h.2.1, h.2.2⟩
      · rw [ins_cons, ins_cons]
        have key : In (a, laterO x y) d ↔ In (a, x) d ∨ In (b, y) d := by
          constructor
          · rintro ⟨h1, h2⟩
            have h1 : a ≤ d := h1
            cases x with
            | none => exact .inl ⟨h1, nofun⟩
            | some i =>
              by_cases hdi : d ≤ i
              · exact .inl ⟨h1, fun k ek => by cases ek; exact hdi⟩
              · have hm' : b ≤ i + 1 := of_decide_eq_true hm
                refine .inr ⟨by show b ≤ d; omega, fun k ek => ?_⟩
                have ek : y = some k := ek
                subst ek
                have := h2 (if k > i then k else i) rfl
                split at this <;> omega
          · rintro (⟨h1, h2⟩ | ⟨h1, h2⟩)
            · refine ⟨h1, fun k ek => ?_⟩
              obtain ⟨i, j, ei, _, hk, _⟩ := laterO_le ek
              have := h2 i ei
              omega
            · have h1 : b ≤ d := h1
              refine ⟨by show a ≤ d; omega, fun k ek => ?_⟩
              obtain ⟨i, j, _, ej, _, hk, _⟩ := laterO_le ek
              have := h2 j ej
              omega
        rw [key]
        constructor
        · rintro ((z | z) | z)
          · exact .inl (.inl z)
          · exact .inr z
          · exact .inl (.inr z)
        · rintro ((z | z) | z)
          · exact .inl (.inl z)
          · exact .inr z
          · exact .inl (.inr z)
    · rename_i hm
      refine ⟨⟨ok, ?_, h⟩, fun d => by rw [ins_cons, or_comm], fun v s e => by cases e; exact Int.le_refl _, nofun⟩
      cases x with
      | none => exact absurd rfl hm
      | some j =>
        refine ⟨j, rfl, ?_⟩
        have hm' : ¬ b ≤ j + 1 := fun z => hm (decide_eq_true z)
        show j + 1 < b
        omega
def mergeR (rs : List Row) : List Row := rs.foldl stepM []
theorem foldM_ok : ∀ (rs : List Row) (R : List Row), Can R → (∀ r ∈ rs, Ok r) → rs.Pairwise (fun a b => a.1 ≤ b.1) → (∀ u t, R = u :: t → ∀ r ∈ rs, u.1 ≤ r.1) →
    Can (rs.foldl stepM R) ∧ ∀ d, Ins (rs.foldl stepM R) d ↔ Ins R d ∨ Ins rs d
  | [], R, h, _, _, _ => ⟨h, fun d => ⟨fun z => .inl z, fun z => z.elim id fun q => absurd q not_nil⟩⟩
  | r :: rs, R, h, ok, pw, hd => by
    obtain ⟨h1, h2, h3, _⟩ := stepM_ok (r := r) h (ok r (.head _)) fun u t e => hd u t e r (.head _)
    have pw' := List.pairwise_cons.mp pw
    obtain ⟨g1, g2⟩ := foldM_ok rs (stepM R r) h1 (fun s hs => ok s (.tail _ hs)) pw'.2 fun u t e s hs => Int.le_trans (h3 u t e) (pw'.1 s hs)
    refine ⟨g1, fun d => ?_⟩
    rw [List.foldl_cons, g2, h2, ins_cons, or_assoc]
/-! ### the walk over the marks -/
def stepD (w : Int → Bool) (R : List Row) (d : Int) : List Row := match R with
  | [] => if w d = true then [(d, none)] else []
  | (f, none) :: t => if w d = true then (f, none) :: t else (f, some (d - 1)) :: t
  | (f, some j) :: t => if w d = true then (d, none) :: (f, some j) :: t else (f, some j) :: t
structure Till (w : Int → Bool) (R : List Row) (m : Int) : Prop where
  can : Can R
  up : ∀ d, d ≤ m → (Ins R d ↔ w d = true)
  on : ∀ d, m < d → (Ins R d ↔ w m = true)
  fs : ∀ r ∈ R, r.1 ≤ m
theorem Till.step {w : Int → Bool} {R : List Row} {m n : Int} (h : Till w R m) (hn : m < n) (n0 : 0 ≤ n) (cst : ∀ d, m ≤ d → d < n → w d = w m) : Till w (stepD w R n) n := by
  have mid : ∀ d, d < n → (Ins R d ↔ w d = true) := fun d hd => by
    by_cases hm : d ≤ m
    · exact h.up d hm
    · rw [h.on d (by omega), cst d (by omega) hd]
  have keep : Ins R n → w m = true := fun z => (h.on n hn).mp z
  have noN : w m = false → ∀ d, m ≤ d → ¬ Ins R d := fun e d hd z => by
    by_cases hm : d ≤ m
    · have : d = m := by omega
      subst this
      have := (h.up d (Int.le_refl _)).mp z
      rw [e] at this
      cases this
    · have := (h.on d (by omega)).mp z
      rw [e] at this
      cases this
  have same : ∀ b, w m = b → w n = b → Till w R n := fun b e1 e2 => ⟨h.can, fun d hd => by
    by_cases hdn : d < n
    · exact mid d hdn
    · have : d = n := by omega
      subst this
      rw [h.on d hn, e1, e2], fun d hd => by rw [h.on d (by omega), e1, e2], fun r hr => by have := h.fs r hr; omega⟩
  have open_ : w m = false → w n = true → Till w ((n, none) :: R) n := fun e1 e2 => by
    refine ⟨?_, fun d hd => ?_, fun d hd => ?_, fun r hr => ?_⟩
    · cases hR : R with
      | nil => exact ⟨n0, nofun⟩
      | cons r t =>
        rw [hR] at h noN
        refine ⟨⟨n0, nofun⟩, ?_, h.can⟩
        obtain ⟨f, x⟩ := r
        cases x with
        | none => exact absurd (ins_cons.mpr (.inl (show In (f, none) m from ⟨h.fs (f, none) (.head _), fun j ej => by cases ej⟩))) (noN e1 m (Int.le_refl _))
        | some j =>
          refine ⟨j, rfl, ?_⟩
          show j + 1 < n
          by_cases hj : j < m
          · omega
          · exact absurd (ins_cons.mpr (.inl ⟨h.can.hd.2 j rfl, fun k ek => by cases ek; exact Int.le_refl _⟩)) (noN e1 j (by omega))
    · rw [ins_cons]
      by_cases hdn : d < n
      · rw [← mid d hdn]
        exact ⟨fun z => z.elim (fun q => by have := q.1; have : n ≤ d := this; omega) id, .inr⟩
      · have : d = n := by omega
        subst this
        exact ⟨fun _ => e2, fun _ => .inl ⟨Int.le_refl _, nofun⟩⟩
    · rw [ins_cons]
      exact ⟨fun _ => e2, fun _ => .inl ⟨by show n ≤ d; omega, nofun⟩⟩
    · rcases List.mem_cons.mp hr with rfl | hr
      · exact Int.le_refl _
      · have := h.fs r hr
        omega
  unfold stepD
  split
  · have e1 : w m = false := by
      cases hw : w m with
      | false => rfl
      | true => exact absurd ((h.on n hn).mpr hw) not_nil
    split
    · rename_i e2
      exact open_ e1 e2
    · rename_i e2
      exact same false e1 (by cases hw : w n <;> first | rfl | exact absurd hw e2)
  · rename_i f t
    have e1 : w m = true := (h.on n hn).mp (ins_cons.mpr (.inl ⟨by have := h.fs (f, none) (.head _); have : f ≤ m := this; show f ≤ n; omega, nofun⟩))
    have hf : f ≤ m := h.fs (f, none) (.head _)
    split
    · rename_i e2
      exact same true e1 e2
    · rename_i e2
      have e2 : w n = false := by cases hw : w n <;> first | rfl | exact absurd hw e2
      refine ⟨?_, fun d hd => ?_, fun d hd => ?_, fun r hr => ?_⟩
      · have okn : Ok (f, some (n - 1)) := ⟨h.can.hd.1, fun j ej => by cases ej; show f ≤ n - 1; omega⟩
        cases t with
        | nil => exact okn
        | cons s t => exact ⟨okn, h.can.2.1, h.can.2.2⟩
      · rw [ins_cons]
        by_cases hdn : d < n
        · rw [← mid d hdn, ins_cons]
          constructor
          · rintro (z | z)
            · exact .inl ⟨z.1, nofun⟩
            · exact .inr z
          · rintro (z | z)
            · exact .inl ⟨z.1, fun j ej => by cases ej; omega⟩
            · exact .inr z
        · have : d = n := by omega
          subst this
          rw [e2]
          refine ⟨fun z => ?_, nofun⟩
          rcases z with z | z
          · have := z.2 (d - 1) rfl
            omega
          · have := h.can.below z
            have : d + 1 < f := this
            omega
      · rw [ins_cons, e2]
        refine ⟨fun z => ?_, nofun⟩
        rcases z with z | z
        · have := z.2 (n - 1) rfl
          omega
        · have := h.can.below z
          have : d + 1 < f := this
          omega
      · rcases List.mem_cons.mp hr with rfl | hr
        · show f ≤ n
          omega
        · have := h.fs r (.tail _ hr)
          omega
  · rename_i f j t
    have e1 : w m = false := by
      cases hw : w m with
      | false => rfl
      | true =>
        have big : ∀ d, m < d → d ≤ j := fun d hd => by
          rcases ins_cons.mp ((h.on d hd).mpr hw) with z | z
          · exact z.2 j rfl
          · have := h.can.below z
            have h2 : f ≤ m := h.fs (f, some j) (.head _)
            have : d + 1 < f := this
            omega
        have b1 := big (m + 1) (by omega)
        have b2 := big (j + 1) (by omega)
        omega
    split
    · rename_i e2
      exact open_ e1 e2
    · rename_i e2
      exact same false e1 (by cases hw : w n <;> first | rfl | exact absurd hw e2)
/-- marks that rise, none of w's changes between them -/
theorem foldD_ok {w : Int → Bool} : ∀ (ms : List Int) (R : List Row) (m : Int), Till w R m → ms.Pairwise (· < ·) → (∀ n ∈ ms, m < n ∧ 0 ≤ n) → (∀ d, m < d → w d ≠ w (d - 1) → d ∈ ms) → Can (ms.foldl (stepD w) R) ∧ ∀ d, Ins (ms.foldl (stepD w) R) d ↔ w d = true
  | [], R, m, h, _, _, hc => by
    refine ⟨h.can, fun d => ?_⟩
    by_cases hd : d ≤ m
    · exact h.up d hd
    · rw [List.foldl_nil, h.on d (by omega)]
      have all : ∀ k : Nat, w (m + k) = w m := fun k => by
        induction k with
        | zero => rw [show m + ((0 : Nat) : Int) = m by omega]
        | succ k ih =>
          by_cases e : w (m + (k + 1 : Nat)) = w (m + (k + 1 : Nat) - 1)
          · rw [e, show m + ((k + 1 : Nat) : Int) - 1 = m + (k : Nat) by omega, ih]
          · exact nomatch hc _ (by omega) e
      have := all (d - m).toNat
      rw [show m + (((d - m).toNat : Nat) : Int) = d by omega] at this
      rw [this]
  | n :: ms, R, m, h, pw, hb, hc => by
    have pw' := List.pairwise_cons.mp pw
    have hn := hb n (.head _)
    have cst : ∀ d, m ≤ d → d < n → w d = w m := fun d h1 h2 => by
      have all : ∀ k : Nat, m + k < n → w (m + k) = w m := fun k => by
        induction k with
        | zero => intro _; rw [show m + ((0 : Nat) : Int) = m by omega]
        | succ k ih =>
          intro hk
          by_cases e : w (m + (k + 1 : Nat)) = w (m + (k + 1 : Nat) - 1)
          · rw [e, show m + ((k + 1 : Nat) : Int) - 1 = m + (k : Nat) by omega]
            exact ih (by omega)
          · rcases List.mem_cons.mp (hc _ (by omega) e) with z | z
            · omega
            · have := pw'.1 _ z
              omega
      have := all (d - m).toNat (by omega)
      rw [show m + (((d - m).toNat : Nat) : Int) = d by omega] at this
      exact this
    exact foldD_ok ms (stepD w R n) n (h.step hn.1 hn.2 cst) pw'.2 (fun k hk => ⟨pw'.1 k hk, (hb k (.tail _ hk)).2⟩) fun d hd e => by
      rcases List.mem_cons.mp (hc d (by omega) e) with z | z
      · omega
      · exact z
/-! ### the rows' own look -/
def inB (r : Row) (d : Int) : Bool := decide (r.1 ≤ d) && (match r.2 with
  | none => true
  | some j => decide (d ≤ j))
def insB (rs : List Row) (d : Int) : Bool := rs.any fun r => inB r d
theorem inB_iff {r : Row} {d : Int} : inB r d = true ↔ In r d := by
  obtain ⟨a, x⟩ := r
  unfold inB In
  cases x with
  | none => simp
  | some j => simp
theorem insB_iff {rs : List Row} {d : Int} : insB rs d = true ↔ Ins rs d := by
  unfold insB Ins
  rw [List.any_eq_true]
  constructor
  · rintro ⟨r, hr, h⟩
    exact ⟨r, hr, inB_iff.mp h⟩
  · rintro ⟨r, hr, h⟩
    exact ⟨r, hr, inB_iff.mpr h⟩
/-- THE CORE: rows sorted by their first days and merged are what the walk over the marks finds -/
theorem core {rs ss : List Row} {ms : List Int} (ok : ∀ r ∈ rs, Ok r) (hp : ∀ r, r ∈ ss ↔ r ∈ rs) (srt : ss.Pairwise (fun a b => a.1 ≤ b.1)) (pw : ms.Pairwise (· < ·)) (m0 : ∀ n ∈ ms, 0 ≤ n)
    (hf : ∀ r ∈ rs, r.1 ∈ ms) (hl : ∀ r ∈ rs, ∀ j, r.2 = some j → j + 1 ∈ ms) : ms.foldl (stepD (insB rs)) [] = ss.foldl stepM [] := by
  have oks : ∀ r ∈ ss, Ok r := fun r hr => ok r ((hp r).mp hr)
  obtain ⟨c1, e1⟩ := foldM_ok ss [] trivial oks srt fun u t e => by cases e
  have neg : ∀ d, d < 0 → insB rs d = false := fun d hd => by
    cases h : insB rs d with
    | false => rfl
    | true =>
      obtain ⟨r, hr, hi⟩ := insB_iff.mp h
      have := (ok r hr).1
      have := hi.1
      omega
  have t0 : Till (insB rs) [] (-1) := ⟨trivial, fun d hd => by rw [neg d (by omega)]; exact ⟨fun z => absurd z not_nil, nofun⟩, fun d _ => by rw [neg (-1) (by omega)]; exact ⟨fun z => absurd z not_nil, nofun⟩, nofun⟩
  obtain ⟨c2, e2⟩ := foldD_ok ms [] (-1) t0 pw (fun n hn => ⟨by have := m0 n hn; omega, m0 n hn⟩) fun d hd hne => by
    have : (insB rs d = true ∧ insB rs (d - 1) = false) ∨ (insB rs d = false ∧ insB rs (d - 1) = true) := by
      cases h1 : insB rs d <;> cases h2 : insB rs (d - 1)
      · exact absurd (h1.trans h2.symm) hne
      · exact .inr ⟨rfl, rfl⟩
      · exact .inl ⟨rfl, rfl⟩
      · exact absurd (h1.trans h2.symm) hne
    rcases this with ⟨h1, h2⟩ | ⟨h1, h2⟩
    · obtain ⟨r, hr, hi⟩ := insB_iff.mp h1
      have hno : ¬ In r (d - 1) := fun z => by
        have := insB_iff.mpr ⟨r, hr, z⟩
        rw [h2] at this
        cases this
      have : r.1 = d := by
        by_cases e : r.1 = d
        · exact e
        · exact absurd (show In r (d - 1) from ⟨by have := hi.1; omega, fun j ej => by have := hi.2 j ej; omega⟩) hno
      rw [← this]
      exact hf r hr
    · obtain ⟨r, hr, hi⟩ := insB_iff.mp h2
      have hno : ¬ In r d := fun z => by
        have := insB_iff.mpr ⟨r, hr, z⟩
        rw [h1] at this
        cases this
      cases hx : r.2 with
      | none => exact absurd (show In r d from ⟨by have := hi.1; omega, fun j ej => by rw [hx] at ej; cases ej⟩) hno
      | some j =>
        have hj := hi.2 j hx
        have : j + 1 = d := by
          by_cases e : j + 1 = d
          · exact e
          · exact absurd (show In r d from ⟨by have := hi.1; omega, fun k ek => by rw [hx] at ek; cases ek; omega⟩) hno
        rw [← this]
        exact hl r hr j hx
  refine uniq c2 c1 fun d => ?_
  rw [e2, e1, insB_iff]
  constructor
  · rintro ⟨r, hr, h⟩
    exact .inr ⟨r, (hp r).mpr hr, h⟩
  · rintro (z | ⟨r, hr, h⟩)
    · exact absurd z not_nil
    · exact ⟨r, (hp r).mp hr, h⟩
end LD

set_option Elab.async false
set_option linter.all false
set_option maxRecDepth 100000
set_option maxHeartbeats 3200000
namespace LT
open PySem PySem.Spec PyProof.Rows L2
/-- a set just made -/
abbrev nuSet (w : World) : Obj := { cls := .type "set", dict := none, data := .set #[] 0 (.fresh 0 0 (!w.params.followText "set-order")) }
section
variable {P : Program} {w : World} {A : Around} {E : Value → Shared → Prop} {s : Shared}
/-- set(l), l a list of ints -/
theorem set_of_ints {l : Addr} {arr : Array Value} (zs : List Int) {Q : Value → Shared → Prop} (calm : A.handled = none) (isl : s.heap.IsList l arr) (hz : IntsAre arr.toList zs) (few : zs.length + 1 < scanBound)
    (fin : ∀ (g : Heap) (tk c : Nat), SetR w g s.heap.objs.size (fun j => decide (j ∈ zs)) c → c ≤ zs.length → (∀ b o, s.heap.get? b = some o → g.get? b = some o) → Q (.ref s.heap.objs.size) { s with heap := g, toks := tk }) :
    wpAny (model P w) A (call (.type "set") [.ref l]) Q E s := by
  have asz : arr.size = zs.length := by rw [← Array.length_toList]; exact IntsAre.length hz
  obtain ⟨cc, tl, mr⟩ := F.called_set.mro
  have k1 := F.called_set.made; have k2 := F.called_set.sub; have k3 := F.called_set.notType; have k4 := F.called_set.canCreate; have k5 := F.typeCall_set_1 (.ref l)
  refine wpAny_call (codeAny_of_tree (show wpAny _ _ (callAny (.type "set") _) _ _ _ from wpAny_pure ⟨Code.quiet_builtin _ (by decide +kernel), codeAny_builtin F.entry_type_call ?_⟩))
  rw [Around.under_plain (weight_type_call_type "set" [.ref l] []) rfl]
  repeat (any_goals (first | assumption | wp_step))
  refine codeAny_mono (code_set_led1 (.ref l) (E := E) (Q₁ := fun ob s₁ => ob = .ref s.heap.objs.size ∧ s₁ = { s with heap := s.heap.push (nuSet w) }) ⟨rfl, rfl⟩) fun r s₁ hr => ?_
  match r, hr with
  | .error e, hr => exact hr
  | .ok .next, hr => exact hr.elim
  | .ok .brk, hr => exact hr.elim
  | .ok .cont, hr => exact hr.elim
  | .ok (.ret ob), hr =>
    obtain ⟨rfl, rfl⟩ := hr
    have atS : (s.heap.push (nuSet w)).get? s.heap.objs.size = some (nuSet w) := Heap.get?_push_size _ rfl
    have tyS : Shared.TypeIs { s with heap := s.heap.push (nuSet w) } (.ref s.heap.objs.size) "set" := ⟨_, atS, rfl⟩
    have k6 := F.called_set.init.lookup; have k7 := F.called_set.init.bind (.ref s.heap.objs.size)
    repeat (any_goals (first | assumption | wp_step))
    refine codeAny_mono (codeAny_call_builtin (R := wants (fun r s₂ => r = .none ∧ ∃ g tk c, s₂ = { s with heap := g, toks := tk } ∧ SetR w g s.heap.objs.size (fun j => decide (j ∈ zs)) c ∧ c ≤ zs.length ∧ (∀ b o, s.heap.get? b = some o → g.get? b = some o)) E)
      F.called_set.init.plain F.entry_set_init (check_set_init_1 tyS ?go)) fun r₂ s₂ hr₂ => ?back
    case go =>
      obtain ⟨⟨oc, od, oda, osl⟩, ol, cl, nl, dl⟩ := isl
      simp only at cl dl
      subst cl; subst dl
      have ol1 : (s.heap.push (nuSet w)).get? l = some { cls := .type "list", dict := od, data := .seq arr nl, slots := osl } := Heap.get?_push_of_some _ ol
      have k8 := F.sub_list_set; have k9 := F.sub_list_frozenset
      have k10 : (Value.type "list" == Value.type "dict") = false := by decide
      have is1 : (s.heap.push (nuSet w)).IsList l arr := ⟨_, ol1, rfl, nl, rfl⟩
      unfold Builtin.«set.__init__» noKeywords Builtin.Frozenset.updateFrom
      generalize epi : pyIter = pit
      wp_walk
      subst epi
      have lt : l < s.heap.objs.size := Heap.lt_size ol
      have sz1 : (s.heap.push (nuSet w)).objs.size = s.heap.objs.size + 1 := Heap.size_push ..
      have nI : l ≠ (s.heap.push (nuSet w)).objs.size := by rw [sz1]; exact Nat.ne_of_lt (Nat.lt_succ_of_lt lt)
      have nS : s.heap.objs.size ∉ [(s.heap.push (nuSet w)).objs.size, l] := fun z => by
        rcases List.mem_cons.mp z with z | z
        · rw [sz1] at z
          exact absurd z (Nat.ne_of_lt (Nat.lt_succ_self _))
        · exact absurd (List.mem_singleton.mp z) (Nat.ne_of_gt lt)
      have vals : ∀ (i : Nat) (v : Value), arr[i]? = some v → ∃ k t, zs[i]? = some k ∧ v = .int k t := fun i v hv => by
        have hi : i < zs.length := by rw [← asz]; exact (Array.getElem?_eq_some_iff.mp hv).1
        obtain ⟨t, e⟩ := IntsAre.int_at hz i v (by rw [Array.getElem?_toList]; exact hv)
        exact ⟨zs[i], t, List.getElem?_eq_getElem hi, by rw [e, List.getD_eq_getElem?_getD, List.getElem?_eq_getElem hi] <;> rfl⟩
      refine wpAny_pyIter_list is1 (wpAny_bind (wpAny_runValue ?_))
      refine set_update_ints ((Walks.list (by simp [calm]) _ l nI arr).toS) s.heap.objs.size nS zs asz few vals (arr.size - 0) 0 _ (by omega) (Nat.zero_le _) ⟨⟨_, Heap.get?_push_size _ rfl, rfl, rfl⟩, (is1.push _)⟩ ⟨0, Nat.le_refl 0, setR_new_at (Heap.get?_push_of_some _ atS)⟩ ?_
      intro s' c' mv hc' hS'
      obtain ⟨g, g2, d', tk', os'⟩ := s'
      have eg : g2 = s.gens := mv.gens
      have ed : d' = s.drawn := mv.drawn
      have eo : os' = s.os := mv.os
      subst eg; subst ed; subst eo
      rw [asz] at hc'
      refine wpAny_pure (show wpAny _ _ (ret Value.none) _ _ _ from wpAny_pure ⟨rfl, g, tk', c', rfl, hS', hc', fun b o e => ?_⟩)
      have hb0 : b < s.heap.objs.size := Heap.lt_size e
      refine mv.heap b o (fun z => ?_) (Heap.get?_push_of_some _ (Heap.get?_push_of_some _ e))
      rcases List.mem_cons.mp z with z | z
      · exact absurd z (Nat.ne_of_lt hb0)
      · have z := List.mem_singleton.mp z
        rw [sz1] at z
        exact absurd z (Nat.ne_of_lt (Nat.lt_succ_of_lt hb0))
    case back =>
      match r₂, hr₂ with
      | .error e, hr₂ => exact hr₂
      | .ok .next, hr₂ => exact hr₂.elim
      | .ok .brk, hr₂ => exact hr₂.elim
      | .ok .cont, hr₂ => exact hr₂.elim
      | .ok (.ret r), hr₂ =>
        obtain ⟨rfl, g, tk, c', rfl, hS', hc', hk'⟩ := hr₂
        repeat (any_goals (first | assumption | wp_step))
        exact fin _ _ _ hS' hc' hk'
end
def rSetOfL (K : PySem.W.Frag) (w : World) : List V → Hp → VK → Prop := fun xs H Q => ∃ (l : Addr) (zs : List Int), xs = [V.ref l] ∧ SqL K H l (zs.map V.int) ∧ zs.length ≤ 1000 ∧
  ∀ (a : Addr) (c : Nat), H a = none → c ≤ zs.length → Q (.ref a) (upd H a (SetO w a (fun j => decide (j ∈ zs)) c))
theorem cr_setL {X : Cx} (hc : X.calm = true) : CallR X (.type "set") (rSetOfL X.K X.w) := by
  intro pins s σ H xs us Q I r h
  obtain ⟨l, zs, rfl, hq, hl, q⟩ := h
  rw [Vals.ref1 r]
  obtain ⟨its, rv, pl, hz⟩ := I.list hq
  refine set_of_ints zs (I.ok.hd hc) pl.isList (show IntsAre its.toArray.toList zs from ints_of_vals rv) (by unfold scanBound; omega) fun g tk c R hcn kp => ?_
  have hn : H s.heap.objs.size = none := I.hok.fresh (Nat.le_refl _)
  exact ⟨.ref s.heap.objs.size, _, I.laid (t' := tk) kp (Nat.le_refl _) (setO_new R), rfl, q _ c hn hcn⟩
end LT

set_option Elab.async false
set_option linter.all false
set_option maxRecDepth 100000
namespace LT
open PySem PySem.Spec PyProof.Rows L2 LamX
/-- a list or a tuple -/
def Sq2 (K : PySem.W.Frag) (H : Hp) (a : Addr) (xs : List V) : Prop := SqL K H a xs ∨ SqT K H a xs
def Still (K : PySem.W.Frag) (H1 : Hp) (a : Addr) (xs : List V) (H : Hp) : Prop := (SqL K H1 a xs → SqL K H a xs) ∧ (SqT K H1 a xs → SqT K H a xs)
theorem Still.of {K : PySem.W.Frag} {H1 H : Hp} {a : Addr} {xs : List V} (e : ExtN H1 H) : Still K H1 a xs H := ⟨extN_seqL e, extN_seqT e⟩
theorem Sq2.ext {K : PySem.W.Frag} {H1 H : Hp} {a : Addr} {xs : List V} (h : Sq2 K H1 a xs) (e : ExtN H1 H) : Sq2 K H a xs := h.imp (extN_seqL e) (extN_seqT e)
theorem extN_same {H H' : Hp} (s : Same H H') : ExtN H H' := ExtN.of s
def iSeq (K : PySem.W.Frag) (tl : TE) : TI := fun σ H R => tl σ H fun x H1 => ∃ (a : Addr) (xs : List V), x = .ref a ∧ Sq2 K H1 a xs ∧ ∀ J, Walk J xs.length (Still K H1 a xs) (YAt xs) → R J H1
section
variable {X : Cx} {tg : Expr}
/-- for .. in l, l a list or a tuple -/
theorem pi_seq {l : Expr} {tl : TE} (hl : PE X l tl) : PI X tg l (iSeq X.K tl) := by
  refine ⟨fun pins s σ H R I h => thn (hl.run pins s σ H _ I h) fun v s1 ⟨x, H1, I1, r1, a, xs, e, hq, q⟩ => ?_⟩
  subst e
  cases r1
  have nu : FpOk X pins H1 s1.heap.objs.size := I1.fpOk (Nat.le_refl _) (I1.hok.fresh (Nat.le_refl _))
  have one : ∀ b ∈ [s1.heap.objs.size], FpOk X pins H1 b := fun b hb => by rw [List.mem_singleton.mp hb]; exact nu
  rcases hq with hq | hq
  · obtain ⟨its, rv, p, hz⟩ := I1.list hq
    exact wpAny_pyIter_list p.isList ⟨_, [s1.heap.objs.size], _, _, H1, rfl, I1.kept (t' := s1.toks) (fun b o e => Heap.get?_push_of_some _ e), turn_list a _, ⟨_, Heap.get?_push_size _ rfl, rfl, rfl⟩, one, q _ (walk_list.mono (fun _ z => z.1 hq) fun _ _ _ _ _ _ y => y)⟩
  · obtain ⟨its, rv, p, hz⟩ := I1.tuple hq
    exact wpAny_pyIter_tuple (show s1.heap.IsTuple a its.toArray from p) ⟨_, [s1.heap.objs.size], _, _, H1, rfl, I1.kept (t' := s1.toks) (fun b o e => Heap.get?_push_of_some _ e), turn_tuple a _, ⟨_, Heap.get?_push_size _ rfl, rfl, rfl⟩, one, q _ (walk_tup.mono (fun _ z => z.2 hq) fun _ _ _ _ _ _ y => y)⟩
/-- a number or None -/
def enc : Option Int → V
  | none => .non
  | some j => .int j
def shO : Option Int → Str
  | none => "None"
  | some j => toString j
theorem call_reprO : CallR X (.builtin "repr") (fun xs H Q => ∃ o : Option Int, xs = [enc o] ∧ (∀ i, o = some i → i.natAbs.log2 < 1920) ∧ Q (.str (shO o)) H) := by
  intro pins s σ H xs us Q I r h
  obtain ⟨o, rfl, hz, q⟩ := h
  obtain ⟨u, rfl, ru⟩ := vals1 r
  cases o with
  | none =>
    obtain rfl : u = .none := ru
    exact PySem.P.repr_of_none ⟨.str _, H, I.tok _, ⟨_, rfl⟩, q⟩
  | some i =>
    obtain ⟨t, rfl⟩ : ∃ t, u = .int i t := ru
    exact PySem.P.repr_of_int (hz i rfl) ⟨.str _, H, I.tok _, ⟨_, rfl⟩, q⟩
end
end LT

set_option Elab.async false
set_option linter.all false
set_option maxRecDepth 100000
set_option maxHeartbeats 1600000
namespace LT
open PySem PySem.Spec PyProof.Rows L2
section
variable {prog : Program} {w : World} {A : Around} {E : Value → Shared → Prop} {s : Shared}
/-- two lists that are not of one length -/
theorem ne_lens {Q : Value → Shared → Prop} {l b : Addr} {items items2 : Array Value} {n n2 : Nat} (hu : A.units < cLine) (ho : s.heap.get? l = some { cls := .type "list", data := .seq items n }) (ho2 : s.heap.get? b = some { cls := .type "list", data := .seq items2 n2 }) (hd : items.size ≠ items2.size)
    (h : Q (.bool true) s) : wpAny (model prog w) A (richCompare .NotEq (.ref l) (.ref b)) Q E s := by
  refine wpAny_richCompare_same_room (op := .NotEq) ⟨_, ho, rfl⟩ ⟨_, ho2, rfl⟩ PySem.F.slot_list_ne (GQ.call_here PySem.F.slot_list_ne ⟨_, ho, rfl⟩ PySem.F.entry_list_ne (PySem.F.args_list_ne_2 _ _) ?_) hu
  have f3 := AutoSeq1.sub_list_list
  have hne : (items.size != items2.size) = true := by simpa using hd
  obtain ⟨hp, g, d, tk, os⟩ := s
  wp_walk using wpAny_loadPart' ho, wpAny_loadPart' ho2
  exact ⟨(fun z => nomatch z), h⟩
end
def rNeNil (K : PySem.W.Frag) : R2 := fun x y H Q => ∃ (l k : Addr) (xs : List V), x = .ref l ∧ y = .ref k ∧ H l = some (.lst xs) ∧ H k = some (.lst []) ∧ Q (.bl (!xs.isEmpty)) H
/-- xs != [] -/
theorem op_neNil {X : Cx} (hu : X.A.units + 64 < cLine) : OpR X (compareOp .NotEq) (rNeNil X.K) := by
  intro pins s σ H x y v u Q I rx ry h
  obtain ⟨l, k, xs, rfl, rfl, hl, hk, q⟩ := h
  cases xs with
  | nil => exact op_neD hu pins s σ H _ _ v u Q I rx ry ⟨.list [], .list [], .lst (SqL.of hl) .nil, .lst (SqL.of hk) .nil, by decide +kernel, by decide +kernel, by
      rw [show PyData.eqv (.list []) (.list []) = true by decide +kernel]
      exact q⟩
  | cons x xs =>
    cases rx
    cases ry
    obtain ⟨_, its, n, rv, ho⟩ := (show ObjOk X.prog X.w H s.heap l (.lst (x :: xs)) from I.hok l _ hl)
    obtain ⟨_, its2, n2, rv2, ho2⟩ := (show ObjOk X.prog X.w H s.heap k (.lst []) from I.hok k _ hk)
    cases rv2
    refine ne_lens (by omega) ho ho2 ?_ ⟨.bl true, H, I, rfl, q⟩
    have := rv.length
    rw [List.length_cons] at this
    show its.toArray.size ≠ 0
    rw [List.size_toArray]
    omega
end LT

set_option Elab.async false
set_option linter.all false
set_option maxRecDepth 100000
set_option maxHeartbeats 1600000
namespace LT
open PySem PySem.Spec PyProof.Rows L2
section
variable {P : Program} {w : World} {A : Around} {E : Value → Shared → Prop} {s : Shared} {a : Addr}
/-- sorted(set), of however many -/
theorem sorted_setA {S : Int → Bool} {n : Nat} {Q : Value → Shared → Prop} (R : SetR w s.heap a S n) (calm : A.handled = none) (few : n ≤ 100000)
    (fin : ∀ (t : Shared) (p : Addr) (out : Array Value) (c : Nat) (ns : List Int), (∀ b o, s.heap.get? b = some o → t.heap.get? b = some o) → t.gens = s.gens → t.os = s.os → s.heap.objs.size ≤ p →
      t.heap.get? p = some (seqObj "list" out c) → IntsAre out.toList ns → ns.Pairwise (· < ·) → (∀ k, k ∈ ns ↔ S k = true) → ns.length = n → Q (.ref p) t) :
    wpAny (model P w) A (call (.builtin "sorted") [.ref a]) Q E s := by
  obtain ⟨ob, es, ep, tt, e1, e2, e3, each, dist, mem, hb, hf, cnt, hr, hl⟩ := R
  refine Calls.call_function_entry kind_sorted plain_sorted entry_sorted (args_sorted1 _) ?_
  unfold Builtin.«sorted»
  refine wpAny_bind (m := checkCount "sorted" 1 1 _) (wpAny_pure ?_)
  refine wpAny_bind (collect_set (A := A.in1) calm ⟨ob, e1, e2.1, e3⟩ hf hb hr hl fun u vs keep big gens os perm => ?_)
  have size : vs.length = n := by
    rw [perm.length_eq, List.length_map, Array.length_toList]
    exact cnt
  have inn : IntsAre vs (vs.map Builtin.Re.reRawOf) := ints_of vs fun v hv => by
    obtain ⟨y, hy, z⟩ := List.mem_map.mp (perm.mem_iff.mp hv)
    obtain ⟨k, tk, h1, _⟩ := each y hy
    exact ⟨k, tk, z ▸ h1⟩
  have keys : (vs.map Builtin.Re.reRawOf).Perm (es.toList.map keyOf) := by
    have z := perm.map Builtin.Re.reRawOf
    rwa [List.map_map] at z
  have fits : vs.length ≤ sizeLine := by
    rw [size, sizeLine_eq]
    omega
  refine wpAny_bind (wpAny_newList ?_ fits)
  have at_ : (u.heap.push (seqObj "list" vs.toArray 0)).get? u.heap.objs.size = some (seqObj "list" vs.toArray 0) := Heap.get?_push_size _ rfl
  refine wpAny_bind (wpAny_holding (wpAny_call_entry slot_list_sort ⟨_, at_, rfl⟩ entry_list_sort (list_sort_treeAny at_ inn fits fun out ms i1 i2 i3 => ⟨_, rfl, ?_⟩) (args_list_sort _)))
  obtain ⟨c, hc⟩ := sortedHeap_at (vs := vs) (out := out) at_
  have p2 : ms.Perm (es.toList.map keyOf) := i2.trans keys
  refine wpAny_pure ⟨_, rfl, fin _ u.heap.objs.size out c ms (fun b o e => ?_) gens os big hc i1 (lt_of_le_nodup ms i3 (p2.nodup_iff.mpr dist)) (fun k => ?_) ?_⟩
  · have z := keep b o e
    have lt := Heap.lt_size z
    show (sortedHeap (u.heap.push (seqObj "list" vs.toArray 0)) u.heap.objs.size vs out).get? b = some o
    rw [sortedHeap_old (Nat.ne_of_lt lt) (by rw [size_push']; exact Nat.lt_succ_of_lt lt)]
    exact Heap.get?_push_of_some _ z
  · rw [p2.mem_iff, ← mem k]
  · rw [p2.length_eq, List.length_map, Array.length_toList]
    exact cnt
end
def rSortedSetA (w : World) : List V → Hp → VK → Prop := fun vs H Q => ∃ (a : Addr) (S : Int → Bool) (n : Nat), vs = [V.ref a] ∧ H a = some (SetO w a S n) ∧ n ≤ 100000 ∧
  ∀ (ns : List Int) (p : Addr), ns.Pairwise (· < ·) → (∀ k : Int, k ∈ ns ↔ S k = true) → ns.length = n → H p = none → Q (.ref p) (upd H p (.lst (ns.map V.int)))
theorem cr_sortedSetA {X : Cx} (hc : X.calm = true) : CallR X (.builtin "sorted") (rSortedSetA X.w) := by
  intro pins s σ H vs us Q I r h
  obtain ⟨a, S, n, rfl, ha, few, q⟩ := h
  rw [Vals.ref1 r]
  refine sorted_setA (setO_get I ha) (I.ok.hd hc) few fun t p out c ns keep gens os big at_ inn rise mem size => ?_
  have short : (ns.map V.int).length ≤ sizeLine := by
    rw [List.length_map, size, sizeLine_eq]
    omega
  have new : H p = none := I.hok.fresh big
  have J : Inv X pins σ (upd H p (.lst (ns.map V.int))) { s with heap := t.heap, gens := t.gens, drawn := t.drawn, toks := t.toks } :=
    I.call (ch := []) (Un.laid keep big new) (I.hok.laid keep big ⟨short, out.toList, c, vals_of_ints inn, at_⟩) (by rw [gens]; exact I.bare) (fun _ z => nomatch z)
  have e : t = { s with heap := t.heap, gens := t.gens, drawn := t.drawn, toks := t.toks } := by
    obtain ⟨th, tg, td, tt, to⟩ := t
    obtain ⟨sh, sg, sd, st, so⟩ := s
    cases os
    rfl
  rw [e]
  exact ⟨.ref p, _, J, rfl, q ns p rise mem size new⟩
end LT

set_option Elab.async false
set_option linter.all false
set_option maxRecDepth 100000
namespace LT
open PySem PySem.Spec PyProof.Rows L2
/-! ### rows of days as data, and how they are shown -/
def endD : Option Int → PyData
  | none => .none
  | some j => .int j
def rowD (r : LD.Row) : PyData := .tuple [.int r.1, endD r.2]
theorem rowsD_lay : ∀ rs : List LD.Row, PyData.canLayAll0 (rs.map rowD) = true
  | [] => by simp [PyData.canLayAll0]
  | (a, x) :: rs => by
    have := rowsD_lay rs
    cases x <;> simp [PyData.canLayAll0, rowD, endD, PyData.canLay0, this]
theorem rowsD_depth : ∀ rs : List LD.Row, PyData.depthAll (rs.map rowD) ≤ 2
  | [] => by simp [PyData.depthAll]
  | (a, x) :: rs => by
    have h1 := rowsD_depth rs
    have h2 : (rowD (a, x)).depth ≤ 2 := by cases x <;> simp [rowD, endD, PyData.depth, PyData.depthAll]
    simp only [List.map_cons, PyData.depthAll]
    omega
theorem rowsD_canL (rs : List LD.Row) : PyData.canLay0 (.list (rs.map rowD)) = true := by
  simp only [PyData.canLay0]
  exact rowsD_lay rs
theorem rowsD_deep (rs : List LD.Row) : PyData.depth (.list (rs.map rowD)) ≤ 60 := by
  have h1 := rowsD_depth rs
  simp only [PyData.depth]
  omega
theorem rowsD_shaped (rs : List LD.Row) : SeqAt.shaped (.list (rs.map rowD)) = true := by
  have h2 := rowsD_deep rs
  show (PyData.canLay0 (.list (rs.map rowD)) && decide (PyData.depth (.list (rs.map rowD)) ≤ 64)) = true
  rw [Bool.and_eq_true]
  exact ⟨rowsD_canL rs, decide_eq_true (by omega)⟩
/-- days of at most sixty-two figures -/
structure Sm (r : LD.Row) : Prop where
  a : r.1.natAbs ≤ 10 ^ 62
  b : ∀ j, r.2 = some j → j.natAbs ≤ 10 ^ 62
theorem int_log {i : Int} (h : i.natAbs ≤ 10 ^ 62) : i.natAbs.log2 < 207 := by
  by_cases h0 : i.natAbs = 0
  · rw [h0]
    decide
  · rw [Nat.log2_lt h0]
    exact Nat.lt_of_le_of_lt h (by decide)
theorem int_leaf {i : Int} (h : i.natAbs ≤ 10 ^ 62) : PyData.leavesShort 64 (.int i) = true := by
  have h1 := int_text_length_le10 (a := i) (k := 63) (by decide) (Nat.lt_of_le_of_lt h (by decide))
  have e : (PyData.shown (.int i)).length = (toString i).length := PySem.ofString_length _
  show decide ((PyData.shown (.int i)).length ≤ 64) = true
  exact decide_eq_true (by omega)
theorem int_weight {i : Int} (h : i.natAbs ≤ 10 ^ 62) : PyData.weight (.int i) ≤ 207 := by
  have := int_log h
  show (if i == 0 then 0 else i.natAbs.log2 + 1) ≤ 207
  split <;> omega
theorem end_leaf {o : Option Int} (h : ∀ j, o = some j → j.natAbs ≤ 10 ^ 62) : PyData.leavesShort 64 (endD o) = true := by
  cases o with
  | none => rfl
  | some j => exact int_leaf (h j rfl)
theorem end_weight {o : Option Int} (h : ∀ j, o = some j → j.natAbs ≤ 10 ^ 62) : PyData.weight (endD o) ≤ 207 := by
  cases o with
  | none => exact Nat.zero_le _
  | some j => exact int_weight (h j rfl)
theorem rows_leaf : ∀ rs : List LD.Row, (∀ r ∈ rs, Sm r) → PyData.leavesShortAll 64 (rs.map rowD) = true
  | [], _ => by simp [PyData.leavesShortAll]
  | r :: rs, h => by
    have h1 := rows_leaf rs fun u hu => h u (.tail _ hu)
    have h2 := h r (.head _)
    have h3 := int_leaf h2.a
    have h4 := end_leaf h2.b
    simp [PyData.leavesShortAll, rowD, PyData.leavesShort, h1, h4] at h3 ⊢
    exact h3
theorem rows_weight : ∀ rs : List LD.Row, (∀ r ∈ rs, Sm r) → PyData.weightAll (rs.map rowD) ≤ 420 * rs.length
  | [], _ => by simp [PyData.weightAll]
  | r :: rs, h => by
    have h1 := rows_weight rs fun u hu => h u (.tail _ hu)
    have h2 := h r (.head _)
    have h3 := int_weight h2.a
    have h4 := end_weight h2.b
    have e : PyData.weight (rowD r) = PyData.weight (.int r.1) + 1 + (PyData.weight (endD r.2) + 1 + 0) := by
      simp only [rowD, PyData.weight, PyData.weightAll]
    rw [List.map_cons, List.length_cons]
    show PyData.weight (rowD r) + 1 + PyData.weightAll (rs.map rowD) ≤ _
    omega
theorem rows_fit (rs : List LD.Row) (h : ∀ r ∈ rs, Sm r) (hl : rs.length ≤ 500) : (PyData.list (rs.map rowD)).shown.length ≤ sizeLine := by
  have h1 := PyData.shown_le 64 (by decide) (.list (rs.map rowD)) (by simpa only [PyData.leavesShort] using rows_leaf rs h)
  have h2 := rows_weight rs h
  have e : PyData.weight (.list (rs.map rowD)) = PyData.weightAll (rs.map rowD) := by simp only [PyData.weight]
  rw [e] at h1
  rw [sizeLine_eq]
  omega
theorem rows_showable : ∀ rs : List LD.Row, (∀ r ∈ rs, Sm r) → PyData.showableAll (rs.map rowD) = true
  | [], _ => by simp [PyData.showableAll]
  | (a, x) :: rs, h => by
    have h1 := rows_showable rs fun u hu => h u (.tail _ hu)
    have h2 := h (a, x) (.head _)
    have h5 : a.natAbs.log2 < 1920 := by
      have : a.natAbs.log2 < 207 := int_log h2.a
      omega
    cases x with
    | none => simp [PyData.showableAll, rowD, endD, PyData.showable, h1, h5]
    | some j =>
      have h4 := int_log (h2.b j rfl)
      have h6 : j.natAbs.log2 < 1920 := by omega
      simp [PyData.showableAll, rowD, endD, PyData.showable, h1, h5, h6]
theorem rows_noDict (rs : List LD.Row) : (PyData.list (rs.map rowD)).hasDict = false := PyData.hasDict_of_canLay _ (rowsD_canL rs)
theorem endD_dp {K : PySem.W.Frag} {H : Hp} (o : Option Int) : Dp K H (enc o) (endD o) := by
  cases o with
  | none => exact .non
  | some j => exact .int j
/-- the text of rows -/
def shRows (rs : List LD.Row) : Str := (PyData.list (rs.map rowD)).shown
def rReprRows (K : PySem.W.Frag) : List V → Hp → VK → Prop := fun xs H Q => ∃ (v : V) (rs : List LD.Row), xs = [v] ∧ Dp K H v (.list (rs.map rowD)) ∧ (∀ r ∈ rs, Sm r) ∧ rs.length ≤ 500 ∧ Q (.str (shRows rs)) H
theorem call_reprRows {X : Cx} (hG : X.A.guards = some []) (hu : X.A.units + 64 < cLine) : CallR X (.builtin "repr") (rReprRows X.K) := by
  intro pins s σ H xs us Q I r h
  obtain ⟨v, rs, rfl, hd, hs, hl, q⟩ := h
  exact call_reprSh hG hu pins s σ H _ us Q I r ⟨v, _, rfl, .dp hd (rows_noDict rs), by simpa only [PyData.showable] using rows_showable rs hs, rowsD_deep rs, rows_fit rs hs hl, q⟩
end LT

set_option Elab.async false
set_option linter.all false
set_option maxRecDepth 100000
set_option maxHeartbeats 1600000
namespace LT
open PySem PySem.Spec PyProof.Rows L2 LamX
/-! ### defs whose code object is known -/
structure FunC (K : PySem.W.Frag) (x qual : Str) (st : Stmt) (f c : Addr) (fd : FuncData) : Prop where
  ex : ∃ (oc : Value) (od : Option Addr) (kV doc pm : Value) (an : Option Addr) (ct : Value) (osl : Array (Option Value)),
    fd = PySem.W.fnOf x qual (defArgs st) (defBody st) (defScope st) .none kV doc pm an (.ref c) ct ∧ K.lookup f = some ⟨oc, od, .func fd, osl⟩ ∧ PySem.W.codeIn K (.ref c) qual = true
  kp : PySem.W.keepIn K (.ref f) = true
theorem FunC.fn {K : PySem.W.Frag} {x qual : Str} {st : Stmt} {f c : Addr} {fd : FuncData} (F : FunC K x qual st f c fd) : Fun K x qual st f fd := by
  obtain ⟨oc, od, kV, doc, pm, an, ct, osl, e, l, h⟩ := F.ex
  exact ⟨⟨oc, od, kV, doc, pm, an, .ref c, ct, osl, e, l, h⟩, F.kp⟩
section
variable {P : Program} {w : World} {K : PySem.W.Frag} {mg : Str → Option Value} {base : Heap}
theorem FunC.ok {x qual : Str} {st : Stmt} {f c : Addr} {fd : FuncData} {N ps : List Str} {k : Nat} {sp : Sp} (F : FunC K x qual st f c fd) (S : FnScope N ps (defScope st)) (len : ∀ vs H Q E, sp vs H Q E → vs.length = ps.length)
    (body : ∀ (A : Around) (outer : List Env) (s : Shared) (H : Hp) (vs : List V) (Q : VK) (E : XK), Room k (A.deeper (envOfC qual (defScope st) s.heap.objs.size f (.ref c))) → sp vs H Q E →
      ∃ t, PSs (cxOf CX0 P w K mg base N qual (defScope st) f (.ref c) A outer s H E).nox (defBody st) t ∧ t { nx := fun _ H' => Q .non H', rt := Q } (start N vs) H) : FnOk P w K mg base CX0 (k + 1) f fd ps sp := by
  obtain ⟨oc, od, kV, doc, pm, an, ct, osl, rfl, lk, hcd⟩ := F.ex
  refine fn_of lk hcd S len fun A outer s H vs Q E hr hsp => ?_
  obtain ⟨t, h, q⟩ := body A outer s H vs Q E hr hsp
  exact ⟨t, h.nox, q⟩
/-- the same where no repr is under way -/
theorem FunC.okG {x qual : Str} {st : Stmt} {f c : Addr} {fd : FuncData} {N ps : List Str} {k : Nat} {sp : Sp}
    (F : FunC K x qual st f c fd) (S : FnScope N ps (defScope st))
    (argc : ∀ {vs : List V} {H : Hp} {Q : VK} {E : XK}, sp vs H Q E → vs.length = ps.length)
    (body : ∀ (A : Around) (outer : List Env) (s : Shared) (H : Hp) (vs : List V) (Q : VK) (E : XK),
      A.guards = some [] → Room k (A.deeper (envOfC qual (defScope st) s.heap.objs.size f (.ref c))) → sp vs H Q E →
      ∃ t, PSs (cxOf CX0 P w K mg base N qual (defScope st) f (.ref c) A outer s H E).nox (defBody st) t ∧
        t { nx := fun _ H' => Q .non H', rt := Q } (start N vs) H) :
    FnG P w K mg base CX0 (k + 1) f fd ps sp := by
  obtain ⟨oc, od, kV, doc, pm, an, ct, osl, rfl, lk, hcd⟩ := F.ex
  refine ⟨argc, ?_⟩
  intro A outer s H args us vs Q E hg hr e0 hb r hsp
  have inS : ∀ b o, base.get? b = some o → s.heap.get? b = some o := fun b o e => (e0.bs b o e).1
  have KX : K.In s.heap := e0.mod.kin.keeps inS
  have hkind : ∀ y ∈ ps.zip us, (defScope st).names.lookup y.1 = some .local ∨
      ((defScope st).names.lookup y.1 = some .cell ∧
        ((cellsFrom (s.heap.objs.size + 1) (defScope st).names []).lookup y.1).isSome = true) := by
    rintro ⟨n, v⟩ hy
    rcases S.par n (List.of_mem_zip hy).1 with q | q
    · exact Or.inl q
    · exact Or.inr ⟨q, PySem.W.cellsFrom_some _ _ _ (Or.inl q)⟩
  refine codeAny_call_function hr.depth (KX _ _ lk) rfl S.co S.gen rfl (PySem.W.codeRec_of KX hcd)
    (hb _ _ _ _ (wpAny_newFunctionEnv_cells S.kind hkind fun env he s1 x => ?_))
  subst he
  refine ⟨(e0.mod.nolimit.keeps inS).keeps x.toInCall.keep, codeAny_func ?_⟩
  obtain ⟨t, ht, hq⟩ := body A outer s H vs Q E hg (hr.deeper _) hsp
  have I := inv_start (CX := CX0) (N := N) (qual := qual) (f := f) (cd := .ref c) (E := E) S hr.hd e0 (argc hsp) r x
  refine wpAny_mono (ht.nox.run [] s1 (start N vs) H _ I hq) (fun fl s' hs => ?_) (fun e s' hs => hs)
  cases fl with
  | brk => obtain ⟨_, _, _, q⟩ := hs; exact q.elim
  | cont => obtain ⟨_, _, _, q⟩ := hs; exact q.elim
  | next =>
    obtain ⟨σ', H', J, q⟩ := hs
    exact ⟨V.non, H', J.os, J.bare, J.base, J.hok, rfl, q⟩
  | ret u =>
    obtain ⟨v, σ', H', J, rv, q⟩ := hs
    exact ⟨v, H', J.os, J.bare, J.base, J.hok, rv, q⟩
end
/-! ### the end of a law whose defs make lambdas and show things -/
theorem end_tab {P : Program} {w : World} {K : PySem.W.Frag} {mg mb : Str → Option Value} {CX : CXT} {k : Nat} {fa a : Addr} {cs : List (Addr × Addr)}
    {fd : FuncData} {x : Str} {sp : Sp} {s₁ : Shared} {vs : List Value} {ns : List Int}
    (KX : K.In s₁.heap) (hns : s₁.heap.Ns mainGlobals mg) (hb : s₁.heap.Ns builtinsNs mb)
    (hbb : ∀ x : Str, x ≠ "__name__" → mb x = bootBuiltins x) (hlim : s₁.heap.NoLimit) (hg : s₁.gens = #[])
    (tab : ∀ p ∈ cs, s₁.heap.get? p.2 = some { cls := .none, data := .fields #[] }) (out : ∀ p ∈ cs, K.lookup p.2 = none) (code : ∀ p ∈ cs, PySem.W.CodeHd s₁.heap p.1 p.2)
    (bmain : ∃ (bm : Addr) (ob : Obj), mg "__builtins__" = some (.ref bm) ∧ bm ≠ builtinsNs ∧ s₁.heap.get? bm = some ob ∧ ob.cls = .type "module" ∧ ob.dict = some builtinsNs ∧ ob.data = .plain)
    (ha : s₁.heap.get? a = some { cls := .type "list", data := .seq vs.toArray }) (hi : IntsAre vs ns)
    (hl : ns.length ≤ sizeLine) (hr : Room k callerA)
    (F : ∀ base : Heap, K.In base → base.Ns mainGlobals mg → (∀ p ∈ cs, TabB base mg p.1 p.2) → FnG P w K mg base CX k fa fd [x] sp)
    (hbind : ∀ (s : Shared) (u : Value), BindsTo s fd ⟨[u], []⟩ [(x, u)])
    (hsp : ∀ H : Hp, (∀ p ∈ cs, H p.2 = some (.tbl #[])) → SqL K H a (ns.map V.int) → sp [.ref a] H (fun v _ => v = .bl true) fun _ _ _ => False)
    (hCX : ∀ H e s', CX [] H s₁ (fun _ _ _ => False) e s' → False) :
    codeAny (model P w) callerA (.call (.ref fa) ⟨[.ref a], []⟩)
      (fun r s' => r = .ok (.ret (.bool true)) ∧ OldK s₁.heap s'.heap ∧ s'.os = s₁.os ∧ AllBare s'.gens) s₁ := by
  have lenV := hi.length
  let ts : List Addr := cs.map (·.2)
  have tabT : ∀ b ∈ ts, s₁.heap.get? b = some { cls := .none, data := .fields #[] } := fun b hb => by
    obtain ⟨p, hp, rfl⟩ := List.mem_map.mp hb
    exact tab p hp
  have inT : ∀ p ∈ cs, p.2 ∈ ts := fun p hp => List.mem_map.mpr ⟨p, hp, rfl⟩
  have outA : a ∉ ts := fun z => by
    have y := tabT a z
    rw [ha] at y
    cases y
  have start : ∀ H : Hp, (∀ b, b ∈ ts → H b = some (.tbl #[])) → (∀ b, b ∉ ts → b ≠ a → H b = none) → (H a = none ∨ ∃ ob xs, H a = some (.frz ob (.lst xs)) ∧ K.lookup a = none) →
      SqL K H a (ns.map V.int) → HOk P w H s₁.heap → codeAny (model P w) callerA (.call (.ref fa) ⟨[.ref a], []⟩)
        (fun r s' => r = .ok (.ret (.bool true)) ∧ OldK s₁.heap s'.heap ∧ s'.os = s₁.os ∧ AllBare s'.gens) s₁ := by
    intro H isT isN isA hS hok
    have free : ∀ {b : Addr} {o : Obj}, s₁.heap.get? b = some o → (∀ ys n, o.data ≠ .seq ys n) → o.data ≠ .fields #[] → H b = none := fun {b o} e n1 n2 => by
      refine isN b (fun z => ?_) fun z => ?_
      · rw [tabT b z] at e
        cases e
        exact n2 rfl
      · rw [z, ha] at e
        cases e
        exact n1 _ _ rfl
    have nsK : ∀ {b : Addr} {m : Str → Option Value}, s₁.heap.Ns b m → (hidT s₁.heap H).Ns b m := by
      rintro b m ⟨o, es, ep, e, d, r⟩
      exact ⟨o, es, ep, hidT_get e (free e (by rw [d]; nofun) (by rw [d]; nofun)), d, r⟩
    have inK : K.In (hidT s₁.heap H) := fun b o e => hidT_get (KX b o e) (by
      by_cases q : b = a
      · rcases isA with z | ⟨_, _, _, z⟩
        · rw [q]
          exact z
        · rw [q, z] at e
          cases e
      · refine isN b (fun z => ?_) q
        obtain ⟨p, hp, rfl⟩ := List.mem_map.mp z
        rw [out p hp] at e
        cases e)
    have hM : Mod K mg (hidT s₁.heap H) := ⟨inK, nsK hns, ⟨mb, nsK hb, hbb⟩, hlim.imp fun _ z => ⟨nsK z.1, z.2⟩⟩
    have TB : ∀ p ∈ cs, TabB (hidT s₁.heap H) mg p.1 p.2 := fun p hp => by
      have at_ := tab p hp
      refine ⟨?_, ?_, fun z => ?_⟩
      · obtain ⟨o, us, fl, tf, fg, tg, inF, tx, tt, c1, c2, c3, c4, c5⟩ := code p hp
        exact ⟨o, us, fl, tf, fg, tg, inF, tx, tt, hidT_get c1 (free c1 (by rw [c3]; nofun) (by
          rw [c3]
          intro z
          cases z
          cases c4)), c2, c3, c4, c5⟩
      · obtain ⟨bm, ob, b1, b2, b3, b4, b5, b6⟩ := bmain
        refine ⟨bm, ob, b1, b2, fun z => ?_, fun z => ?_, hidT_get b3 (free b3 (by rw [b6]; nofun) (by rw [b6]; nofun)), b4, b5, b6⟩
        · obtain ⟨o, es, ep, e, d, _⟩ := hns
          rw [z, e] at b3
          cases b3
          rw [d] at b6
          cases b6
        · rw [z, at_] at b3
          cases b3
          cases b6
      · obtain ⟨o, es, ep, e, d, _⟩ := hns
        rw [z, at_] at e
        cases e
        cases d
    have e0 : Env0 P w K mg (hidT s₁.heap H) callerA [] s₁ H :=
      ⟨rfl, hM, fun b o e => of_hidT e, Nat.le_of_eq (hidT_size _ _), trivial,
        fun b z => absurd (show b ∈ ([] : List Addr) from z) List.not_mem_nil, hok, .of_eq hg⟩
    refine codeAny_mono ((F _ inK (nsK hns) TB).go (us := [.ref a]) (vs := [.ref a]) rfl hr e0 (hbind s₁ (.ref a)) (.cons rfl .nil) (hsp H (fun p hp => isT _ (inT p hp)) hS)) fun r s' h => ?_
    match r, h with
    | .error e, h => exact (hCX H e s' h).elim
    | .ok .next, h => exact h.elim
    | .ok .brk, h => exact h.elim
    | .ok .cont, h => exact h.elim
    | .ok (.ret u), h =>
      obtain ⟨v, H', os, bare, un, hok', r', rfl⟩ := h
      obtain rfl : u = Value.bool true := r'
      have old : ∀ b o, b ∉ ts → s₁.heap.get? b = some o → s'.heap.get? b = some o := fun b o nt e => by
        have plain : H b = none → s'.heap.get? b = some o := fun z => un.keep b o e z (fun y => absurd (show b ∈ ([] : List Addr) from y) List.not_mem_nil) List.not_mem_nil
        by_cases q : b = a
        · rcases isA with z | ⟨ob, xs, z, _⟩
          · exact plain (by rw [q]; exact z)
          · rw [← q] at z
            have z1 := (hok b _ z).1
            rw [e] at z1
            cases z1
            exact (hok' b _ (un.frzs b _ _ z)).1
        · exact plain (isN b nt q)
      have grew : ∀ p ∈ cs, ∃ more : Array Value, s'.heap.get? p.2 = some { cls := .none, data := .fields more } := fun p hp => by
        obtain ⟨more, z⟩ := un.tbls p.2 #[] (isT _ (inT p hp))
        exact ⟨_, hok' p.2 _ z⟩
      refine ⟨rfl, ⟨fun b o e => ?_, fun b o e => ?_⟩, os, bare⟩
      · by_cases q : b ∈ ts
        · obtain ⟨p, hp, rfl⟩ := List.mem_map.mp q
          obtain ⟨more, hm⟩ := grew p hp
          rw [tab p hp] at e
          cases e
          exact .inr (.inl ⟨((code p hp).tab (tab p hp)).isCodeTable, rfl, #[], more, rfl, by rw [Array.empty_append]; exact hm⟩)
        · exact .inl (old b o q e)
      · by_cases q : b ∈ ts
        · obtain ⟨p, hp, rfl⟩ := List.mem_map.mp q
          obtain ⟨more, hm⟩ := grew p hp
          exact ⟨_, hm⟩
        · exact ⟨o, old b o q e⟩
  let T0 : Hp := fun b => if b ∈ ts then some (.tbl #[]) else none
  have T0t : ∀ b, b ∈ ts → T0 b = some (.tbl #[]) := fun b z => if_pos z
  have T0n : ∀ b, b ∉ ts → T0 b = none := fun b z => if_neg z
  have T0ok : HOk P w T0 s₁.heap := fun b u z => by
    by_cases q : b ∈ ts
    · rw [T0t b q] at z
      cases z
      exact tabT b q
    · rw [T0n b q] at z
      cases z
  cases hk : K.lookup a with
  | some o =>
    have e := KX a o hk
    rw [ha] at e
    cases e
    refine start T0 T0t (fun b z _ => T0n b z) (.inl (T0n a outA)) (.inr ⟨_, vs.toArray, _, hk, rfl, rfl, rfl, ?_, by simpa using vals_ints hi⟩) T0ok
    rw [List.size_toArray, lenV]
    exact hl
  | none =>
    refine start (upd T0 a (.frz { cls := .type "list", data := .seq vs.toArray } (.lst (ns.map V.int)))) (fun b z => ?_) (fun b z q => ?_) (.inr ⟨_, _, upd_same, hk⟩) (.inl (.inr ⟨_, upd_same⟩)) (fun b u z => ?_)
    · rw [upd_ne (fun q : b = a => outA (by rw [← q]; exact z))]
      exact T0t b z
    · rw [upd_ne q]
      exact T0n b z
    · by_cases q : b = a
      · subst q
        rw [upd_same] at z
        cases z
        exact ⟨ha, by rw [List.length_map]; exact hl, vs, _, vals_ints hi, ha⟩
      · rw [upd_ne q] at z
        by_cases q2 : b ∈ ts
        · rw [T0t b q2] at z
          cases z
          exact tabT b q2
        · rw [T0n b q2] at z
          cases z
/-- what is known of the law's def where the top has ended -/
def LawG (l : PySem.W.OpenLaw) (w : World) (K : PySem.W.Frag) (CX : CXT) (k n : Nat) (x : Str) (mg : Str → Option Value) (fa : Addr) (h : Heap) : Prop :=
  ∃ (fd : FuncData) (cs : List (Addr × Addr)) (sp : Sp), (∀ p ∈ cs, h.get? p.2 = some { cls := .none, data := .fields #[] }) ∧ (∀ p ∈ cs, K.lookup p.2 = none) ∧
    (∀ p ∈ cs, PySem.W.CodeHd h p.1 p.2) ∧ (∀ (s : Shared) (u : Value), BindsTo s fd ⟨[u], []⟩ [(x, u)]) ∧
    (∀ (H : Hp) (a : Addr) (ns : List Int), ns.length ≤ n → (∀ p ∈ cs, H p.2 = some (.tbl #[])) → SqL K H a (ns.map V.int) → sp [.ref a] H (fun v _ => v = .bl true) fun _ _ _ => False) ∧
    ∀ base : Heap, K.In base → base.Ns mainGlobals mg → (∀ p ∈ cs, TabB base mg p.1 p.2) → FnG l.prog w K mg base CX k fa fd [x] sp
theorem end_ofG {l : PySem.W.OpenLaw} {n k : Nat} {q : Program} {loose : List Str} {XP : (Str → Option Value) → Heap → Prop}
    {YP : World → Heap → Prop} {d : DefRec} {K : Params → PySem.W.Frag} {CX : World → CXT} {x : Str}
    (hn : l.most = some n) (hn2 : n ≤ sizeLine) (hdf : d.params.defaults = []) (hr : Room k callerA)
    (hY : ∀ (w : World) (h : Heap), YP w h → (K w.params).In h)
    (F : ∀ (w : World) (mg : Str → Option Value) (fa : Addr) (h : Heap), YP w h → (K w.params).In h → h.Ns mainGlobals mg →
      mg d.name = some (.ref fa) → LawG l w (K w.params) (CX w) k n x mg fa h)
    (hCX : ∀ (w : World) (H : Hp) (s : Shared) (e : Value) (s' : Shared), CX w [] H s (fun _ _ _ => False) e s' → False) :
    PySem.W.WalkO q loose XP YP l.row.toRowW d [] (fun f vs => PySem.call f vs) :=
  Att.attach_callB hn hdf fun w _ s₁ mg mb fa o pm cd doc a vs ns G Y ho hd hcd hmg hobj hints hlen hbits hg => by
    obtain ⟨fd, cs, sp, tab, out, code, hb, hsp, hF⟩ := F w mg fa _ Y (hY w _ Y) G.T.g hmg
    exact end_tab (hY w _ Y) G.T.g G.T.b G.T.builtins G.T.nolimit hg tab out code G.T.bmain hobj hints (Nat.le_trans hlen hn2) hr hF hb
      (fun H hH hS => hsp H a ns hlen hH hS) fun H e s' => hCX w H s₁ e s'
end LT

set_option Elab.async false
set_option linter.all false
namespace LD
/-! ### days of both, days of none, by rows that rise -/
def Gap (r s : Row) : Prop := ∃ j, r.2 = some j ∧ j + 1 < s.1
structure Asc (L : List Row) : Prop where
  ok : ∀ r ∈ L, Ok r
  pw : L.Pairwise Gap
theorem can_iff : ∀ {L : List Row}, Can L ↔ (∀ r ∈ L, Ok r) ∧ L.Pairwise (fun r s => Gap s r)
  | [] => ⟨fun _ => ⟨nofun, .nil⟩, fun _ => trivial⟩
  | r :: t => by
    constructor
    · intro h
      exact ⟨h.ok, List.pairwise_cons.mpr ⟨fun s hs => h.under s hs, (can_iff.mp h.tail).2⟩⟩
    · rintro ⟨h1, h2⟩
      obtain ⟨g1, g2⟩ := List.pairwise_cons.mp h2
      have ht : Can t := can_iff.mpr ⟨fun s hs => h1 s (.tail _ hs), g2⟩
      cases t with
      | nil => exact h1 r (.head _)
      | cons s t => exact ⟨h1 r (.head _), g1 s (.head _), ht⟩
theorem asc_of {L : List Row} (h : Can L) : Asc L.reverse := ⟨fun r hr => h.ok r (List.mem_reverse.mp hr), List.pairwise_reverse.mpr (can_iff.mp h).2⟩
theorem can_of {L : List Row} (h : Asc L) : Can L.reverse := can_iff.mpr ⟨fun r hr => h.ok r (List.mem_reverse.mp hr), List.pairwise_reverse.mpr h.pw⟩
theorem ins_rev {L : List Row} {d : Int} : Ins L.reverse d ↔ Ins L d := ⟨fun ⟨r, hr, z⟩ => ⟨r, List.mem_reverse.mp hr, z⟩, fun ⟨r, hr, z⟩ => ⟨r, List.mem_reverse.mpr hr, z⟩⟩
theorem asc_uniq {L L' : List Row} (h : Asc L) (h' : Asc L') (e : ∀ d, Ins L d ↔ Ins L' d) : L = L' := by
  have := uniq (can_of h) (can_of h') fun d => by rw [ins_rev, ins_rev, e]
  rw [← List.reverse_reverse L, this, List.reverse_reverse]
theorem Asc.tail {r : Row} {t : List Row} (h : Asc (r :: t)) : Asc t := ⟨fun s hs => h.ok s (.tail _ hs), (List.pairwise_cons.mp h.pw).2⟩
theorem Asc.gap {r : Row} {t : List Row} (h : Asc (r :: t)) : ∀ s ∈ t, Gap r s := (List.pairwise_cons.mp h.pw).1
def earlierO : Option Int → Option Int → Option Int
  | none, y => y
  | some i, none => some i
  | some i, some j => some (if j < i then j else i)
theorem earlier_or (x y : Option Int) : x = earlierO x y ∨ y = earlierO x y := by
  cases x with
  | none => exact .inr rfl
  | some i =>
    cases y with
    | none => exact .inl rfl
    | some j =>
      by_cases h : j < i
      · exact .inr (by show some j = some (if j < i then j else i); rw [if_pos h])
      · exact .inl (by show some i = some (if j < i then j else i); rw [if_neg h])
theorem earlier_le (x y : Option Int) (d : Int) : (∀ j, earlierO x y = some j → d ≤ j) ↔ (∀ j, x = some j → d ≤ j) ∧ (∀ j, y = some j → d ≤ j) := by
  cases x with
  | none => exact ⟨fun h => ⟨nofun, h⟩, fun h => h.2⟩
  | some i =>
    cases y with
    | none => exact ⟨fun h => ⟨h, nofun⟩, fun h => h.1⟩
    | some j =>
      constructor
      · intro h
        have := h _ rfl
        refine ⟨fun k ek => ?_, fun k ek => ?_⟩ <;> cases ek <;> split at this <;> omega
      · rintro ⟨h1, h2⟩ k ek
        have h1 := h1 i rfl
        have h2 := h2 j rfl
        cases ek
        split <;> omega
theorem earlier_r {x : Option Int} {j : Int} : ∃ k, earlierO x (some j) = some k ∧ k ≤ j := by
  cases x with
  | none => exact ⟨j, rfl, Int.le_refl _⟩
  | some i => exact ⟨_, rfl, by split <;> omega⟩
theorem earlier_l {y : Option Int} {i : Int} : ∃ k, earlierO (some i) y = some k ∧ k ≤ i := by
  cases y with
  | none => exact ⟨i, rfl, Int.le_refl _⟩
  | some j => exact ⟨_, rfl, by split <;> omega⟩
def fitsB (f : Int) (l : Option Int) : Bool := match l with
  | none => true
  | some j => decide (f ≤ j)
def mx (a b : Int) : Int := if b > a then b else a
def ov : List Row → List Row → List Row
  | [], _ => []
  | _ :: _, [] => []
  | r :: s, u :: t =>
    (if fitsB (mx r.1 u.1) (earlierO r.2 u.2) = true then [(mx r.1 u.1, earlierO r.2 u.2)] else []) ++ ov (if r.2 = earlierO r.2 u.2 then s else r :: s) (if u.2 = earlierO r.2 u.2 then t else u :: t)
termination_by S O => S.length + O.length
decreasing_by
  have h := earlier_or r.2 u.2
  by_cases h1 : r.2 = earlierO r.2 u.2
  · rw [dif_pos h1]
    split <;> (try simp only [List.length_cons]) <;> omega
  · have h2 := h.resolve_left h1
    rw [dif_neg h1, dif_pos h2]
    simp only [List.length_cons]
    omega
theorem ov_nil (O : List Row) : ov [] O = [] := by rw [ov]
theorem ov_nil2 (S : List Row) : ov S [] = [] := by cases S <;> rw [ov]
theorem ov_cons (r u : Row) (s t : List Row) : ov (r :: s) (u :: t) = (if fitsB (mx r.1 u.1) (earlierO r.2 u.2) = true then [(mx r.1 u.1, earlierO r.2 u.2)] else []) ++
    ov (if r.2 = earlierO r.2 u.2 then s else r :: s) (if u.2 = earlierO r.2 u.2 then t else u :: t) := by rw [ov]
theorem in_mx {r u : Row} {d : Int} : In (mx r.1 u.1, earlierO r.2 u.2) d ↔ In r d ∧ In u d := by
  unfold In
  rw [earlier_le]
  have : mx r.1 u.1 ≤ d ↔ r.1 ≤ d ∧ u.1 ≤ d := by
    unfold mx
    split <;> omega
  rw [this]
  exact ⟨fun ⟨⟨a, b⟩, c, e⟩ => ⟨⟨a, c⟩, b, e⟩, fun ⟨⟨a, c⟩, b, e⟩ => ⟨⟨a, b⟩, c, e⟩⟩
theorem fits_in {f : Int} {l : Option Int} : fitsB f l = true ↔ In (f, l) f := by
  unfold fitsB In
  cases l with
  | none => simp
  | some j => simp
theorem not_fits {f : Int} {l : Option Int} (h : fitsB f l = false) (d : Int) : ¬ In (f, l) d := fun z => by
  unfold fitsB at h
  cases l with
  | none => cases h
  | some j =>
    have h := of_decide_eq_false h
    have h1 : f ≤ d := z.1
    have := z.2 j rfl
    omega
theorem ov_ok : ∀ (n : Nat) (S O : List Row), S.length + O.length ≤ n → Asc S → Asc O →
    Asc (ov S O) ∧ (∀ d, Ins (ov S O) d ↔ Ins S d ∧ Ins O d) ∧ ∀ v ∈ ov S O, (∃ u ∈ S, u.1 ≤ v.1) ∧ ∃ u ∈ O, u.1 ≤ v.1 := by
  intro n
  induction n with
  | zero =>
    intro S O hn _ _
    have : S = [] := List.eq_nil_of_length_eq_zero (by omega)
    subst this
    rw [ov_nil]
    exact ⟨⟨nofun, .nil⟩, fun d => ⟨fun z => absurd z not_nil, fun z => absurd z.1 not_nil⟩, nofun⟩
  | succ n ih =>
    intro S O hn hS hO
    cases S with
    | nil =>
      rw [ov_nil]
      exact ⟨⟨nofun, .nil⟩, fun d => ⟨fun z => absurd z not_nil, fun z => absurd z.1 not_nil⟩, nofun⟩
    | cons r s =>
      cases O with
      | nil =>
        rw [ov_nil2]
        exact ⟨⟨nofun, .nil⟩, fun d => ⟨fun z => absurd z not_nil, fun z => absurd z.2 not_nil⟩, nofun⟩
      | cons u t =>
        have hor := earlier_or r.2 u.2
        have hlen : (if r.2 = earlierO r.2 u.2 then s else r :: s).length + (if u.2 = earlierO r.2 u.2 then t else u :: t).length ≤ n := by
          simp only [List.length_cons] at hn
          by_cases h1 : r.2 = earlierO r.2 u.2
          · rw [if_pos h1]
            split <;> (try simp only [List.length_cons]) <;> omega
          · rw [if_neg h1, if_pos (hor.resolve_left h1)]
            simp only [List.length_cons]
            omega
        have aS : Asc (if r.2 = earlierO r.2 u.2 then s else r :: s) := by
          split
          · exact hS.tail
          · exact hS
        have aO : Asc (if u.2 = earlierO r.2 u.2 then t else u :: t) := by
          split
          · exact hO.tail
          · exact hO
        obtain ⟨i1, i2, i3⟩ := ih _ _ hlen aS aO
        have sub1 : ∀ v ∈ (if r.2 = earlierO r.2 u.2 then s else r :: s), v ∈ r :: s := fun v hv => by
          split at hv
          · exact .tail _ hv
          · exact hv
        have sub2 : ∀ v ∈ (if u.2 = earlierO r.2 u.2 then t else u :: t), v ∈ u :: t := fun v hv => by
          split at hv
          · exact .tail _ hv
          · exact hv
        have x1 : r.2 = earlierO r.2 u.2 → ∀ d, In r d → ¬ Ins t d := fun e d hd ⟨v, hv, z⟩ => by
          obtain ⟨j, ej, hj⟩ := hO.gap v hv
          obtain ⟨k, ek, hk⟩ := earlier_r (x := r.2) (j := j)
          rw [← ej, ← e] at ek
          have h1 := hd.2 k ek
          have h2 := z.1
          omega
        have x2 : u.2 = earlierO r.2 u.2 → ∀ d, In u d → ¬ Ins s d := fun e d hd ⟨v, hv, z⟩ => by
          obtain ⟨j, ej, hj⟩ := hS.gap v hv
          obtain ⟨k, ek, hk⟩ := earlier_l (y := u.2) (i := j)
          rw [← ej, ← e] at ek
          have h1 := hd.2 k ek
          have h2 := z.1
          omega
        have both : ∀ d, (Ins (r :: s) d ∧ Ins (u :: t) d) ↔ (In r d ∧ In u d) ∨ (Ins (if r.2 = earlierO r.2 u.2 then s else r :: s) d ∧ Ins (if u.2 = earlierO r.2 u.2 then t else u :: t) d) := fun d => by
          constructor
          · rintro ⟨h1, h2⟩
            by_cases e1 : r.2 = earlierO r.2 u.2
            · rw [if_pos e1]
              rcases ins_cons.mp h1 with z | z
              · rcases ins_cons.mp h2 with y | y
                · exact .inl ⟨z, y⟩
                · exact absurd y (x1 e1 d z)
              · by_cases e2 : u.2 = earlierO r.2 u.2
                · rw [if_pos e2]
                  rcases ins_cons.mp h2 with y | y
                  · exact absurd z (x2 e2 d y)
                  · exact .inr ⟨z, y⟩
                · rw [if_neg e2]
                  exact .inr ⟨z, h2⟩
            · have e2 := hor.resolve_left e1
              rw [if_neg e1, if_pos e2]
              rcases ins_cons.mp h2 with y | y
              · rcases ins_cons.mp h1 with z | z
                · exact .inl ⟨z, y⟩
                · exact absurd z (x2 e2 d y)
              · exact .inr ⟨h1, y⟩
          · rintro (⟨h1, h2⟩ | ⟨⟨v, hv, z⟩, ⟨v', hv', z'⟩⟩)
            · exact ⟨ins_cons.mpr (.inl h1), ins_cons.mpr (.inl h2)⟩
            · exact ⟨⟨v, sub1 v hv, z⟩, ⟨v', sub2 v' hv', z'⟩⟩
        have third : ∀ v ∈ ov (if r.2 = earlierO r.2 u.2 then s else r :: s) (if u.2 = earlierO r.2 u.2 then t else u :: t), (∃ w ∈ r :: s, w.1 ≤ v.1) ∧ ∃ w ∈ u :: t, w.1 ≤ v.1 := fun v hv => by
          obtain ⟨⟨a, ha, ha'⟩, b, hb, hb'⟩ := i3 v hv
          exact ⟨⟨a, sub1 a ha, ha'⟩, b, sub2 b hb, hb'⟩
        rw [ov_cons]
        cases hf : fitsB (mx r.1 u.1) (earlierO r.2 u.2) with
        | false =>
          rw [if_neg (by simp), List.nil_append]
          refine ⟨i1, fun d => ?_, third⟩
          rw [i2, both, ← in_mx]
          exact ⟨.inr, fun z => z.resolve_left (not_fits hf d)⟩
        | true =>
          rw [if_pos rfl, List.singleton_append]
          have hin := fits_in.mp hf
          have okn : Ok (mx r.1 u.1, earlierO r.2 u.2) := ⟨by
            have h1 := (hS.ok r (.head _)).1
            have h2 := (hO.ok u (.head _)).1
            show 0 ≤ mx r.1 u.1
            unfold mx
            split <;> omega, hin.2⟩
          refine ⟨⟨fun v hv => ?_, List.pairwise_cons.mpr ⟨fun v hv => ?_, i1.pw⟩⟩, fun d => ?_, fun v hv => ?_⟩
          · rcases List.mem_cons.mp hv with rfl | hv
            · exact okn
            · exact i1.ok v hv
          · obtain ⟨⟨a, ha, ha'⟩, b, hb, hb'⟩ := i3 v hv
            rcases hor with e | e
            · rw [if_pos e] at ha
              obtain ⟨j, ej, hj⟩ := hS.gap a ha
              exact ⟨j, e.symm.trans ej, by omega⟩
            · rw [if_pos e] at hb
              obtain ⟨j, ej, hj⟩ := hO.gap b hb
              exact ⟨j, e.symm.trans ej, by omega⟩
          · rw [ins_cons, i2, both, in_mx]
          · rcases List.mem_cons.mp hv with rfl | hv
            · refine ⟨⟨r, .head _, ?_⟩, u, .head _, ?_⟩ <;> (show _ ≤ mx r.1 u.1; unfold mx; split <;> omega)
            · exact third v hv
theorem ov_len : ∀ (n : Nat) (S O : List Row), S.length + O.length ≤ n → (ov S O).length ≤ n := by
  intro n
  induction n with
  | zero =>
    intro S O hn
    have : S = [] := List.eq_nil_of_length_eq_zero (by omega)
    subst this
    rw [ov_nil]
    exact Nat.le_refl _
  | succ n ih =>
    intro S O hn
    cases S with
    | nil =>
      rw [ov_nil]
      exact Nat.zero_le _
    | cons r s =>
      cases O with
      | nil =>
        rw [ov_nil2]
        exact Nat.zero_le _
      | cons u t =>
        have hor := earlier_or r.2 u.2
        have hlen : (if r.2 = earlierO r.2 u.2 then s else r :: s).length + (if u.2 = earlierO r.2 u.2 then t else u :: t).length ≤ n := by
          simp only [List.length_cons] at hn
          by_cases h1 : r.2 = earlierO r.2 u.2
          · rw [if_pos h1]
            split <;> (try simp only [List.length_cons]) <;> omega
          · rw [if_neg h1, if_pos (hor.resolve_left h1)]
            simp only [List.length_cons]
            omega
        have := ih _ _ hlen
        rw [ov_cons, List.length_append]
        split <;> simp only [List.length_cons, List.length_nil] <;> omega
def gp : Int → List Row → List Row
  | st, [] => [(st, none)]
  | st, r :: t => (if st < r.1 then [(st, some (r.1 - 1))] else []) ++ match r.2 with
    | none => []
    | some j => gp (j + 1) t
theorem gp_len : ∀ (L : List Row) (st : Int), (gp st L).length ≤ L.length + 1
  | [], st => Nat.le_refl _
  | r :: t, st => by
    show ((if st < r.1 then [(st, some (r.1 - 1))] else []) ++ _).length ≤ _
    have h : (if st < r.1 then [((st, some (r.1 - 1)) : Row)] else []).length ≤ 1 := by split <;> simp
    rw [List.length_append, List.length_cons]
    cases r.2 with
    | none => simp only [List.length_nil]; omega
    | some j =>
      have := gp_len t (j + 1)
      simp only
      omega
theorem gp_ok : ∀ (L : List Row) (st : Int), 0 ≤ st → Asc L → (∀ r ∈ L, st ≤ r.1) → Asc (gp st L) ∧ (∀ d, Ins (gp st L) d ↔ st ≤ d ∧ ¬ Ins L d) ∧ ∀ r ∈ gp st L, st ≤ r.1
  | [], st, h0, _, _ => by
    refine ⟨⟨fun r hr => ?_, List.pairwise_singleton _ _⟩, fun d => ?_, fun r hr => ?_⟩
    · rw [List.mem_singleton.mp hr]
      exact ⟨h0, nofun⟩
    · show Ins [(st, none)] d ↔ _
      rw [ins_cons]
      exact ⟨fun z => z.elim (fun y => ⟨y.1, not_nil⟩) (fun y => absurd y not_nil), fun z => .inl ⟨z.1, nofun⟩⟩
    · rw [List.mem_singleton.mp hr]
      exact Int.le_refl _
  | (a, x) :: t, st, h0, hA, hb => by
    have hst : st ≤ a := hb (a, x) (.head _)
    have head : ∀ r ∈ (if st < a then [((st, some (a - 1)) : Row)] else []), r = (st, some (a - 1)) ∧ st < a := fun r hr => by
      split at hr
      · exact ⟨List.mem_singleton.mp hr, ‹_›⟩
      · cases hr
    have hin : ∀ d, Ins (if st < a then [((st, some (a - 1)) : Row)] else []) d ↔ st ≤ d ∧ d < a := fun d => by
      constructor
      · rintro ⟨r, hr, z⟩
        obtain ⟨rfl, _⟩ := head r hr
        have h1 : st ≤ d := z.1
        have := z.2 (a - 1) rfl
        omega
      · rintro ⟨h1, h2⟩
        rw [if_pos (by omega)]
        exact ⟨_, .head _, h1, fun j ej => by cases ej; omega⟩
    cases x with
    | none =>
      have e : gp st ((a, none) :: t) = if st < a then [((st, some (a - 1)) : Row)] else [] := List.append_nil _
      have tn : ∀ v ∈ t, False := fun v hv => by
        obtain ⟨j, ej, _⟩ := hA.gap v hv
        cases ej
      rw [e]
      refine ⟨⟨fun r hr => ?_, ?_⟩, fun d => ?_, fun r hr => ?_⟩
      · obtain ⟨rfl, h⟩ := head r hr
        exact ⟨h0, fun j ej => by cases ej; show st ≤ a - 1; omega⟩
      · split
        · exact List.pairwise_singleton _ _
        · exact .nil
      · rw [hin, ins_cons]
        constructor
        · rintro ⟨h1, h2⟩
          refine ⟨h1, fun z => ?_⟩
          rcases z with z | ⟨v, hv, _⟩
          · have : a ≤ d := z.1
            omega
          · exact tn v hv
        · rintro ⟨h1, h2⟩
          refine ⟨h1, ?_⟩
          by_cases h : d < a
          · exact h
          · exact absurd (.inl ⟨by show a ≤ d; omega, nofun⟩) h2
      · obtain ⟨rfl, _⟩ := head r hr
        exact Int.le_refl _
    | some j =>
      have haj : a ≤ j := (hA.ok (a, some j) (.head _)).2 j rfl
      have tg : ∀ v ∈ t, j + 1 < v.1 := fun v hv => by
        obtain ⟨k, ek, hk⟩ := hA.gap v hv
        cases ek
        exact hk
      have a0 := (hA.ok (a, some j) (.head _)).1
      have a0 : 0 ≤ a := a0
      obtain ⟨g1, g2, g3⟩ := gp_ok t (j + 1) (by omega) hA.tail fun v hv => by have := tg v hv; omega
      have e : gp st ((a, some j) :: t) = (if st < a then [((st, some (a - 1)) : Row)] else []) ++ gp (j + 1) t := rfl
      rw [e]
      refine ⟨⟨fun r hr => ?_, List.pairwise_append.mpr ⟨?_, g1.pw, fun r hr v hv => ?_⟩⟩, fun d => ?_, fun r hr => ?_⟩
      · rcases List.mem_append.mp hr with hr | hr
        · obtain ⟨rfl, h⟩ := head r hr
          exact ⟨h0, fun k ek => by cases ek; show st ≤ a - 1; omega⟩
        · exact g1.ok r hr
      · split
        · exact List.pairwise_singleton _ _
        · exact .nil
      · obtain ⟨rfl, h⟩ := head r hr
        have := g3 v hv
        exact ⟨a - 1, rfl, by omega⟩
      · have app : Ins ((if st < a then [((st, some (a - 1)) : Row)] else []) ++ gp (j + 1) t) d ↔ Ins (if st < a then [((st, some (a - 1)) : Row)] else []) d ∨ Ins (gp (j + 1) t) d := by
          constructor
          · rintro ⟨r, hr, z⟩
            exact (List.mem_append.mp hr).imp (fun h => ⟨r, h, z⟩) fun h => ⟨r, h, z⟩
          · rintro (⟨r, hr, z⟩ | ⟨r, hr, z⟩)
            · exact ⟨r, List.mem_append_left _ hr, z⟩
            · exact ⟨r, List.mem_append_right _ hr, z⟩
        rw [app, hin, g2, ins_cons]
        constructor
        · rintro (⟨h1, h2⟩ | ⟨h1, h2⟩)
          · refine ⟨h1, fun z => ?_⟩
            rcases z with z | ⟨v, hv, z⟩
            · have : a ≤ d := z.1
              omega
            · have h3 := tg v hv
              have h4 := z.1
              omega
          · refine ⟨by omega, fun z => z.elim (fun y => ?_) h2⟩
            have := y.2 j rfl
            omega
        · rintro ⟨h1, h2⟩
          by_cases h : d < a
          · exact .inl ⟨h1, h⟩
          · refine .inr ⟨?_, fun z => h2 (.inr z)⟩
            by_cases h3 : d ≤ j
            · exact absurd (.inl ⟨by show a ≤ d; omega, fun k ek => by cases ek; exact h3⟩) h2
            · omega
      · rcases List.mem_append.mp hr with hr | hr
        · obtain ⟨rfl, _⟩ := head r hr
          exact Int.le_refl _
        · have := g3 r hr
          omega
/-! ### a walk over marks, whatever is wanted -/
theorem chg {rs : List Row} {d : Int} (ne : insB rs d ≠ insB rs (d - 1)) : (∃ r ∈ rs, r.1 = d) ∨ ∃ r ∈ rs, ∃ j, r.2 = some j ∧ j + 1 = d := by
  have h : (insB rs d = true ∧ insB rs (d - 1) = false) ∨ (insB rs d = false ∧ insB rs (d - 1) = true) := by
    cases h1 : insB rs d <;> cases h2 : insB rs (d - 1)
    · exact absurd (h1.trans h2.symm) ne
    · exact .inr ⟨rfl, rfl⟩
    · exact .inl ⟨rfl, rfl⟩
    · exact absurd (h1.trans h2.symm) ne
  have no : ∀ {r : Row} {e : Int}, r ∈ rs → insB rs e = false → ¬ In r e := fun {r e} hr h z => by
    have := insB_iff.mpr ⟨r, hr, z⟩
    rw [h] at this
    cases this
  rcases h with ⟨h1, h2⟩ | ⟨h1, h2⟩
  · obtain ⟨r, hr, hi⟩ := insB_iff.mp h1
    refine .inl ⟨r, hr, ?_⟩
    by_cases e : r.1 = d
    · exact e
    · exact absurd (show In r (d - 1) from ⟨by have := hi.1; omega, fun j ej => by have := hi.2 j ej; omega⟩) (no hr h2)
  · obtain ⟨r, hr, hi⟩ := insB_iff.mp h2
    cases hx : r.2 with
    | none => exact absurd (show In r d from ⟨by have := hi.1; omega, fun j ej => by rw [hx] at ej; cases ej⟩) (no hr h1)
    | some j =>
      have hj := hi.2 j hx
      refine .inr ⟨r, hr, j, hx, ?_⟩
      by_cases e : j + 1 = d
      · exact e
      · exact absurd (show In r d from ⟨by have := hi.1; omega, fun k ek => by rw [hx] at ek; cases ek; omega⟩) (no hr h1)
theorem ins_neg {rs : List Row} (ok : ∀ r ∈ rs, Ok r) {d : Int} (hd : d < 0) : insB rs d = false := by
  cases h : insB rs d with
  | false => rfl
  | true =>
    obtain ⟨r, hr, hi⟩ := insB_iff.mp h
    have := (ok r hr).1
    have := hi.1
    omega
/-- the walk finds w's days, told in one way -/
theorem walk_ok {w : Int → Bool} {ms : List Int} (neg : ∀ d, d < 0 → w d = false) (pw : ms.Pairwise (· < ·)) (m0 : ∀ n ∈ ms, 0 ≤ n) (ch : ∀ d, w d ≠ w (d - 1) → d ∈ ms) :
    Can (ms.foldl (stepD w) []) ∧ ∀ d, Ins (ms.foldl (stepD w) []) d ↔ w d = true := by
  have t0 : Till w [] (-1) := ⟨trivial, fun d hd => by rw [neg d (by omega)]; exact ⟨fun z => absurd z not_nil, nofun⟩, fun d _ => by rw [neg (-1) (by omega)]; exact ⟨fun z => absurd z not_nil, nofun⟩, nofun⟩
  exact foldD_ok ms [] (-1) t0 pw (fun n hn => ⟨by have := m0 n hn; omega, m0 n hn⟩) fun d _ h => ch d h
end LD

set_option Elab.async false
set_option linter.all false
set_option maxRecDepth 100000
set_option maxHeartbeats 1600000
namespace LT
open PySem PySem.Spec PyProof.Rows L2
/-! ### two lists of own things, equal one by one: != is False -/
section
variable {prog : Program} {w : World} {A : Around} {E : Value → Shared → Prop} {s : Shared}
open AutoSeq1 (wpAny_loadPart')
open MeetsSeq MeetsSeq3
structure TwoAt (l b : Addr) (ys xs : List Value) (s : Shared) : Prop where
  fst : ∃ n, s.heap.get? l = some { cls := .type "list", data := .seq ys.toArray n }
  snd : ∃ n, s.heap.get? b = some { cls := .type "list", data := .seq xs.toArray n }
theorem ne_loop {R : Result → Shared → Prop} {l b : Addr} {ys xs : List Value} {J : Shared → Prop} (hz : ys.length = xs.length) (at_ : ∀ s, J s → TwoAt l b ys xs s)
    (step : ∀ (i : Nat) (y x : Value) (s : Shared), ys[i]? = some y → xs[i]? = some x → J s → wpAny (model prog w) A.in1 (eqBool y x) (fun r s' => r = true ∧ J s') (fun e s' => R (.error e) s') s)
    (fin : ∀ s, J s → R (.ok (.ret (.bool false))) s) : ∀ (k i : Nat) (s : Shared), ys.length - i = k → i ≤ ys.length → J s →
    wpAny (model prog w) A.in1 (Builtin.«list.__eq__.loop» ⟨[.ref l, .ref b, rawInt i, rawInt 3], []⟩) (GQ.FinOf prog w A R) (fun e s' => R (.error e) s') s := by
  intro k
  induction k with
  | zero =>
    intro i s hk hi hJ
    obtain ⟨⟨n, hl⟩, ⟨n2, hb⟩⟩ := at_ s hJ
    have f := fin s hJ
    obtain ⟨hp, g, d, tk, os⟩ := s
    wp_walk using wpAny_loadPart' hl, wpAny_loadPart' hb
    have hi1 : ys.toArray[((i : Nat) : Int).toNat]? = none := by simp; omega
    have hi2 : xs.toArray[((i : Nat) : Int).toNat]? = none := by simp; omega
    rw [hi1, hi2]
    wp_walk using wpAny_loadPart' hl, wpAny_loadPart' hb
    show R (.ok (.ret (.bool (ys.toArray.size != xs.toArray.size)))) _
    rw [show (ys.toArray.size != xs.toArray.size) = false by simp [hz]]
    exact f
  | succ k ih =>
    intro i s hk hi hJ
    obtain ⟨⟨n, hl⟩, ⟨n2, hb⟩⟩ := at_ s hJ
    obtain ⟨y, ey⟩ : ∃ y, ys[i]? = some y := ⟨_, List.getElem?_eq_getElem (by omega)⟩
    obtain ⟨x, ex⟩ : ∃ x, xs[i]? = some x := ⟨_, List.getElem?_eq_getElem (by omega)⟩
    have st := step i y x s ey ex hJ
    obtain ⟨hp, g, d, tk, os⟩ := s
    wp_walk using wpAny_loadPart' hl, wpAny_loadPart' hb
    have hi1 : ys.toArray[((i : Nat) : Int).toNat]? = some y := by simpa using ey
    have hi2 : xs.toArray[((i : Nat) : Int).toNat]? = some x := by simpa using ex
    rw [hi1, hi2]
    refine wpAny_bind (wpAny_mono st (fun r s2 hr => ?_) fun _ _ x => x)
    obtain ⟨rfl, hJ2⟩ := hr
    have next := ih (i + 1) s2 (by omega) (by omega) hJ2
    have hc : ((i : Int) + 1) = ((i + 1 : Nat) : Int) := by omega
    obtain ⟨hp2, g2, d2, tk2, os2⟩ := s2
    wp_walk
    rw [hc]
    exact ⟨plainId_quiet plain_eq_loop _, codeAny_builtin entry_eq_loop (by
      rw [Around.under_plainId plain_eq_loop _]
      exact next)⟩
theorem ne_all {Q : Value → Shared → Prop} {l b : Addr} {ys xs : List Value} {J : Shared → Prop} (hu : A.units < cLine) (hz : ys.length = xs.length) (at_ : ∀ s, J s → TwoAt l b ys xs s)
    (step : ∀ (i : Nat) (y x : Value) (s : Shared), ys[i]? = some y → xs[i]? = some x → J s → wpAny (model prog w) A.in1 (eqBool y x) (fun r s' => r = true ∧ J s') E s)
    (fin : ∀ s, J s → Q (.bool false) s) (hJ : J s) : wpAny (model prog w) A (richCompare .NotEq (.ref l) (.ref b)) Q E s := by
  obtain ⟨⟨n, ho⟩, ⟨n2, ho2⟩⟩ := at_ s hJ
  refine wpAny_richCompare_same_room (op := .NotEq) ⟨_, ho, rfl⟩ ⟨_, ho2, rfl⟩ PySem.F.slot_list_ne (GQ.call_here PySem.F.slot_list_ne ⟨_, ho, rfl⟩ PySem.F.entry_list_ne (PySem.F.args_list_ne_2 _ _) ?_) hu
  have first := ne_loop (prog := prog) (w := w) (A := A) (R := wants (fun v s' => v ≠ .notImplemented ∧ Q v s') E) hz at_ step (fun s h => ⟨(fun z => nomatch z), fin s h⟩) _ 0 s rfl (Nat.zero_le _) hJ
  have f3 := AutoSeq1.sub_list_list
  have hne : ¬ (ys.toArray.size != xs.toArray.size) = true := by simp [hz]
  obtain ⟨hp, g, d, tk, os⟩ := s
  wp_walk using wpAny_loadPart' ho, wpAny_loadPart' ho2
  exact ⟨plainId_quiet plain_eq_loop _, codeAny_builtin entry_eq_loop (by
    rw [Around.under_plainId plain_eq_loop _]
    exact first)⟩
end
section
variable {X : Cx} {C f : Addr} {fd : FuncData} {ps : List Str} {sp : Sp} {n : Nat}
theorem op_ne_all (EC : EqC X.K C f) (F : FnOk X.prog X.w X.K X.mg X.base CX0 n f fd ps sp) (hr : Room (n + 1) X.A) (hb : L2.Binds X.K fd ps []) :
    OpR X (compareOp .NotEq) (fun x y H Q => ∃ (l k : Addr) (vs us : List V), x = .ref l ∧ y = .ref k ∧ H l = some (.lst vs) ∧ H k = some (.lst us) ∧ vs.length = us.length ∧
      (∀ (i : Nat) (v u : V), vs[i]? = some v → us[i]? = some u → ∃ (a b dx dy : Addr) (fs gs : List (Str × V)), v = .ref a ∧ u = .ref b ∧ H a = some (.ins C dx fs) ∧ H b = some (.ins C dy gs) ∧
        sp [.ref a, .ref b] H (fun z H' => ∃ r, z = .bl r ∧ z = .bl true ∧ H' = H) E0) ∧ Q (.bl false) H) := by
  intro pins s σ H x y v u Q I rx ry h
  obtain ⟨l, k, vs, us, rfl, rfl, hl, hk, hz, each, q⟩ := h
  cases rx
  cases ry
  obtain ⟨_, its1, n1, rv1, ho1⟩ := (show ObjOk X.prog X.w H s.heap l (.lst vs) from I.hok l _ hl)
  obtain ⟨_, its2, n2, rv2, ho2⟩ := (show ObjOk X.prog X.w H s.heap k (.lst us) from I.hok k _ hk)
  have sz : its1.length = its2.length := by rw [← rv1.length, ← rv2.length, hz]
  have same : ∀ {xs : List V} {is js : List Value}, Vals xs is → Vals xs js → (∀ v ∈ xs, ∃ a, v = V.ref a) → is = js := by
    intro xs is js h1
    induction h1 generalizing js with
    | nil => intro h2 _; cases h2; rfl
    | cons a t ih =>
      intro h2 hr
      cases h2 with
      | cons b t2 =>
        obtain ⟨c, e⟩ := hr _ (.head _)
        subst e
        cases a
        cases b
        rw [ih t2 fun v hv => hr v (.tail _ hv)]
  have rf1 : ∀ v ∈ vs, ∃ a, v = V.ref a := fun v hv => by
    obtain ⟨i, e⟩ := List.mem_iff_getElem?.mp hv
    have hi : i < vs.length := (List.getElem?_eq_some_iff.mp e).1
    obtain ⟨a, b, _, _, _, _, e1, _⟩ := each i v _ e (List.getElem?_eq_getElem (by omega))
    exact ⟨a, e1⟩
  have rf2 : ∀ v ∈ us, ∃ a, v = V.ref a := fun v hv => by
    obtain ⟨i, e⟩ := List.mem_iff_getElem?.mp hv
    have hi : i < us.length := (List.getElem?_eq_some_iff.mp e).1
    obtain ⟨a, b, _, _, _, _, _, e1, _⟩ := each i _ v (List.getElem?_eq_getElem (by omega)) e
    exact ⟨b, e1⟩
  refine ne_all (J := fun s' => Inv X pins σ H s') hr.units0 sz (fun s' I' => ?_) (fun i y x s' ey ex I' => ?_) (fun s' I' => ⟨.bl false, H, I', rfl, q⟩) I
  · obtain ⟨_, js1, m1, rw1, go1⟩ := (show ObjOk X.prog X.w H s'.heap l (.lst vs) from I'.hok l _ hl)
    obtain ⟨_, js2, m2, rw2, go2⟩ := (show ObjOk X.prog X.w H s'.heap k (.lst us) from I'.hok k _ hk)
    rw [same rv1 rw1 rf1, same rv2 rw2 rf2]
    exact ⟨⟨_, go1⟩, ⟨_, go2⟩⟩
  · have hi : i < its1.length := (List.getElem?_eq_some_iff.mp ey).1
    have l1 := rv1.length
    have l2 := rv2.length
    obtain ⟨v, ev⟩ : ∃ v, vs[i]? = some v := ⟨_, List.getElem?_eq_getElem (by omega)⟩
    obtain ⟨u, eu⟩ : ∃ u, us[i]? = some u := ⟨_, List.getElem?_eq_getElem (by omega)⟩
    obtain ⟨a, b, dx, dy, fs, gs, rfl, rfl, ha, hb', h⟩ := each i v u ev eu
    have e1 := vals_at rv1 i ev ey
    have e2 := vals_at rv2 i eu ex
    cases e1
    cases e2
    refine wpAny_mono (eqb_own (Q := fun z H' => z = .bl true ∧ H' = H) EC F ⟨hr.in1, rfl⟩ hb I' ha hb' (fun _ => ⟨rfl, rfl⟩) fun _ => h) (fun r s2 hz => ?_) fun _ _ x => x
    obtain ⟨H', J', e, rfl⟩ := hz
    cases e
    exact ⟨rfl, J'⟩
end
/-! ### repr of a list of own things -/
section
variable {prog : Program} {w : World} {A : Around} {E : Value → Shared → Prop} {s : Shared} {K : PySem.W.Frag} {x C f : Addr} {ox : Obj} {od : Option Obj}
theorem boundBy_own {M : Model} {last : Value → List Value → Sem Value} {name : Str} {Q : Option Value → Shared → Prop} (X : K.In s.heap) (I : PySem.W.InstAt s.heap x ox C od)
    (hs : PySem.W.findIn K (.ref C) name = some (some (.ref f))) (hf : PySem.W.isFn K (.ref f) = true)
    (h : wpAny M A (last (.ref f) [.ref x]) (fun v => Q (some v)) E s) : wpAny M A (callSpecialIfBoundBy? last (.ref x) name) Q E s := by
  simp only [callSpecialIfBoundBy?, bindSpecialIfBound?]
  refine wpAny_holding (wpAny_bind (wpAny_bind (wpAny_bind (I.type.here ((PySem.W.looks_findIn X hs).here ?_)))))
  refine wpAny_bind (wpAny_askSetting (wpAny_ite ?_))
  have back : wpAny M A (last (.ref f) [.ref x] >>= fun v => pure (some v)) Q E s := wpAny_bind (wpAny_mono h (fun v s' z => wpAny_pure z) fun _ _ z => z)
  split
  · exact wpAny_bind ((PySem.W.bind_fn X _ (beq_iff_eq.mp hf)).here (wpAny_pure (by exact back)))
  · exact wpAny_tryCatch (wpAny_bind ((PySem.W.bind_fn X _ (beq_iff_eq.mp hf)).here (wpAny_pure (by exact back))))
theorem under_own {b : Nat} {Q : Str → Shared → Prop} (hb : b ≤ sizeLine) (hu : A.units < cLine) (X : K.In s.heap) (I : PySem.W.InstAt s.heap x ox C od)
    (hs : PySem.W.findIn K (.ref C) "__repr__" = some (some (.ref f))) (hf : PySem.W.isFn K (.ref f) = true)
    (h : wpAny (model prog w) A (call (.ref f) [.ref x]) (fun v s' => ∃ t u, v = .str t u ∧ Q t s') E s) : wpAny (model prog w) A (pyReprUnder b (.ref x)) Q E s := by
  refine wpAny_pyReprUnder_ref hb ?_
  unfold pyReprObjUnder pyReprObjBy
  refine wpAny_bind (wpAny_cRoomFor hu ?_)
  refine wpAny_bind (wpAny_bind (I.type.here ((PySem.W.looks_findIn X hs).here ?_)))
  show wpAny _ _ (if (some (Value.ref f)).isNone = true then _ else _) _ _ _
  rw [if_neg (by simp)]
  refine wpAny_bind (m := callSpecialIfBoundBy? _ (.ref x) (Str.ofString "__repr__")) (boundBy_own X I hs hf (wpAny_mono h (fun r s' hr => ?_) fun _ _ y => y))
  obtain ⟨t, u, rfl, q⟩ := hr
  exact wpAny_bind (wpAny_isInstance (typeIs_str _ _ _) isSubtype_str_str (wpAny_pure ⟨t, u, rfl, q⟩))
end
theorem sub_guard {X : Cx} {n : Nat} {A : Around} (sb : L2.Sub X (n + 1) A) (args : Args) : L2.Sub X n (A.under (.builtin "list.__repr__.loop" args)) := by
  have hw : (Code.builtin "list.__repr__.loop" args).weight ≤ 1 := by
    show (Code.builtin "list.__repr__.loop" ⟨[], []⟩).weight ≤ 1
    decide +kernel
  have hc : (Code.builtin "list.__repr__.loop" args).cUnits ≤ 10 := by
    show (Code.builtin "list.__repr__.loop" ⟨[], []⟩).cUnits ≤ 10
    decide +kernel
  have he : (Code.builtin "list.__repr__.loop" args).envs = [] := rfl
  obtain ⟨⟨h1, h2, h3⟩, h4⟩ := sb
  refine ⟨⟨h1, ?_, ?_⟩, ?_⟩
  · show A.depth + _ + 3 * n + 5 < _
    omega
  · show A.units + _ + 16 * n + 200 < _
    omega
  · unfold Around.under
    simp [he, pushEnvs, h4]
section
variable {X : Cx} {C f : Addr} {fd : FuncData} {ps : List Str} {sp : Sp} {n : Nat} {pins : List (Addr × Obj)} {σ : L2.St} {H : Hp}
theorem show_loop (hs : PySem.W.findIn X.K (.ref C) "__repr__" = some (some (.ref f))) (hf : PySem.W.isFn X.K (.ref f) = true) (F : FnOk X.prog X.w X.K X.mg X.base CX0 n f fd ps sp) (hb : L2.Binds X.K fd ps []) {A : Around} (sb : L2.Sub X (n + 1) A) {R : Result → Shared → Prop}
    (hE : ∀ e s', X.xe e s' → R (.error e) s') {l P : Addr} {xs : List V} {ts : List Str} {b : Nat} (hl : H l = some (.lst xs)) (hlen : ts.length = xs.length)
    (each : ∀ (i : Nat) (v : V), xs[i]? = some v → ∃ (a dx : Addr) (fs : List (Str × V)) (t : Str), v = .ref a ∧ H a = some (.ins C dx fs) ∧ ts[i]? = some t ∧ sp [.ref a] H (fun z H' => ∃ u, z = .str u ∧ z = .str t ∧ H' = H) E0)
    (hsz : b + (listText ts).length ≤ sizeLine) (fp : FpOk X pins H P) (fin : ∀ s' u, Inv X pins σ H s' → R (.ok (.ret (.str (listText ts) u))) s') :
    ∀ (k i : Nat) (s : Shared) (acc : Array Value) (c : Nat) (done : List (Str × Tok)), xs.length - i = k → i ≤ xs.length → Inv X pins σ H s →
      s.heap.get? P = some (seqObj "list" acc c) → acc.toList = strValues done → done.map (·.1) = ts.take i →
      codeAny (model X.prog X.w) A (.builtin "list.__repr__.loop" ⟨[.ref l, rawInt i, .ref P, rawInt ((b + piled (ts.take i) : Nat) : Int)], []⟩) R s := by
  have hX : (listText ts).length = (textFrom 0 "[" ts).length + 1 := by
    show (textFrom 0 "[" ts ++ "]").length = _
    rw [strLen_append]
    rfl
  have hL := textFrom_len ts 0 "["
  have hp3 := piled_le_listText ts
  intro k
  induction k with
  | zero =>
    intro i s acc c done hk hi I hP hacc hdone
    obtain ⟨its, rv, pl, hz⟩ := I.list (SqL.of hl)
    obtain ⟨o, m, e1, e2, _, e4⟩ := pl
    have il := rv.length
    refine codeAny_builtin PySem.F.entry_list_repr_loop ?_
    show wpAny _ _ (Builtin.«list.__repr__.loop» ⟨[.ref l, .int i 0, .ref P, .int ((b + piled (ts.take i) : Nat) : Int) 0], []⟩) _ _ s
    rw [repr_loop_tree]
    refine wpAny_bind (wpAny_listItems e1 e4 ?_)
    have hnone : its.toArray[(i : Int).toNat]? = none := by
      simp
      omega
    simp only [hnone]
    unfold reprEnd
    refine wpAny_bind (wpAny_listItems hP rfl ?_)
    rw [hacc, repr_fold]
    refine wpAny_bind (wpAny_pure ?_)
    have hall : done.map (·.1) = ts := by rw [hdone, List.take_of_length_le (by omega)]
    rw [hall]
    refine wpAny_bind (wpAny_mkStr (wpAny_pure ?_) (by show (listText ts).length ≤ _; omega))
    exact fin _ _ (I.tok _)
  | succ k ih =>
    intro i s acc c done hk hi I hP hacc hdone
    obtain ⟨its, rv, pl, hz⟩ := I.list (SqL.of hl)
    obtain ⟨o, m, e1, e2, _, e4⟩ := pl
    have il := rv.length
    have hlt : i < xs.length := by omega
    obtain ⟨v, ev⟩ : ∃ v, xs[i]? = some v := ⟨_, List.getElem?_eq_getElem hlt⟩
    obtain ⟨u, eu⟩ : ∃ u, its[i]? = some u := ⟨_, List.getElem?_eq_getElem (by omega)⟩
    obtain ⟨a, dx, fs, t, rfl, ha, ht, hsp⟩ := each i v ev
    have ru := vals_at rv i ev eu
    cases ru
    have hp1 := piled_take_succ ht
    have hp2 := piled_take_le ts (i + 1)
    have htl := hL.2.1 t (List.mem_of_getElem? ht)
    refine codeAny_builtin PySem.F.entry_list_repr_loop ?_
    show wpAny _ _ (Builtin.«list.__repr__.loop» ⟨[.ref l, .int i 0, .ref P, .int ((b + piled (ts.take i) : Nat) : Int) 0], []⟩) _ _ s
    rw [repr_loop_tree]
    refine wpAny_bind (wpAny_listItems e1 e4 ?_)
    have hsome : its.toArray[(i : Int).toNat]? = some (.ref a) := by simpa using eu
    simp only [hsome]
    rw [Int.toNat_natCast]
    have J : Inv X ((P, seqObj "list" acc c) :: pins) σ H s := I.pins_of fun p hp => by
      rcases List.mem_cons.mp hp with rfl | hp
      · exact ⟨hP, fp.1, fp.2.1, fp.2.2.1, fun v z => nomatch z⟩
      · exact I.pin p (List.mem_append_right _ hp)
    obtain ⟨mA, JI, _⟩ := ins_get I.hok ha
    obtain ⟨od, JI, _⟩ := JI.look
    have sb2 := sub_guard sb ⟨[.ref l, .int i 0, .ref P, .int ((b + piled (ts.take i) : Nat) : Int) 0], []⟩
    refine wpAny_bind (wpAny_holding (under_own (by omega) sb2.room.units0 I.kIn JI hs hf (wpAny_mono (run_str (Q := fun z H' => z = .str t ∧ H' = H) F sb2 hb J hsp) (fun z s2 hz => ?_) fun e s2 he => hE e s2 he)))
    cases z <;> first | exact hz.elim | skip
    obtain ⟨zv, H', I2, rz, rfl, rfl⟩ := hz
    obtain ⟨tk2, ez⟩ := rz
    cases ez
    refine ⟨t, _, rfl, ?_⟩
    have hP2 := (I2.pin (P, seqObj "list" acc c) (List.mem_append_right _ (.head _))).1
    have I3 : Inv X pins σ H' s2 := I2.pins_of fun p hp => I2.pin p (List.mem_append_right _ (.tail _ hp))
    refine wpAny_bind (wpAny_mkStr ?_ (by omega))
    refine wpAny_bind ?_
    show wpAny _ _ (updateSeq P _) _ _ _
    have hasz : acc.size ≤ sizeLine := by
      have z1 : acc.toList.length = acc.size := by simp
      have z2 : (strValues done).length = done.length := by simp [strValues]
      have z3 : done.length = (ts.take i).length := by rw [← hdone, List.length_map]
      have z4 : (ts.take i).length ≤ i := by rw [List.length_take]; omega
      rw [hacc] at z1
      omega
    refine wpAny_updateSeq hP2 rfl (wpAny_pure ⟨PySem.F.quiet_list_repr_loop _, ?_⟩) hasz
    have e5 : ((i : Int) + 1) = ((i + 1 : Nat) : Int) := by omega
    have e6 : b + piled (ts.take i) + (t.length + 2) = b + piled (ts.take (i + 1)) := by omega
    rw [e5, e6]
    have sbt := Heap.SameBut.update s2.heap P (Obj.mapSeq (·.push (.str t s2.toks)))
    have I4 : Inv X pins σ H' { s2 with heap := s2.heap.update P (Obj.mapSeq (·.push (.str t s2.toks))), toks := s2.toks + 1 } :=
      I3.turnedL (ch := [P]) (fun b o hb q => (sbt.2 b fun z => hb (by rw [z]; exact List.mem_singleton.mpr rfl)).trans q) (fun b hb => by rw [List.mem_singleton.mp hb]; exact fp)
    obtain ⟨c2, hc2⟩ : ∃ c2, (s2.heap.update P (Obj.mapSeq (·.push (.str t s2.toks)))).get? P = some (seqObj "list" (acc.push (.str t s2.toks)) c2) := ⟨_, get?_update_seq hP2 (·.push (.str t s2.toks))⟩
    exact ih (i + 1) _ (acc.push (.str t s2.toks)) c2 (done ++ [(t, s2.toks)]) (by omega) hlt I4 hc2 (by simp [hacc, strValues]) (by simp [List.take_add_one, ht, hdone])
/-- repr(xs), xs a list of own things -/
theorem call_reprL (hs : PySem.W.findIn X.K (.ref C) "__repr__" = some (some (.ref f))) (hf : PySem.W.isFn X.K (.ref f) = true) (F : FnOk X.prog X.w X.K X.mg X.base CX0 n f fd ps sp) (hG : X.A.guards = some []) (hr : Room (n + 3) X.A) (hb : L2.Binds X.K fd ps []) :
    CallR X (.builtin "repr") (fun ys H Q => ∃ (l : Addr) (xs : List V) (ts : List Str), ys = [.ref l] ∧ H l = some (.lst xs) ∧ ts.length = xs.length ∧
      (∀ (i : Nat) (v : V), xs[i]? = some v → ∃ (a dx : Addr) (fs : List (Str × V)) (t : Str), v = .ref a ∧ H a = some (.ins C dx fs) ∧ ts[i]? = some t ∧ sp [.ref a] H (fun z H' => ∃ u, z = .str u ∧ z = .str t ∧ H' = H) E0) ∧
      (listText ts).length ≤ sizeLine ∧ Q (.str (listText ts)) H) := by
  intro pins s σ H ys us Q I r h
  obtain ⟨l, xs, ts, rfl, hl, hlen, each, hsz, q⟩ := h
  rw [Vals.ref1 r]
  obtain ⟨its, rv, pl, hz⟩ := I.list (SqL.of hl)
  obtain ⟨o, m, e1, e2, _, e4⟩ := pl
  have il := rv.length
  have hr2 : Room (n + 2) X.A.in1 := hr.in1
  refine call_repr_slot hr.in1.units0 ⟨o, e1, e2⟩ PySem.F.slot_list_repr.toG ?_
  cases its with
  | nil =>
    have hx : xs = [] := List.eq_nil_of_length_eq_zero (by rw [il]; rfl)
    subst hx
    have ht : ts = [] := List.eq_nil_of_length_eq_zero hlen
    subst ht
    exact call_list_repr_empty ⟨o, e1, e2⟩ e1 e4 ⟨_, _, rfl, .str _, H, I.tok _, ⟨_, rfl⟩, q⟩
  | cons y its =>
    refine wpAny_call (codeAny_call_builtin PySem.F.slot_list_repr.plain PySem.F.entry_list_repr (PySem.F.slot_list_repr.check _ _ _ _ _ _ _ _ ⟨o, e1, e2⟩ (PySem.F.args_list_repr_1 _) ?_))
    refine wpAny_list_repr_head (A := X.A.in1.in1) (g := []) hG (fun _ _ _ z => nomatch z) e1 e4 ?_
    refine wpAny_bind (m := newList []) (wpAny_newObj_type ?_)
    refine wpAny_pure ⟨PySem.F.quiet_list_repr_loop _, ?_⟩
    have I2 : Inv X pins σ H { s with heap := s.heap.push { cls := .type "list", data := .seq #[] } } := by
      have := I.kept (h' := s.heap.push { cls := .type "list", data := .seq #[] }) (t' := s.toks) fun b o e => Heap.get?_push_of_some _ e
      exact this
    have fp : FpOk X pins H s.heap.objs.size := I.fpOk (Nat.le_refl _) (I.hok.fresh (Nat.le_refl _))
    exact show_loop hs hf F hb (A := X.A.in1) ⟨hr2.mono (by omega), rfl⟩ (fun e s' he => he) (b := 0) hl hlen each (by omega) fp (fun s' u J => ⟨_, _, rfl, .str _, H, J, ⟨u, rfl⟩, q⟩) _ 0 _ #[] 0 [] rfl (Nat.zero_le _) I2 (Heap.get?_push_size _ rfl) rfl rfl
end
end LT

set_option Elab.async false
set_option linter.all false
set_option maxRecDepth 100000
namespace K17
open PySem PySem.Spec PyProof.Rows L2 LT
def topS (i : Nat) : Stmt := PySem.Challenge.pw_lightturns_k17_whole_days_one_way.main.body.getD i (.Pass ⟨0, 0, 0, 0⟩)
abbrev sParted : Stmt := topS 34
abbrev sHasL : Stmt := topS 35
abbrev sDaysR : Stmt := topS 36
abbrev sSumsR : Stmt := topS 37
abbrev sWhole : Stmt := topS 6
abbrev sFrom : Stmt := topS 7
abbrev sDay : Stmt := topS 8
abbrev sCls : Stmt := topS 10
abbrev sCell : Stmt := topS 24
abbrev sPot : Stmt := topS 25
abbrev sTake : Stmt := topS 26
abbrev sFar : Stmt := topS 27
abbrev sRows : Stmt := topS 28
abbrev sHanded : Stmt := topS 29
abbrev sIn : Stmt := topS 30
abbrev sMarks : Stmt := topS 31
abbrev sDue : Stmt := topS 32
abbrev sRead : Stmt := topS 33
abbrev sLaw : Stmt := topS 38
abbrev sManyD : Stmt := topS 15
abbrev sDaysIn : Stmt := topS 11
abbrev sChk : Stmt := topS 16
abbrev sMerged : Stmt := topS 17
abbrev sMeets : Stmt := topS 18
abbrev sLater : Stmt := topS 22
abbrev sEither : Stmt := topS 12
abbrev sBoth : Stmt := topS 13
abbrev sOnly : Stmt := topS 14
abbrev sOver : Stmt := topS 19
abbrev sGaps : Stmt := topS 20
abbrev sEarly : Stmt := topS 21
abbrev sInit : Stmt := inClass sCls 0
abbrev sFirst : Stmt := inClass sCls 1
abbrev sLast : Stmt := inClass sCls 2
abbrev sHas : Stmt := inClass sCls 3
abbrev sEq : Stmt := inClass sCls 4
abbrev sRepr : Stmt := inClass sCls 5
structure Tx (mg : Str → Option Value) : Prop where
  isi : mg "isinstance" = none
  int : mg "int" = none
  bool : mg "bool" = none
  len : mg "len" = none
  abs : mg "abs" = none
  max : mg "max" = none
  min : mg "min" = none
  divmod : mg "divmod" = none
  range : mg "range" = none
  repr : mg "repr" = none
  tuple : mg "tuple" = none
  list : mg "list" = none
  sorted : mg "sorted" = none
  set : mg "set" = none
  any : mg "any" = none
  all : mg "all" = none
  sum : mg "sum" = none
/-- a def that stands as a name of the module -/
structure Has (K : PySem.W.Frag) (mg : Str → Option Value) (x : Str) (ps : List Str) (st : Stmt) (f : Addr) (fd : FuncData) : Prop where
  fn : Fun K x x st f fd
  bd : L2.Binds K fd ps []
  gl : mg x = some (.ref f)
/-- a method of the class at C -/
structure Mth (K : PySem.W.Frag) (C : Addr) (m q : Str) (ps : List Str) (st : Stmt) (f : Addr) (fd : FuncData) : Prop where
  fn : Fun K m q st f fd
  bd : L2.Binds K fd ps []
  me : Meth K C m f
/-- what is handed in -/
inductive Odd (H : Hp) : V → Prop
  | non : Odd H .non
  | bl (b : Bool) : Odd H (.bl b)
  | int (i : Int) : Odd H (.int i)
  | str (z : Str) : Odd H (.str z)
  | lst {a : Addr} {xs : List V} : H a = some (.lst xs) → Odd H (.ref a)
  | tup {a : Addr} {xs : List V} : H a = some (.tup xs) → Odd H (.ref a)
  | dK {a : Addr} {kvs : List (Key × V)} : H a = some (.dK kvs) → Odd H (.ref a)
theorem Odd.mono {H H' : Hp} (s : Same H H') {v : V} (h : Odd H v) : Odd H' v := by
  cases h with
  | non => exact .non
  | bl b => exact .bl b
  | int i => exact .int i
  | str z => exact .str z
  | lst e => exact .lst (s _ _ e)
  | tup e => exact .tup (s _ _ e)
  | dK e => exact .dK (s _ _ e)
def isInt : V → Bool
  | .int _ => true
  | .bl _ => true
  | _ => false
def isBl : V → Bool
  | .bl _ => true
  | _ => false
theorem Odd.ty {K : PySem.W.Frag} {H : Hp} {v : V} (h : Odd H v) : ∃ t, TyX K H v t ∧ PySem.W.kitOne K t (.type "int") = some (isInt v) ∧ PySem.W.kitOne K t (.type "bool") = some (isBl v) := by
  cases h with
  | non => exact ⟨_, .base .non, kit_ty (show kitB "NoneType" "int" = some false by decide +kernel), kit_ty (show kitB "NoneType" "bool" = some false by decide +kernel)⟩
  | bl b => exact ⟨_, .base (.bl b), kit_ty (show kitB "bool" "int" = some true by decide +kernel), kit_ty (show kitB "bool" "bool" = some true by decide +kernel)⟩
  | int i => exact ⟨_, .base (.int i), kit_ty (show kitB "int" "int" = some true by decide +kernel), kit_ty (show kitB "int" "bool" = some false by decide +kernel)⟩
  | str z => exact ⟨_, .base (.str z), kit_ty (show kitB "str" "int" = some false by decide +kernel), kit_ty (show kitB "str" "bool" = some false by decide +kernel)⟩
  | lst e => exact ⟨_, .base (.lst e), kit_ty (show kitB "list" "int" = some false by decide +kernel), kit_ty (show kitB "list" "bool" = some false by decide +kernel)⟩
  | tup e => exact ⟨_, .base (.tup e), kit_ty (show kitB "tuple" "int" = some false by decide +kernel), kit_ty (show kitB "tuple" "bool" = some false by decide +kernel)⟩
  | dK e => exact ⟨_, .base (.dK e), kit_ty (show kitB "dict" "int" = some false by decide +kernel), kit_ty (show kitB "dict" "bool" = some false by decide +kernel)⟩
def wholeB : V → Bool
  | .int _ => true
  | _ => false
def dayB : V → Bool
  | .int i => decide (0 ≤ i)
  | _ => false
theorem whole_eq (v : V) : (isInt v && !isBl v) = wholeB v := by cases v <;> rfl
def rightB : V → V → Bool
  | .int i, .non => decide (0 ≤ i)
  | .int i, .int j => decide (0 ≤ i) && decide (0 ≤ j) && decide (i ≤ j)
  | _, _ => false
section
variable {P : Program} {w : World} {K : PySem.W.Frag} {mg : Str → Option Value} {base : Heap}
theorem scWhole : FnScope ["thing"] ["thing"] (defScope sWhole) := ⟨rfl, rfl, rfl, by decide +kernel, rfl, by decide +kernel, by decide +kernel⟩
theorem scDay : FnScope ["thing"] ["thing"] (defScope sDay) := ⟨rfl, rfl, rfl, by decide +kernel, rfl, by decide +kernel, by decide +kernel⟩
theorem scInit : FnScope ["self", "first", "last"] ["self", "first", "last"] (defScope sInit) := ⟨rfl, rfl, rfl, by decide +kernel, rfl, by decide +kernel, by decide +kernel⟩
def spWhole : Sp := fun vs H Q _ => ∃ v, vs = [v] ∧ Odd H v ∧ Q (.bl (wholeB v)) H
def spDay : Sp := fun vs H Q _ => ∃ v, vs = [v] ∧ Odd H v ∧ Q (.bl (dayB v)) H
theorem ok_whole {f : Addr} {fd : FuncData} {k : Nat} (F : Fun K "is_whole" "is_whole" sWhole f fd) (T : Tx mg) : FnOk P w K mg base CX0 (k + 1) f fd ["thing"] spWhole := by
  refine F.ok scWhole (fun vs H Q E h => ?_) (fun cdv A outer s H vs Q E hr h => ?_)
  · obtain ⟨v, rfl, _⟩ := h
    rfl
  · obtain ⟨v, rfl, hv, q⟩ := h
    refine ⟨_, pss_one (ps_ret (pe_and (pe_callB call_isi (by rfl) T.isi (by decide +kernel) (pa_cons (pv 0) (pa_cons (pe_bltn (v := .ty "int") (by rfl) T.int (by decide +kernel) rfl) pa_nil)))
      (pe_one (pe_not (pe_callB call_isi (by rfl) T.isi (by decide +kernel) (pa_cons (pv 0) (pa_cons (pe_bltn (v := .ty "bool") (by rfl) T.bool (by decide +kernel) rfl) pa_nil))))))), ?_⟩
    obtain ⟨t, ty, k1, k2⟩ := hv.ty (K := K)
    refine ⟨_, rfl, v, .ty "int", t, _, isInt v, rfl, .ty _, ty, k1, _, rfl, ?_⟩
    rw [← whole_eq v] at q
    cases hb : isInt v with
    | false =>
      rw [hb] at q
      exact q
    | true =>
      rw [hb] at q
      exact ⟨_, rfl, v, .ty "bool", t, _, isBl v, rfl, .ty _, ty, k2, _, rfl, q⟩
theorem scFrom : FnScope ["thing", "least"] ["thing", "least"] (defScope sFrom) := ⟨rfl, rfl, rfl, by decide +kernel, rfl, by decide +kernel, by decide +kernel⟩
def spFrom : Sp := fun vs H Q _ => ∃ v, vs = [v, .int 0] ∧ Odd H v ∧ Q (.bl (dayB v)) H
theorem ok_from {f fW : Addr} {fd fdW : FuncData} {k : Nat} (F : Fun K "is_from" "is_from" sFrom f fd) (T : Tx mg) (FW : Has K mg "is_whole" ["thing"] sWhole fW fdW) : FnOk P w K mg base CX0 (k + 2) f fd ["thing", "least"] spFrom := by
  have GW : FnOk P w K mg base CX0 (k + 1) fW fdW ["thing"] spWhole := ok_whole FW.fn T
  refine F.ok scFrom (fun vs H Q E h => ?_) (fun cdv A outer s H vs Q E hr h => ?_)
  · obtain ⟨v, rfl, _⟩ := h
    rfl
  · obtain ⟨v, rfl, hv, q⟩ := h
    refine ⟨_, pss_one (ps_ret (pe_and (pe_call GW hr (by rfl) FW.gl FW.fn.kp FW.bd .nil pass0 (pa_cons (pv 0) pa_nil)) (pe_one (pe_cmpR op_ge (pv 0) (pv 1) (nomark _))))), ?_⟩
    refine ⟨_, rfl, v, rfl, hv, _, rfl, ?_⟩
    cases hv with
    | int i => exact ⟨_, rfl, _, rfl, i, 0, rfl, rfl, q⟩
    | _ => exact q
/-- is_whole, and is_from that goes by it -/
structure HasW (K : PySem.W.Frag) (mg : Str → Option Value) (fW : Addr) (fdW : FuncData) : Prop where
  w : Has K mg "is_whole" ["thing"] sWhole fW fdW
  f : ∃ g gd, Has K mg "is_from" ["thing", "least"] sFrom g gd
theorem ok_day {f fW : Addr} {fd fdW : FuncData} {k : Nat} (F : Fun K "is_day" "is_day" sDay f fd) (T : Tx mg) (FW : HasW K mg fW fdW) : FnOk P w K mg base CX0 (k + 3) f fd ["thing"] spDay := by
  obtain ⟨FW, fF, fdF, FF⟩ := FW
  have GF : FnOk P w K mg base CX0 (k + 2) fF fdF ["thing", "least"] spFrom := ok_from FF.fn T FW
  refine F.ok scDay (fun vs H Q E h => ?_) (fun cdv A outer s H vs Q E hr h => ?_)
  · obtain ⟨v, rfl, _⟩ := h
    rfl
  · obtain ⟨v, rfl, hv, q⟩ := h
    refine ⟨_, pss_one (ps_ret (pe_call GF hr (by rfl) FF.gl FF.fn.kp FF.bd .nil pass0 (pa_cons (pv 0) (pa_cons pe_int pa_nil)))), ?_⟩
    exact ⟨_, rfl, v, rfl, hv, q⟩
/-! ### the class -/
structure Ct (K : PySem.W.Frag) (mg : Str → Option Value) (C CN : Addr) : Prop where
  cl : Cls K C
  nF : PySem.W.findIn K (.ref C) "first_day" = some none
  nL : PySem.W.findIn K (.ref C) "last_day" = some none
  mgC : mg "Stretch" = some (.ref C)
  kC : PySem.W.keepIn K (.ref C) = true
  ha : PySem.W.findIn K (.ref C) "__class__" = some (some (.builtin "object.__class__"))
  hn : PySem.W.specialIn K (.builtin "object.__class__") "__get__" = some (some (.builtin "getset_descriptor.__get__"))
  ht : PySem.W.takesIn K (.builtin "object.__class__") = some true
  hm : PySem.W.mroIn K C (.type "object") = some true
  gN : mg "NoDay" = some (.ref CN)
  xN : PySem.W.excIn K CN [.type "ValueError", .type "Exception", .type "BaseException", .type "object"] "ValueError.__new__" = true
  kN : PySem.W.keepIn K (.ref CN) = true
  bN : PySem.W.subIn K (.ref CN) (.type "BaseException") = some true
  tN : PySem.W.typeIn K (.ref CN) = some (.type "type")
def sf (fv lv : V) : List (Str × V) := [("first_day", fv), ("last_day", lv)]
def spInit (C CN : Addr) : Sp := fun vs H Q E => ∃ x dx fv lv, vs = [.ref x, fv, lv] ∧ H x = some (.ins C dx []) ∧ Odd H fv ∧ Odd H lv ∧
  (rightB fv lv = true → Q .non (upd H x (.ins C dx (sf fv lv)))) ∧ (rightB fv lv = false → E (.ref CN) none H)
theorem ok_init {f fD fW C CN : Addr} {fd fdD fdW : FuncData} {k : Nat} (F : FunD K "__init__" "Stretch.__init__" (defArgs sInit) (defBody sInit) (defScope sInit) [.non] [] f fd) (T : Tx mg) (Z : Ct K mg C CN)
    (FD : Has K mg "is_day" ["thing"] sDay fD fdD) (FW : HasW K mg fW fdW) : FnOk P w K mg base (L2.CX P w) (k + 4) f fd ["self", "first", "last"] (spInit C CN) := by
  have GD : FnOk P w K mg base CX0 (k + 3) fD fdD ["thing"] spDay := ok_day FD.fn T FW
  refine F.ok scInit (fun vs H Q E h => ?_) (fun cdv A outer s H vs Q E hr h => ?_)
  · obtain ⟨x, dx, fv, lv, rfl, _⟩ := h
    rfl
  · obtain ⟨x, dx, fv, lv, rfl, hx, of, ol, q1, q2⟩ := h
    refine ⟨_, pss_cons (ps_if (pt_not (pt_val (pe_call GD hr (by rfl) FD.gl FD.fn.kp FD.bd .nil pass0 (pa_cons (pv 1) pa_nil))))
        (pss_one (ps_raise rfl (takes_of rfl rfl rfl rfl) (pmk_own PySem.F.excBase_ValueError Z.xN Z.gN Z.kN (raises_own Z.bN Z.tN) (by rfl)))) pss_nil)
      (pss_cons (ps_if (PW.pt (pw_and (pt_cmpR op_notN (pv 2) pe_non (nomark _)) (pw_and1 (pt_not (pt_val (pe_call GD hr (by rfl) FD.gl FD.fn.kp FD.bd .nil pass0 (pa_cons (pv 2) pa_nil)))))))
        (pss_one (ps_raise rfl (takes_of rfl rfl rfl rfl) (pmk_own PySem.F.excBase_ValueError Z.xN Z.gN Z.kN (raises_own Z.bN Z.tN) (by rfl)))) pss_nil)
      (pss_cons (ps_if (PW.pt (pw_and (pt_cmpR op_notN (pv 2) pe_non (nomark _)) (pw_and1 (pt_cmpR op_lt (pv 2) (pv 1) (nomark _)))))
        (pss_one (ps_raise rfl (takes_of rfl rfl rfl rfl) (pmk_own PySem.F.excBase_ValueError Z.xN Z.gN Z.kN (raises_own Z.bN Z.tN) (by rfl)))) pss_nil)
      (pss_cons (ps_fld (pv 0) (pv 1) rfl) (pss_one (ps_fld (pv 0) (pv 2) rfl))))), ?_⟩
    refine ⟨_, rfl, fv, rfl, of, _, rfl, ?_⟩
    have key : ∀ i : Int, 0 ≤ i → dayB (.int i) = true := fun i h => decide_eq_true h
    by_cases hd : dayB fv = true
    · obtain ⟨i, rfl, hi⟩ : ∃ i, fv = .int i ∧ 0 ≤ i := by
        cases fv <;> first | exact ⟨_, rfl, of_decide_eq_true hd⟩ | cases hd
      rw [key i hi]
      have put : ∀ lv, putF ("last_day" : Str) lv (putF ("first_day" : Str) (.int i) []) = sf (.int i) lv := fun lv => rfl
      have stores : ∀ lv, (rightB (.int i) lv = true → Q .non (upd H x (.ins C dx (sf (.int i) lv)))) → rightB (.int i) lv = true →
          Q .non (upd (upd H x (.ins C dx (putF ("first_day" : Str) (.int i) []))) x (.ins C dx (putF ("last_day" : Str) lv (putF ("first_day" : Str) (.int i) [])))) := fun lv h r => by
        rw [upd_upd, put]
        exact h r
      by_cases hl : lv = .non
      · subst hl
        refine ⟨_, rfl, rfl, _, rfl, ?_⟩
        refine ⟨_, rfl, rfl, _, rfl, ?_⟩
        refine ⟨_, rfl, _, rfl, x, C, dx, _, rfl, hx, Z.cl, Z.nF, (by decide), ?_⟩
        refine ⟨_, rfl, _, rfl, x, C, dx, _, rfl, upd_same, Z.cl, Z.nL, (by show 1 < 1000; decide), ?_⟩
        exact stores _ q1 (decide_eq_true hi)
      · have e1 : (!decide (lv = .non)) = true := by rw [decide_eq_false hl]; rfl
        refine ⟨_, rfl, rfl, _, rfl, ?_⟩
        rw [e1]
        refine ⟨_, rfl, lv, rfl, ol, _, rfl, ?_⟩
        by_cases hd2 : dayB lv = true
        · obtain ⟨j, rfl, hj⟩ : ∃ j, lv = .int j ∧ 0 ≤ j := by
            cases lv <;> first | exact ⟨_, rfl, of_decide_eq_true hd2⟩ | cases hd2
          rw [key j hj]
          refine ⟨_, rfl, rfl, _, rfl, ?_⟩
          rw [e1]
          refine ⟨_, rfl, _, rfl, j, i, rfl, rfl, _, rfl, ?_⟩
          by_cases hlt : j < i
          · rw [decide_eq_true hlt]
            refine q2 ?_
            show (decide (0 ≤ i) && decide (0 ≤ j) && decide (i ≤ j)) = false
            rw [decide_eq_false (show ¬ i ≤ j by omega), Bool.and_false]
          · rw [decide_eq_false hlt]
            refine ⟨_, rfl, _, rfl, x, C, dx, _, rfl, hx, Z.cl, Z.nF, (by decide), ?_⟩
            refine ⟨_, rfl, _, rfl, x, C, dx, _, rfl, upd_same, Z.cl, Z.nL, (by show 1 < 1000; decide), ?_⟩
            refine stores _ q1 ?_
            show (decide (0 ≤ i) && decide (0 ≤ j) && decide (i ≤ j)) = true
            rw [decide_eq_true hi, decide_eq_true hj, decide_eq_true (show i ≤ j by omega)]
            rfl
        · have e2 : dayB lv = false := by cases h : dayB lv <;> first | rfl | exact absurd h hd2
          rw [e2]
          refine q2 ?_
          cases lv with
          | non => exact absurd rfl hl
          | int j =>
            show (decide (0 ≤ i) && decide (0 ≤ j) && decide (i ≤ j)) = false
            have e3 : decide (0 ≤ j) = false := e2
            rw [e3, Bool.and_false, Bool.false_and]
          | _ => rfl
    · have e2 : dayB fv = false := by cases h : dayB fv <;> first | rfl | exact absurd h hd
      rw [e2]
      refine q2 ?_
      cases fv with
      | int i =>
        have e3 : decide (0 ≤ i) = false := e2
        cases lv with
        | non => exact e3
        | int j =>
          show (decide (0 ≤ i) && decide (0 ≤ j) && decide (i ≤ j)) = false
          rw [e3, Bool.false_and, Bool.false_and]
        | _ => rfl
      | _ => cases lv <;> rfl
end
theorem scFirst : FnScope ["self"] ["self"] (defScope sFirst) := ⟨rfl, rfl, rfl, by decide +kernel, rfl, by decide +kernel, by decide +kernel⟩
theorem scLast : FnScope ["self"] ["self"] (defScope sLast) := ⟨rfl, rfl, rfl, by decide +kernel, rfl, by decide +kernel, by decide +kernel⟩
/-- an end of a stretch -/
def EndV (v : V) : Prop := v = .non ∨ ∃ j : Int, v = .int j ∧ j.natAbs.log2 < 1920
/-- a stretch stands at x -/
structure St (C : Addr) (H : Hp) (x : Addr) (i : Int) (lv : V) : Prop where
  at_ : ∃ dx, H x = some (.ins C dx (sf (.int i) lv))
  lg : i.natAbs.log2 < 1920
  en : EndV lv
theorem St.mono {C : Addr} {H H' : Hp} {x : Addr} {i : Int} {lv : V} (s : St C H x i lv) (e : Same H H') : St C H' x i lv := by
  obtain ⟨⟨dx, h⟩, l, n⟩ := s
  exact ⟨⟨dx, e _ _ h⟩, l, n⟩
theorem sf_first (a b : V) : (sf a b).lookup ("first_day" : Str) = some a := by
  unfold sf
  rfl
theorem sf_last (a b : V) : (sf a b).lookup ("last_day" : Str) = some b := by
  unfold sf
  rfl
section
variable {P : Program} {w : World} {K : PySem.W.Frag} {mg : Str → Option Value} {base : Heap} {C CN : Addr}
def spGet (C : Addr) (g : V → V → V) : Sp := fun vs H Q _ => ∃ x i lv, vs = [.ref x] ∧ St C H x i lv ∧ Q (g (.int i) lv) H
theorem ok_first {f : Addr} {fd : FuncData} {k : Nat} (F : Fun K "first" "Stretch.first" sFirst f fd) (Z : Ct K mg C CN) : FnOk P w K mg base CX0 (k + 1) f fd ["self"] (spGet C fun a _ => a) := by
  refine F.ok scFirst (fun vs H Q E h => ?_) (fun cdv A outer s H vs Q E hr h => ?_)
  · obtain ⟨x, i, lv, rfl, _⟩ := h
    rfl
  · obtain ⟨x, i, lv, rfl, ⟨⟨dx, hx⟩, _, _⟩, q⟩ := h
    exact ⟨_, pss_one (ps_ret (pe_fld (pv 0) rfl)), _, rfl, x, C, dx, _, _, rfl, hx, Z.cl, Z.nF, sf_first _ _, q⟩
theorem ok_last {f : Addr} {fd : FuncData} {k : Nat} (F : Fun K "last" "Stretch.last" sLast f fd) (Z : Ct K mg C CN) : FnOk P w K mg base CX0 (k + 1) f fd ["self"] (spGet C fun _ b => b) := by
  refine F.ok scLast (fun vs H Q E h => ?_) (fun cdv A outer s H vs Q E hr h => ?_)
  · obtain ⟨x, i, lv, rfl, _⟩ := h
    rfl
  · obtain ⟨x, i, lv, rfl, ⟨⟨dx, hx⟩, _, _⟩, q⟩ := h
    exact ⟨_, pss_one (ps_ret (pe_fld (pv 0) rfl)), _, rfl, x, C, dx, _, _, rfl, hx, Z.cl, Z.nL, sf_last _ _, q⟩
end
theorem same_upd {H : Hp} {p : Addr} {o : HO} (h : H p = none) : Same H (upd H p o) := fun b x e => by
  rw [upd_ne (ne_of_none e h)]
  exact e
theorem same_app {H H1 : Hp} {p : Addr} {o : HO} (h : H p = none) (s : Same H H1) : Same H (upd H1 p o) := fun b x e => by
  rw [upd_ne (ne_of_none e h)]
  exact s _ _ e
theorem scCell : FnScope ["_law_script", "_law_k"] ["_law_script", "_law_k"] (defScope sCell) := ⟨rfl, rfl, rfl, by decide +kernel, rfl, by decide +kernel, by decide +kernel⟩
theorem scPot : FnScope ["_law_script", "_law_k", "_law_cell_here"] ["_law_script", "_law_k"] (defScope sPot) := ⟨rfl, rfl, rfl, by decide +kernel, rfl, by decide +kernel, by decide +kernel⟩
theorem scTake : FnScope ["_law_pot_here", "_law_room", "_law_digit"] ["_law_pot_here", "_law_room"] (defScope sTake) := ⟨rfl, rfl, rfl, by decide +kernel, rfl, by decide +kernel, by decide +kernel⟩
section
variable {P : Program} {w : World} {K : PySem.W.Frag} {mg : Str → Option Value} {base : Heap}
/-- a cell of the script -/
def spCell (K : PySem.W.Frag) : Sp := fun vs H Q _ => ∃ (a : Addr) (ns : List Int) (k : Nat), vs = [.ref a, .int (k : Nat)] ∧ SqL K H a (ns.map V.int) ∧
  ∀ z : Int, (z = 0 ∨ z ∈ ns) → Q (.int z) H
theorem ok_cell {f : Addr} {fd : FuncData} {k : Nat} (F : Fun K "_law_cell" "_law_cell" sCell f fd) (T : Tx mg) : FnOk P w K mg base CX0 (k + 1) f fd ["_law_script", "_law_k"] (spCell K) := by
  refine F.ok scCell (fun vs H Q E h => ?_) (fun cdv A outer s H vs Q E hr h => ?_)
  · obtain ⟨a, ns, k, rfl, _⟩ := h
    rfl
  · obtain ⟨a, ns, k, rfl, hS, q⟩ := h
    refine ⟨_, pss_one (ps_ret (pe_ifExp (pt_cmpR op_lt (pv 1) (pe_callB call_len_seq (by rfl) T.len PySem.boot_len (pa_cons (pv 0) pa_nil)) (nomark _))
      (pe_ix ix_list (pv 0) (pv 1) (fun _ _ => rfl)) pe_int)), ?_⟩
    refine ⟨_, rfl, _, rfl, a, _, rfl, .inl hS, _, _, rfl, rfl, _, rfl, ?_⟩
    by_cases hk : k < ns.length
    · rw [decide_eq_true (show ((k : Nat) : Int) < ((ns.map V.int).length : Nat) by rw [List.length_map]; omega)]
      refine iteT ?_
      refine ⟨_, rfl, _, rfl, a, _, _, .int ns[k], rfl, rfl, hS, atI_nat (by rw [List.getElem?_map, List.getElem?_eq_getElem hk]; rfl), ?_⟩
      exact q _ (.inr (List.getElem_mem hk))
    · rw [decide_eq_false (show ¬ ((k : Nat) : Int) < ((ns.map V.int).length : Nat) by rw [List.length_map]; omega)]
      exact iteF (q 0 (.inl rfl))
/-- a pot: two numbers -/
def Pot (H : Hp) (p : Addr) : Prop := ∃ a b : Int, H p = some (.lst [.int a, .int b]) ∧ 0 ≤ a ∧ 0 ≤ b ∧ b < 2147483647
def spPot (K : PySem.W.Frag) : Sp := fun vs H Q _ => ∃ (a : Addr) (ns : List Int) (k : Nat), vs = [.ref a, .int (k : Nat)] ∧ SqL K H a (ns.map V.int) ∧ k ≤ 1000 ∧
  ∀ p H', H p = none → Same H H' → Pot H' p → Q (.ref p) H'
theorem ok_pot {f fC : Addr} {fd fdC : FuncData} {k : Nat} (F : Fun K "_law_pot" "_law_pot" sPot f fd) (T : Tx mg) (FC : Fun K "_law_cell" "_law_cell" sCell fC fdC) (bC : L2.Binds K fdC ["_law_script", "_law_k"] []) (gC : mg "_law_cell" = some (.ref fC)) :
    FnOk P w K mg base CX0 (k + 2) f fd ["_law_script", "_law_k"] (spPot K) := by
  have GC : FnOk P w K mg base CX0 (k + 1) fC fdC ["_law_script", "_law_k"] (spCell K) := ok_cell FC T
  refine F.ok scPot (fun vs H Q E h => ?_) (fun cdv A outer s H vs Q E hr h => ?_)
  · obtain ⟨a, ns, k, rfl, _⟩ := h
    rfl
  · obtain ⟨a, ns, k, rfl, hS, hk, q⟩ := h
    refine ⟨_, pss_cons (ps_set (i := 2) scPot.nd rfl (.inl rfl) (pe_callB call_abs (by rfl) T.abs (by decide +kernel) (pa_cons (pe_call GC hr (by rfl) gC FC.kp bC .nil pass0 (pa_cons (pv 0) (pa_cons (pv 1) pa_nil))) pa_nil)))
      (pss_one (ps_ret (pe_lst (pa_cons (pe_callB (call_max2 rfl) (by rfl) T.max (by decide +kernel) (pa_cons pe_int (pa_cons (pe_op op_sub (pv 2) (pe_op op_pow pe_int pe_int)) pa_nil)))
        (pa_cons (pe_op op_mod (pe_op op_add (pe_op op_add (pe_op op_add (pe_op op_mul (pe_op op_mod (pv 2) pe_int) pe_int) (pe_op op_mul (pe_op op_mul pe_int (pv 1)) (pv 1))) (pe_op op_mul pe_int (pv 1))) pe_int) pe_int) pa_nil))))), ?_⟩
    refine ⟨_, rfl, _, rfl, a, ns, k, rfl, hS, fun z hz => ?_⟩
    refine ⟨z, rfl, ?_⟩
    have hk0 : (0 : Int) ≤ (k : Nat) := Int.natCast_nonneg k
    have hk1 : ((k : Nat) : Int) ≤ 1000 := by omega
    have hm := Int.emod_nonneg (if z < 0 then -z else z) (show (2147483563 : Int) ≠ 0 by decide)
    have hm2 := Int.emod_lt_of_pos (if z < 0 then -z else z) (show (0 : Int) < 2147483563 by decide)
    refine ⟨_, rfl, _, _, rfl, rfl, ⟨by decide, by decide, by decide⟩, _, _, rfl, rfl, 0, _, rfl, ?_⟩
    refine ⟨_, rfl, _, _, rfl, rfl, by show (0 : Int) < 2147483563; decide, _, _, rfl, rfl, .inl ⟨by omega, by omega⟩, ?_⟩
    refine ⟨_, rfl, _, _, rfl, rfl, .inl ⟨by decide, by decide⟩, _, rfl, _, _, rfl, rfl, .inr ⟨by omega, by omega⟩, _, _, rfl, rfl, ?_⟩
    refine ⟨_, rfl, _, _, rfl, rfl, .inl ⟨by decide, by decide⟩, _, _, rfl, rfl, _, _, rfl, rfl, _, _, rfl, rfl, by show (0 : Int) < 2147483563; decide, ?_⟩
    refine ⟨by show 2 ≤ sizeLine; decide, fun l nl => q l _ nl (same_upd nl) ⟨_, _, upd_same, ?_, Int.emod_nonneg _ (by decide), Int.lt_trans (Int.emod_lt_of_pos _ (by decide)) (by decide)⟩⟩
    split <;> omega
/-- all but what stands at p is as it was -/
def SameB (p : Addr) (H H' : Hp) : Prop := ∀ b o, b ≠ p → H b = some o → H' b = some o
theorem SameB.trans {p : Addr} {H H1 H2 : Hp} (a : SameB p H H1) (b : SameB p H1 H2) : SameB p H H2 := fun c o n h => b c o n (a c o n h)
theorem SameB.of {p : Addr} {H H' : Hp} (s : Same H H') : SameB p H H' := fun b o _ e => s b o e
theorem SameB.upd {p : Addr} {H H' : Hp} {o : HO} (s : SameB p H H') : SameB p H (upd H' p o) := fun b x n e => by
  rw [upd_ne n]
  exact s b x n e
theorem SameB.new {p q : Addr} {H H' : Hp} {o : HO} (h : H q = none) (s : SameB p H H') : SameB p H (L2.upd H' q o) := fun b x n e => by
  rw [upd_ne (ne_of_none e h)]
  exact s b x n e
/-- a draw from a pot -/
def spTake : Sp := fun vs H Q _ => ∃ (p : Addr) (r : Int), vs = [.ref p, .int r] ∧ Pot H p ∧ 0 < r ∧ r ≤ 1000000000 ∧
  ∀ (d : Int) (H' : Hp), 0 ≤ d → d < r → Pot H' p → SameB p H H' → Q (.int d) H'
theorem ok_take {f : Addr} {fd : FuncData} {k : Nat} (F : Fun K "_law_take" "_law_take" sTake f fd) (T : Tx mg) : FnOk P w K mg base CX0 (k + 1) f fd ["_law_pot_here", "_law_room"] spTake := by
  refine F.ok scTake (fun vs H Q E h => ?_) (fun cdv A outer s H vs Q E hr h => ?_)
  · obtain ⟨p, r, rfl, _⟩ := h
    rfl
  · obtain ⟨p, r, rfl, ⟨a, b, hp, a0, b0, bB⟩, r0, r1, q⟩ := h
    refine ⟨_, pss_cons (ps_if (pt_cmpR op_gt (pe_ix ix_list (pv 0) pe_int (fun _ _ => rfl)) pe_int (nomark _))
        (pss_cons (ps_asg (pe_callB call_divmodW (by rfl) T.divmod (by decide +kernel) (pa_cons (pe_ix ix_list (pv 0) pe_int (fun _ _ => rfl)) (pa_cons (pv 1) pa_nil)))
            (pg_tup rfl (pgs_cons (pg_sub (pv 0) pe_int set_list) (pgs_cons (pg_name (i := 2) scTake.nd rfl (.inl rfl)) pgs_nil))))
          (pss_one (ps_ret (pv 2)))) pss_nil)
      (pss_cons (ps_asg (pe_op op_mod (pe_op op_add (pe_op op_mul (pe_ix ix_list (pv 0) pe_int (fun _ _ => rfl)) pe_int) pe_int) pe_int) (pg_sub (pv 0) pe_int set_list))
        (pss_one (ps_ret (pe_op op_mod (pe_op op_fdiv (pe_op op_mod (pe_op op_mul (pe_ix ix_list (pv 0) pe_int (fun _ _ => rfl)) (pe_ix ix_list (pv 0) pe_int (fun _ _ => rfl))) pe_int) pe_int) (pv 1))))), ?_⟩
    refine ⟨_, rfl, p, _, 0, _, rfl, rfl, SqL.of hp, atI_nat (j := 0) rfl, _, _, rfl, rfl, _, rfl, ite2 (fun h => ?_) (fun h => ?_)⟩
    · have ha : 0 < a := of_decide_eq_true h
      refine ⟨_, rfl, p, _, 0, _, rfl, rfl, SqL.of hp, atI_nat (j := 0) rfl, _, rfl, a, r, rfl, ⟨r0, PyProof.noPylong_small (by omega)⟩, fun t nt => ?_⟩
      have npt : p ≠ t := ne_of_none hp nt
      have hp2 : (upd H t (.tup [.int (a / r), .int (a % r)])) p = some (.lst [.int a, .int b]) := by
        rw [upd_ne npt]
        exact hp
      refine ⟨t, _, rfl, SqT.of upd_same, rfl, _, _, rfl, ?_⟩
      refine ⟨_, rfl, p, _, 0, 0, rfl, rfl, hp2, rfl, _, _, rfl, rfl, ?_⟩
      refine ⟨_, rfl, q _ _ (Int.emod_nonneg _ (by omega)) (Int.emod_lt_of_pos _ r0) ⟨_, _, upd_same, Int.ediv_nonneg a0 (by omega), b0, bB⟩ (SameB.upd (SameB.new nt (SameB.of (Same.refl H))))⟩
    · refine ⟨_, rfl, p, _, 1, _, rfl, rfl, SqL.of hp, atI_nat (j := 1) rfl, _, _, rfl, rfl, .inl ⟨by omega, by omega⟩, _, _, rfl, rfl, _, _, rfl, rfl, by show (0 : Int) < 2147483647; decide, ?_⟩
      refine ⟨_, rfl, p, _, 1, 1, rfl, rfl, hp, rfl, ?_⟩
      have n0 := Int.emod_nonneg (b * 48271 + 12347) (show (2147483647 : Int) ≠ 0 by decide)
      have n1 := Int.emod_lt_of_pos (b * 48271 + 12347) (show (0 : Int) < 2147483647 by decide)
      refine ⟨_, rfl, p, _, 1, _, rfl, rfl, SqL.of upd_same, atI_nat (j := 1) rfl, _, rfl, p, _, 1, _, rfl, rfl, SqL.of upd_same, atI_nat (j := 1) rfl, _, _, rfl, rfl, .inl ⟨by omega, by omega⟩, ?_⟩
      refine ⟨_, _, rfl, rfl, by show (0 : Int) < 2147483629; decide, _, _, rfl, rfl, ⟨by decide, by decide⟩, _, rfl, _, _, rfl, rfl, r0, ?_⟩
      exact q _ _ (Int.emod_nonneg _ (by omega)) (Int.emod_lt_of_pos _ r0) ⟨_, _, upd_same, a0, n0, n1⟩ (SameB.upd (SameB.of (Same.refl H)))
end
theorem Pot.ne {H : Hp} {p q : Addr} (h : Pot H p) (n : H q = none) : q ≠ p := fun e => by
  obtain ⟨a, b, e1, _⟩ := h
  rw [← e, n] at e1
  cases e1
theorem SameB.none {p q : Addr} {H H1 : Hp} (s : SameB p H H1) (h : Pot H1 p) (n : H1 q = none) : H q = none := by
  cases e : H q with
  | none => rfl
  | some o =>
    rw [s q o (h.ne n) e] at n
    cases n
theorem Pot.upd {H : Hp} {p q : Addr} {o : HO} (h : Pot H p) (n : q ≠ p) : Pot (L2.upd H q o) p := by
  obtain ⟨a, b, e, r⟩ := h
  exact ⟨a, b, by rw [upd_ne n.symm]; exact e, r⟩
theorem Pot.mono {H H' : Hp} {p : Addr} (h : Pot H p) (s : Same H H') : Pot H' p := by
  obtain ⟨a, b, e, r⟩ := h
  exact ⟨a, b, s _ _ e, r⟩
theorem ne_of_pot {H : Hp} {p q : Addr} {o : HO} (h : Pot H p) (e : H q = some o) (n : ∀ a b : Int, o ≠ .lst [.int a, .int b] := by intros; nofun) : q ≠ p := by
  obtain ⟨a, b, ep, _⟩ := h
  exact ne_of e ep (n a b)
theorem sameB_new {p : Addr} {H H1 H2 : Hp} (n : H p = none) (s : Same H H1) (b : SameB p H1 H2) : Same H H2 := fun c o e => b c o (ne_of_none e n) (s c o e)
theorem scFar : FnScope ["_law_pot_here", "_law_number", "_law_k"] ["_law_pot_here"] (defScope sFar) := ⟨rfl, rfl, rfl, by decide +kernel, rfl, by decide +kernel, by decide +kernel⟩
section
variable {P : Program} {w : World} {K : PySem.W.Frag} {mg : Str → Option Value} {base : Heap} {C CN : Addr}
abbrev PotFn (K : PySem.W.Frag) (mg : Str → Option Value) (x : Str) (st : Stmt) (f : Addr) (fd : FuncData) : Prop := Has K mg x ["_law_pot_here"] st f fd
abbrev TakeFn (K : PySem.W.Frag) (mg : Str → Option Value) (f : Addr) (fd : FuncData) : Prop := Has K mg "_law_take" ["_law_pot_here", "_law_room"] sTake f fd
def spFar (lo hi : Int) : Sp := fun vs H Q _ => ∃ p, vs = [.ref p] ∧ Pot H p ∧ ∀ (d : Int) (H' : Hp), lo ≤ d → d ≤ hi → Pot H' p → SameB p H H' → Q (.int d) H'
theorem e8 : (10 : Int) ^ Int.toNat 8 = 100000000 := by decide
theorem ok_far {f fT : Addr} {fd fdT : FuncData} {k : Nat} (F : Fun K "_law_far" "_law_far" sFar f fd) (T : Tx mg) (FT : TakeFn K mg fT fdT) : FnOk P w K mg base CX0 (k + 2) f fd ["_law_pot_here"] (spFar 0 (10 ^ 56)) := by
  have GT : FnOk P w K mg base CX0 (k + 1) fT fdT ["_law_pot_here", "_law_room"] spTake := ok_take FT.fn T
  refine F.ok scFar (fun vs H Q E h => ?_) (fun cdv A outer s H vs Q E hr h => ?_)
  · obtain ⟨p, rfl, _⟩ := h
    rfl
  · obtain ⟨p, rfl, hp, q⟩ := h
    have nd := scFar.nd
    refine ⟨_, pss_cons (ps_set (i := 1) nd rfl (.inl rfl) pe_int)
      (pss_cons (ps_for PassesOwn.never rfl (pi_range1 (by rfl) T.range (pa_cons (pe_op op_add pe_int (pe_call GT hr (by rfl) FT.gl FT.fn.kp FT.bd .nil pass0 (pa_cons (pv 0) (pa_cons pe_int pa_nil)))) pa_nil)) (pg_name (i := 2) nd rfl (.inl rfl))
        (pss_one (ps_set (i := 1) nd rfl (.inl rfl) (pe_op op_add (pe_op op_mul (pv 1) (pe_op op_pow pe_int pe_int)) (pe_call GT hr (by rfl) FT.gl FT.fn.kp FT.bd .nil pass0 (pa_cons (pv 0) (pa_cons (pe_op op_pow pe_int pe_int) pa_nil)))))))
      (pss_one (ps_ret (pv 1)))), ?_⟩
    refine ⟨_, rfl, p, 7, rfl, hp, by decide, by decide, fun d H1 d0 d1 hp1 sm1 => ?_⟩
    refine ⟨1, d, rfl, rfl, 1 + d, rfl, by omega, by omega, for_range (lo := 0) (n := (1 + d).toNat) (fun i σ H' => ∃ (n : Int) (y : Option V), σ = [some (.ref p), some (.int n), y] ∧ 0 ≤ n ∧ n < (100000000 : Int) ^ i ∧ Pot H' p ∧ SameB p H H') ⟨0, none, rfl, by decide, by decide, hp1, sm1⟩ ?_ ?_⟩
    · rintro i σ H2 hi ⟨n, y, rfl, n0, n1, hp2, sm2⟩
      refine ⟨_, rfl, _, _, rfl, rfl, ⟨by decide, by decide, by decide⟩, _, _, rfl, rfl, .inr ⟨by decide, by decide⟩, ?_⟩
      refine ⟨_, rfl, _, _, rfl, rfl, ⟨by decide, by decide, by decide⟩, p, _, rfl, hp2, by decide, by decide, fun e H3 e0 e1 hp3 sm3 => ?_⟩
      refine ⟨_, _, rfl, rfl, _, _, rfl, ?_, ?_, hp3, sm2.trans sm3⟩
      · rw [e8] at *
        omega
      · rw [e8] at *
        rw [Int.pow_succ]
        omega
    · rintro σ H2 ⟨n, y, rfl, n0, n1, hp2, sm2⟩
      refine ⟨_, rfl, q n H2 n0 ?_ hp2 sm2⟩
      have hn : (1 + d).toNat = 1 ∨ (1 + d).toNat = 2 ∨ (1 + d).toNat = 3 ∨ (1 + d).toNat = 4 ∨ (1 + d).toNat = 5 ∨ (1 + d).toNat = 6 ∨ (1 + d).toNat = 7 := by omega
      rcases hn with h | h | h | h | h | h | h <;> (rw [h] at n1; omega)
end
end K17

set_option Elab.async false
set_option linter.all false
set_option maxRecDepth 100000
set_option maxHeartbeats 800000
namespace K17
open PySem PySem.Spec PyProof.Rows L2 LT LamX
/-! ### rows -/
abbrev Row := LD.Row
structure RB (r : Row) : Prop where
  ok : LD.Ok r
  b1 : r.1 ≤ 10 ^ 58
  b2 : ∀ j, r.2 = some j → j ≤ 10 ^ 58
/-- as drawn -/
structure RBd (r : Row) : Prop where
  ok : LD.Ok r
  b1 : r.1 ≤ 10 ^ 57
  b2 : ∀ j, r.2 = some j → j ≤ 10 ^ 57
theorem RBd.rb {r : Row} (h : RBd r) : RB r := by
  have h1 := h.b1
  refine ⟨h.ok, by omega, fun j e => ?_⟩
  have := h.b2 j e
  omega
theorem lg_of {i : Int} (h : i.natAbs ≤ 10 ^ 62) : i.natAbs.log2 < 1920 := by
  by_cases h0 : i.natAbs = 0
  · rw [h0]
    decide
  · rw [Nat.log2_lt h0]
    exact Nat.lt_of_le_of_lt h (by decide)
/-- a stretch of the days of r -/
def SR (C : Addr) (H : Hp) (v : V) (r : Row) : Prop := RB r ∧ ∃ x dx, v = .ref x ∧ H x = some (.ins C dx (sf (.int r.1) (enc r.2)))
theorem SR.st {C : Addr} {H : Hp} {v : V} {r : Row} (h : SR C H v r) : ∃ x dx, v = .ref x ∧ H x = some (.ins C dx (sf (.int r.1) (enc r.2))) ∧ St C H x r.1 (enc r.2) := by
  obtain ⟨b, x, dx, e, hx⟩ := h
  have h0 := b.ok.1
  have h1 := b.b1
  refine ⟨x, dx, e, hx, ⟨dx, hx⟩, lg_of (by omega), ?_⟩
  cases hr : r.2 with
  | none => exact .inl rfl
  | some j =>
    have h2 := b.b2 j hr
    have h3 := b.ok.2 j hr
    exact .inr ⟨j, rfl, lg_of (by omega)⟩
theorem SR.ext {C : Addr} {H H' : Hp} {v : V} {r : Row} (h : SR C H v r) (e : ExtN H H') : SR C H' v r := by
  obtain ⟨b, x, dx, ev, hx⟩ := h
  exact ⟨b, x, dx, ev, e _ _ hx nofun⟩
inductive SRs (C : Addr) (H : Hp) : List V → List Row → Prop
  | nil : SRs C H [] []
  | cons {v : V} {r : Row} {vs : List V} {rs : List Row} : SR C H v r → SRs C H vs rs → SRs C H (v :: vs) (r :: rs)
theorem SRs.ext {C : Addr} {H H' : Hp} {vs : List V} {rs : List Row} (h : SRs C H vs rs) (e : ExtN H H') : SRs C H' vs rs := by
  induction h with
  | nil => exact .nil
  | cons a _ ih => exact .cons (a.ext e) ih
theorem SRs.length {C : Addr} {H : Hp} {vs : List V} {rs : List Row} (h : SRs C H vs rs) : vs.length = rs.length := by
  induction h with
  | nil => rfl
  | cons a _ ih => rw [List.length_cons, List.length_cons, ih]
theorem SRs.append {C : Addr} {H : Hp} {vs us : List V} {rs ss : List Row} (h : SRs C H vs rs) (g : SRs C H us ss) : SRs C H (vs ++ us) (rs ++ ss) := by
  induction h with
  | nil => exact g
  | cons a _ ih => exact .cons a ih
theorem SRs.reverse {C : Addr} {H : Hp} {vs : List V} {rs : List Row} (h : SRs C H vs rs) : SRs C H vs.reverse rs.reverse := by
  induction h with
  | nil => exact .nil
  | cons a _ ih =>
    rw [List.reverse_cons, List.reverse_cons]
    exact ih.append (.cons a .nil)
theorem SRs.at {C : Addr} {H : Hp} {vs : List V} {rs : List Row} (h : SRs C H vs rs) : ∀ {i : Nat} {v : V}, vs[i]? = some v → ∃ r, rs[i]? = some r ∧ SR C H v r := by
  induction h with
  | nil => intro i v e; cases e
  | cons a _ ih =>
    intro i v e
    cases i with
    | zero => cases e; exact ⟨_, rfl, a⟩
    | succ i => exact ih e
theorem SRs.mem {C : Addr} {H : Hp} {vs : List V} {rs : List Row} (h : SRs C H vs rs) {v : V} (hv : v ∈ vs) : ∃ r ∈ rs, SR C H v r := by
  obtain ⟨i, e⟩ := List.mem_iff_getElem?.mp hv
  obtain ⟨r, er, s⟩ := h.at e
  exact ⟨r, List.mem_of_getElem? er, s⟩
theorem SRs.rb {C : Addr} {H : Hp} {vs : List V} {rs : List Row} (h : SRs C H vs rs) : ∀ r ∈ rs, RB r := by
  induction h with
  | nil => exact nofun
  | cons a _ ih =>
    intro r hr
    rcases List.mem_cons.mp hr with rfl | hr
    · exact a.1
    · exact ih r hr
/-- the row of a stretch -/
def rowOf (H : Hp) : V → Row
  | .ref x => match H x with
    | some (.ins _ _ [(_, .int i), (_, .int j)]) => (i, some j)
    | some (.ins _ _ [(_, .int i), _]) => (i, none)
    | _ => (0, none)
  | _ => (0, none)
theorem SR.row {C : Addr} {H : Hp} {v : V} {r : Row} (h : SR C H v r) : rowOf H v = r := by
  obtain ⟨_, x, dx, rfl, hx⟩ := h
  obtain ⟨a, y⟩ := r
  cases y with
  | none =>
    have hx : H x = some (.ins C dx [("first_day", .int a), ("last_day", .non)]) := hx
    unfold rowOf
    simp only [hx]
  | some j =>
    have hx : H x = some (.ins C dx [("first_day", .int a), ("last_day", .int j)]) := hx
    unfold rowOf
    simp only [hx]
theorem SRs.map {C : Addr} {H : Hp} {vs : List V} {rs : List Row} (h : SRs C H vs rs) : rs = vs.map (rowOf H) := by
  induction h with
  | nil => rfl
  | cons a _ ih => rw [List.map_cons, a.row, ← ih]
theorem SRs.of {C : Addr} {H : Hp} : ∀ {vs : List V}, (∀ v ∈ vs, SR C H v (rowOf H v)) → SRs C H vs (vs.map (rowOf H))
  | [], _ => .nil
  | v :: vs, h => .cons (h v (.head _)) (SRs.of fun u hu => h u (.tail _ hu))
/-- sorted by the first days -/
theorem SRs.sorted {C : Addr} {H : Hp} {vs : List V} {rs : List Row} (h : SRs C H vs rs) :
    ∃ ss, SRs C H (vs.mergeSort fun a b => decide ((rowOf H a).1 ≤ (rowOf H b).1)) ss ∧ (∀ r, r ∈ ss ↔ r ∈ rs) ∧ ss.Pairwise (fun a b => a.1 ≤ b.1) ∧ ss.length = rs.length := by
  have pm := List.mergeSort_perm vs fun a b => decide ((rowOf H a).1 ≤ (rowOf H b).1)
  have all : ∀ v ∈ vs.mergeSort (fun a b => decide ((rowOf H a).1 ≤ (rowOf H b).1)), SR C H v (rowOf H v) := fun v hv => by
    obtain ⟨r, _, s⟩ := h.mem (pm.mem_iff.mp hv)
    rw [s.row]
    exact s
  refine ⟨_, SRs.of all, fun r => ?_, ?_, ?_⟩
  · rw [h.map]
    exact (pm.map (rowOf H)).mem_iff
  · have sr := List.pairwise_mergeSort (le := fun a b => decide ((rowOf H a).1 ≤ (rowOf H b).1)) (fun a b c h1 h2 => by
        simp only [decide_eq_true_eq] at *
        omega) (fun a b => by
        rw [Bool.or_eq_true, decide_eq_true_eq, decide_eq_true_eq]
        omega) vs
    rw [List.pairwise_map]
    exact sr.imp fun h => of_decide_eq_true h
  · rw [List.length_map, List.length_mergeSort, h.length]
theorem same_made {H : Hp} {x dx C : Addr} {o : HO} (nx : H x = none) (nd : H dx = none) : Same H (upd (upd H dx (.own x)) x o) := fun b z e => by
  rw [upd_ne (ne_of_none e nx), upd_ne (ne_of_none e nd)]
  exact e
theorem encOdd {H : Hp} (o : Option Int) : Odd H (enc o) := by
  cases o with
  | none => exact .non
  | some j => exact .int j
theorem rb_right {r : Row} (h : LD.Ok r) : rightB (.int r.1) (enc r.2) = true := by
  cases hr : r.2 with
  | none => exact decide_eq_true h.1
  | some j =>
    have h1 := h.2 j hr
    have h0 := h.1
    show (decide (0 ≤ r.1) && decide (0 ≤ j) && decide (r.1 ≤ j)) = true
    rw [decide_eq_true h0, decide_eq_true (show 0 ≤ j by omega), decide_eq_true h1]
    rfl
/-- Stretch(i, l) where the two are a row -/
theorem mk_init {C CN : Addr} {H : Hp} {x dx : Addr} {r : Row} {Q : VK} {E : XK} (nx : H x = none) (ndx : H dx = none) (nex : dx ≠ x) (hr : RB r)
    (h : ∀ H', Same H H' → SR C H' (.ref x) r → Q .non H') : spInit C CN [.ref x, .int r.1, enc r.2] (upd (upd H dx (.own x)) x (.ins C dx [])) Q E := by
  have s1 : Same H (upd (upd H dx (.own x)) x (.ins C dx [])) := same_made (C := C) nx ndx
  refine ⟨x, dx, .int r.1, enc r.2, rfl, upd_same, .int _, encOdd _, fun _ => h _ ?_ ⟨hr, x, dx, rfl, upd_same⟩, fun z => absurd (rb_right hr.ok) (by rw [z]; exact nofun)⟩
  rw [upd_upd]
  exact same_made (C := C) nx ndx
end K17

set_option Elab.async false
set_option linter.all false
set_option maxRecDepth 100000
set_option maxHeartbeats 800000
namespace K17
open PySem PySem.Spec PyProof.Rows L2 LT LamX
theorem scMeets : FnScope ["stretch", "later"] ["stretch", "later"] (defScope sMeets) := ⟨rfl, rfl, rfl, by decide +kernel, rfl, by decide +kernel, by decide +kernel⟩
theorem scLater : FnScope ["one", "other"] ["one", "other"] (defScope sLater) := ⟨rfl, rfl, rfl, by decide +kernel, rfl, by decide +kernel, by decide +kernel⟩
theorem scChk : FnScope ["thing", "each"] ["thing"] (defScope sChk) := ⟨rfl, rfl, rfl, by decide +kernel, rfl, by decide +kernel, by decide +kernel⟩
section
variable {P : Program} {w : World} {K : PySem.W.Frag} {mg : Str → Option Value} {base : Heap} {C CN CS : Addr}
/-- what the program's defs lean on -/
structure Pr (K : PySem.W.Frag) (mg : Str → Option Value) (C CN : Addr) : Prop where
  first : ∃ f fd, Mth K C "first" "Stretch.first" ["self"] sFirst f fd
  last : ∃ f fd, Mth K C "last" "Stretch.last" ["self"] sLast f fd
  ct : Ct K mg C CN
def spMeets (C : Addr) : Sp := fun vs H Q _ => ∃ v u r s, vs = [v, u] ∧ SR C H v r ∧ SR C H u s ∧ Q (.bl (LD.meetsB r s)) H
theorem ok_meets {f : Addr} {fd : FuncData} {k : Nat} (F : Fun K "meets" "meets" sMeets f fd) (R : Pr K mg C CN) : FnOk P w K mg base CX0 (k + 2) f fd ["stretch", "later"] (spMeets C) := by
  obtain ⟨_, _, F1⟩ := R.first
  obtain ⟨_, _, F2⟩ := R.last
  have G1 : FnOk P w K mg base CX0 (k + 1) _ _ ["self"] (spGet C fun a _ => a) := ok_first F1.fn R.ct
  have G2 : FnOk P w K mg base CX0 (k + 1) _ _ ["self"] (spGet C fun _ b => b) := ok_last F2.fn R.ct
  refine F.ok scMeets (fun vs H Q E h => ?_) (fun cdv A outer s H vs Q E hr h => ?_)
  · obtain ⟨v, u, r, s, rfl, _⟩ := h
    rfl
  · obtain ⟨v, u, r, s, rfl, hv, hu, q⟩ := h
    refine ⟨_, pss_one (ps_ret (pe_or (pe_cmpR op_isN (pe_meth0 (pv 0) R.ct.cl F2.me G2 hr F2.bd .nil pass0) pe_non (nomark _))
      (pe_one (pe_cmpR op_le (pe_meth0 (pv 1) R.ct.cl F1.me G1 hr F1.bd .nil pass0) (pe_op op_add (pe_meth0 (pv 0) R.ct.cl F2.me G2 hr F2.bd .nil pass0) pe_int) (nomark _))))), ?_⟩
    obtain ⟨x, dx, rfl, hx, sx⟩ := hv.st
    obtain ⟨y, dy, rfl, hy, sy⟩ := hu.st
    refine ⟨_, rfl, x, dx, _, rfl, hx, rfl, x, r.1, enc r.2, rfl, sx, rfl, _, rfl, ?_⟩
    obtain ⟨a, z⟩ := r
    cases z with
    | none => exact q
    | some j => exact ⟨_, rfl, y, dy, _, rfl, hy, rfl, y, s.1, enc s.2, rfl, sy, _, rfl, x, dx, _, rfl, hx, rfl, x, a, .int j, rfl, sx, _, _, rfl, rfl, _, _, rfl, rfl, q⟩
def spLater : Sp := fun vs H Q _ => ∃ a b, vs = [enc a, enc b] ∧ Q (enc (LD.laterO a b)) H
theorem ok_later {f : Addr} {fd : FuncData} {k : Nat} (F : Fun K "later_end" "later_end" sLater f fd) (T : Tx mg) : FnOk P w K mg base CX0 (k + 1) f fd ["one", "other"] spLater := by
  refine F.ok scLater (fun vs H Q E h => ?_) (fun cdv A outer s H vs Q E hr h => ?_)
  · obtain ⟨a, b, rfl, _⟩ := h
    rfl
  · obtain ⟨a, b, rfl, q⟩ := h
    refine ⟨_, pss_cons (ps_if (PW.pt (pw_or (pt_cmpR op_isN (pv 0) pe_non (nomark _)) (pw_or1 (pt_cmpR op_isN (pv 1) pe_non (nomark _))))) (pss_one (ps_ret pe_non)) pss_nil)
      (pss_one (ps_ret (pe_callB (call_max2 rfl) (by rfl) T.max (by decide +kernel) (pa_cons (pv 0) (pa_cons (pv 1) pa_nil))))), ?_⟩
    refine ⟨_, rfl, rfl, _, rfl, ?_⟩
    cases a with
    | none => exact q
    | some i =>
      refine ⟨_, rfl, rfl, _, rfl, ?_⟩
      cases b with
      | none => exact q
      | some j => exact ⟨_, rfl, _, rfl, i, j, rfl, q⟩
/-- a statement that is never come to -/
theorem ps_no {X : Cx} {st : Stmt} : PS X st (fun _ _ _ => False) := ⟨fun _ _ _ _ _ _ h => h.elim⟩
def Sd (H : Hp) (q : Addr) (xs : List V) : Prop := H q = some (.lst xs) ∨ H q = some (.tup xs)
theorem Sd.sq {H : Hp} {q : Addr} {xs : List V} (h : Sd H q xs) : Sq2 K H q xs := h.imp (fun e => SqL.of e) (fun e => SqT.of e)
theorem Sd.ext {H H' : Hp} {q : Addr} {xs : List V} (h : Sd H q xs) (e : ExtN H H') : Sd H' q xs := h.imp (fun z => e _ _ z nofun) (fun z => e _ _ z nofun)
theorem kit_lt (x : String) (h : x = "list" ∨ x = "tuple") : PySem.W.kitAny K (.type x) [.type "list", .type "tuple"] = some true := by
  rcases h with rfl | rfl
  · exact kitAny_cons (b := true) (kit_ty (show kitB "list" "list" = some true by decide +kernel)) nofun (fun _ => rfl)
  · exact kitAny_cons (b := false) (kit_ty (show kitB "tuple" "list" = some false by decide +kernel)) (fun _ => kitAny_cons (b := true) (kit_ty (show kitB "tuple" "tuple" = some true by decide +kernel)) nofun (fun _ => rfl)) nofun
def spChk (C : Addr) : Sp := fun vs H Q _ => ∃ q xs, vs = [.ref q] ∧ Sd H q xs ∧ xs.length ≤ 1000 ∧ (∀ v ∈ xs, ∃ x dx fs, v = .ref x ∧ H x = some (.ins C dx fs)) ∧ ∀ H', Same H H' → Q .non H'
theorem all_true (bs : List Bool) (h : ∀ b ∈ bs, b = true) : bs.all id = true := by
  rw [List.all_eq_true]
  exact fun b hb => h b hb
theorem ok_chk {f : Addr} {fd : FuncData} {k : Nat} (F : Fun K "check_stretches" "check_stretches" sChk f fd) (T : Tx mg) (Z : Ct K mg C CN) (own : PySem.W.kitOne K (.ref C) (.ref C) = some true) : FnOk P w K mg base CX0 (k + 1) f fd ["thing"] (spChk C) := by
  refine F.ok scChk (fun vs H Q E h => ?_) (fun cdv A outer s H vs Q E hr h => ?_)
  · obtain ⟨q, xs, rfl, _⟩ := h
    rfl
  · obtain ⟨q, xs, rfl, hq, hl, hi, fin⟩ := h
    have nd := scChk.nd
    refine ⟨_, pss_cons (ps_if (pt_not (pt_val (pe_callB call_isiT (by rfl) T.isi (by decide +kernel) (pa_cons (pv 0) (pa_cons (pe_tup (pa_cons (pe_bltn (v := .ty "list") (by rfl) T.list (by decide +kernel) rfl)
          (pa_cons (pe_bltn (v := .ty "tuple") (by rfl) T.tuple (by decide +kernel) rfl) pa_nil))) pa_nil))))) (pss_one ps_no) pss_nil)
      (pss_one (ps_if (pt_not (pt_val (pe_callB (cr_all rfl) (by rfl) T.all (by decide +kernel) (pa_cons (pe_lc (own := [("each", 1)]) (g := gName 1) (tt := tYes) rfl nd (pi_seq (pv 0)) (blkOk_by (N := ["thing", "each"]) (sc := defScope sChk) (by decide +kernel))
          (fun _ _ _ _ _ => pg_name (i := 1) nd rfl (Or.inl rfl)) (fun _ _ _ _ _ => pts_nil)
          (fun _ _ _ _ _ => pe_callB (r := rIsi K) call_isi (by rfl) T.isi (by decide +kernel) (pa_cons (pv 1) (pa_cons (pe_glob (v := .ref C) (by rfl) Z.mgC rfl) pa_nil)))) pa_nil)))) (pss_one ps_no) pss_nil)), ?_⟩
    refine ⟨_, rfl, by show 2 ≤ sizeLine; decide, fun tp ntp => ?_⟩
    have s1 := same_upd (o := .tup [V.ty "list", V.ty "tuple"]) ntp
    have e1 := upd_same (H := H) (a := tp) (o := .tup [V.ty "list", V.ty "tuple"])
    generalize upd H tp (.tup [V.ty "list", V.ty "tuple"]) = H1 at *
    have hq1 := hq.ext (extN_same s1)
    have ty : ∃ t : String, (t = "list" ∨ t = "tuple") ∧ TyX K H1 (.ref q) (.type t) := by
      rcases hq1 with e | e
      · exact ⟨"list", .inl rfl, .base (.lst e)⟩
      · exact ⟨"tuple", .inr rfl, .base (.tup e)⟩
    obtain ⟨t, ht, tx⟩ := ty
    refine ⟨_, tp, _, _, [.type "list", .type "tuple"], true, rfl, e1, .cons (.ty _) (.cons (.ty _) .nil), tx, kit_lt t ht, _, rfl, ?_⟩
    refine ⟨_, rfl, q, xs, rfl, hq1.sq, fun J wk D nD => ?_⟩
    refine lc_it wk (fun i H' => Same H1 H' ∧ H' D = some (.lst (List.replicate i (.bl true)))) ⟨same_upd nD, upd_same⟩ (fun i H' _ p => Still.of (extN_same p.1)) ?_ ?_
    · rintro i v H2 H2' hi' ⟨sm, eD⟩ ⟨rfl, hv⟩
      obtain ⟨x, dx, fs, rfl, hx⟩ := hi v (List.mem_of_getElem? hv)
      refine ⟨rfl, _, rfl, .ref x, .ref C, .ref C, .ref C, true, rfl, .own C, .base (.ins (sm _ _ (s1 _ _ hx)) Z.cl Z.ha Z.hn Z.ht Z.hm), own, ?_⟩
      refine ⟨_, eD, ?_, fun b o e => ?_, ?_⟩
      · rw [List.length_replicate]
        exact small1000 (by omega)
      · rw [upd_ne (ne_of_none e nD)]
        exact sm b o e
      · rw [upd_same, List.replicate_succ']
    · rintro H2 ⟨sm, eD⟩
      refine ⟨D, List.replicate xs.length true, rfl, SqL.of (by rw [List.map_replicate]; exact eD), _, rfl, ?_⟩
      rw [all_true _ fun b hb => List.eq_of_mem_replicate hb]
      exact fin H2 (s1.trans sm)
end
end K17

set_option Elab.async false
set_option linter.all false
set_option maxRecDepth 100000
set_option maxHeartbeats 1600000
namespace K17
open PySem PySem.Spec PyProof.Rows L2 LT LamX
abbrev nMerged : List Str := ["stretches", "told", "stretch"]
theorem scMerged : FnScope nMerged ["stretches"] (defScope sMerged) := ⟨rfl, rfl, rfl, by decide +kernel, rfl, by decide +kernel, by decide +kernel⟩
theorem atI_last {α : Type} (l : List α) (z : α) : atI (l ++ [z]) (-1) = some z := by
  unfold atI ixN
  rw [if_neg (by decide), if_pos (by rw [List.length_append, List.length_singleton]; omega)]
  show (l ++ [z])[(-1 + ((l ++ [z]).length : Int)).toNat]? = some z
  rw [show (-1 + ((l ++ [z]).length : Int)).toNat = l.length by rw [List.length_append, List.length_singleton]; omega, List.getElem?_append_right (Nat.le_refl _), Nat.sub_self]
  rfl
theorem ixN_last {α : Type} (l : List α) (z : α) : ixN (l ++ [z]).length (-1) = some l.length := by
  unfold ixN
  rw [if_neg (by decide), if_pos (by rw [List.length_append, List.length_singleton]; omega)]
  congr 1
  rw [List.length_append, List.length_singleton]
  omega
theorem set_last {α : Type} (l : List α) (z u : α) : (l ++ [z]).set l.length u = l ++ [u] := by
  rw [List.set_append_right _ _ (Nat.le_refl _), Nat.sub_self]
  rfl
theorem SR.updL {C a : Addr} {H : Hp} {o : HO} {v : V} {r : Row} {zs : List V} (h : SR C H v r) (hl : H a = some (.lst zs)) : SR C (upd H a o) v r := by
  obtain ⟨b, x, dx, e, hx⟩ := h
  exact ⟨b, x, dx, e, by rw [upd_ne (ne_of hx hl nofun)]; exact hx⟩
theorem SRs.updL {C a : Addr} {H : Hp} {o : HO} {vs : List V} {rs : List Row} {zs : List V} (h : SRs C H vs rs) (hl : H a = some (.lst zs)) : SRs C (upd H a o) vs rs := by
  induction h with
  | nil => exact .nil
  | cons x _ ih => exact .cons (x.updL hl) ih
theorem ExtN.updN {H H' : Hp} {a : Addr} {o : HO} (e : ExtN H H') (n : H a = none) : ExtN H (upd H' a o) := fun b u h t => by
  rw [upd_ne (ne_of_none h n)]
  exact e b u h t
theorem Tabs.updL {T : List (Addr × Str)} {H : Hp} {a : Addr} {o : HO} {zs : List V} (t : Tabs T H) (hl : H a = some (.lst zs)) : Tabs T (upd H a o) := fun p hp => by
  obtain ⟨ps, h1, h2, h3⟩ := t p hp
  refine ⟨ps, by rw [upd_ne (ne_of h1 hl nofun)]; exact h1, h2, fun pos cv hc => ?_⟩
  obtain ⟨c, e1, e2⟩ := h3 pos cv hc
  exact ⟨c, e1, by rw [upd_ne (ne_of e2 hl fun z => by unfold CodeO at z; cases z)]; exact e2⟩
def qM : Str := (envOfC "merged" (defScope sMerged) 0 0 .none).qual ++ "<lambda>"
/-- the tables of merged's and of the law's own lambdas -/
abbrev TT2 (PM PY : Addr) : List (Addr × Str) := [(PM, qM)]
structure Tb (base : Heap) (mg : Str → Option Value) (cM PM cY PY : Addr) : Prop where
  m : TabB base mg cM PM
theorem rb_later {h r : Row} (a : RB h) (b : RB r) : RB (h.1, LD.laterO h.2 r.2) := by
  refine ⟨⟨a.ok.1, fun k ek => ?_⟩, a.b1, fun k ek => ?_⟩
  · obtain ⟨i, j, ei, _, h1, _⟩ := LD.laterO_le ek
    exact Int.le_trans (a.ok.2 i ei) h1
  · obtain ⟨i, j, ei, ej, _, _, rfl | rfl⟩ := LD.laterO_le ek
    · exact a.b2 _ ei
    · exact b.b2 _ ej
section
variable {P : Program} {w : World} {K : PySem.W.Frag} {mg : Str → Option Value} {base : Heap} {C CN : Addr} {cM PM cY PY : Addr}
/-- the class's making -/
abbrev InitFn (K : PySem.W.Frag) (f : Addr) (fd : FuncData) : Prop := FunD K "__init__" "Stretch.__init__" (defArgs sInit) (defBody sInit) (defScope sInit) [.non] [] f fd
structure Pm (K : PySem.W.Frag) (mg : Str → Option Value) (C CN : Addr) : Prop extends Pr K mg C CN where
  day : ∃ f fd, Has K mg "is_day" ["thing"] sDay f fd
  whole : ∃ f fd, HasW K mg f fd
  init : ∃ f fd, Mk K C f ∧ InitFn K f fd ∧ L2.Binds K fd ["self", "first", "last"] []
  meets : ∃ f fd, Has K mg "meets" ["stretch", "later"] sMeets f fd
  later : ∃ f fd, Has K mg "later_end" ["one", "other"] sLater f fd
  chk : ∃ f fd, Has K mg "check_stretches" ["thing"] sChk f fd
  own : PySem.W.kitOne K (.ref C) (.ref C) = some true
def mergedOf (ss : List Row) : List Row := ss.foldl LD.stepM []
def spMerged (C PM PY : Addr) : Sp := fun vs H Q _ => ∃ q xs rs, vs = [.ref q] ∧ Sd H q xs ∧ SRs C H xs rs ∧ rs.length ≤ 1000 ∧ Tabs (TT2 PM PY) H ∧
  ∀ a zs R ss H', H a = none → ExtN H H' → Tabs (TT2 PM PY) H' → H' a = some (.lst zs.reverse) → SRs C H' zs R → R = mergedOf ss → (∀ r, r ∈ ss ↔ r ∈ rs) → ss.Pairwise (fun a b => a.1 ≤ b.1) → zs.length ≤ 1000 → Q (.ref a) H'
theorem ok_merged {f : Addr} {fd : FuncData} (F : FunC K "merged" "merged" sMerged f cM fd) (T : Tx mg) (S : Pm K mg C CN) (B : Tb base mg cM PM cY PY) : FnOk P w K mg base CX0 6 f fd ["stretches"] (spMerged C PM PY) := by
  obtain ⟨_, _, F1⟩ := S.first
  obtain ⟨_, _, F2⟩ := S.last
  obtain ⟨_, _, FM⟩ := S.meets
  obtain ⟨_, _, FL⟩ := S.later
  obtain ⟨_, _, FD⟩ := S.day
  obtain ⟨_, _, FW⟩ := S.whole
  obtain ⟨_, _, M, FI, bI⟩ := S.init
  have Z := S.ct
  have G1 : FnOk P w K mg base CX0 1 _ _ ["self"] (spGet C fun a _ => a) := ok_first F1.fn Z
  have G2 : FnOk P w K mg base CX0 1 _ _ ["self"] (spGet C fun _ b => b) := ok_last F2.fn Z
  have GM : FnOk P w K mg base CX0 2 _ _ ["stretch", "later"] (spMeets C) := ok_meets FM.fn S.toPr
  have GL : FnOk P w K mg base CX0 1 _ _ ["one", "other"] spLater := ok_later FL.fn T
  have GI : FnOk P w K mg base (L2.CX P w) 4 _ _ ["self", "first", "last"] (spInit C CN) := ok_init FI T Z FD FW
  refine F.ok scMerged (fun vs H Q E h => ?_) (fun A outer s H vs Q E hr h => ?_)
  · obtain ⟨q, xs, rs, rfl, _⟩ := h
    rfl
  · obtain ⟨q, xs, rs, rfl, hq, hs, hl, hT, fin⟩ := h
    have nd := scMerged.nd
    have hr1 : Room 1 _ := hr.mono (by decide)
    have hr2 : Room 2 _ := hr.mono (by decide)
    have hr4 : Room 4 _ := hr.mono (by decide)
    refine ⟨_, pss_cons (ps_set (i := 1) nd rfl (.inl rfl) (pe_lst pa_nil))
      (pss_cons (ps_for PassesOwn.never rfl (pi_list (pe_sortedLam (T := TT2 PM PY) (x := "each") (k := 1) (by rfl) T.sorted (pa_cons (pv 0) pa_nil) rfl rfl B.m rfl (List.mem_cons_self) (fun p hp e => by rw [List.mem_singleton.mp hp]; rfl) (show LamP (defScope sMerged) _ _ from lamP_by (by decide +kernel)) (show ("each" : Str) ∉ nMerged by decide) rfl (fun _ _ _ _ _ _ => rfl) hr4
            (fun A outer s H f c' hr3 => pe_meth0 (pv 0) Z.cl F1.me G1 hr3 F1.bd .nil pass0) (by decide +kernel))) (pg_name (i := 2) nd rfl (.inl rfl))
        (pss_one (ps_if (PW.pt (pw_and (pt_truth (pv 1) (fun _ => rfl)) (pw_and1 (pt_val (pe_call GM hr2 (by rfl) FM.gl FM.fn.kp FM.bd .nil pass0 (pa_cons (pe_ix ix_list (pv 1) (pe_un un_neg pe_int) (fun _ _ => rfl)) (pa_cons (pv 2) pa_nil)))))))
          (pss_one (ps_asg (pe_make M GI hr (by rfl) Z.mgC bI .nil passL (pa_cons (pe_meth0 (pe_ix ix_list (pv 1) (pe_un un_neg pe_int) (fun _ _ => rfl)) Z.cl F1.me G1 hr1 F1.bd .nil pass0)
              (pa_cons (pe_call GL hr1 (by rfl) FL.gl FL.fn.kp FL.bd .nil pass0 (pa_cons (pe_meth0 (pe_ix ix_list (pv 1) (pe_un un_neg pe_int) (fun _ _ => rfl)) Z.cl F2.me G2 hr1 F2.bd .nil pass0) (pa_cons (pe_meth0 (pv 2) Z.cl F2.me G2 hr1 F2.bd .nil pass0) pa_nil))) pa_nil)))
            (pg_sub (pv 1) (pe_un un_neg pe_int) set_list)))
          (pss_one (ps_expr (pe_bm PySem.F.plainAttrs_list PySem.F.slot_list_append PySem.F.type_list_append mt_append (pv 1) (pa_cons (pe_make M GI hr (by rfl) Z.mgC bI .nil passL
              (pa_cons (pe_meth0 (pv 2) Z.cl F1.me G1 hr1 F1.bd .nil pass0) (pa_cons (pe_meth0 (pv 2) Z.cl F2.me G2 hr1 F2.bd .nil pass0) pa_nil))) pa_nil)))))))
      (pss_one (ps_ret (pv 1)))), ?_⟩
    refine ⟨by show 0 ≤ sizeLine; decide, fun a na => ?_⟩
    have s0 := same_upd (o := .lst []) na
    have ha0 := upd_same (H := H) (a := a) (o := .lst [])
    generalize upd H a (.lst []) = H0 at *
    obtain ⟨ss, hss, hmem, hpw, hlen⟩ := hs.sorted
    refine ⟨_, rfl, hT.ext s0, q, xs, fun v => (rowOf H v).1, rfl, (hq.ext (extN_same s0)).sq, fun H2 e2 T2 => ⟨fun v hv Q' hQ' => ?_, fun l nl => ⟨l, rfl, ⟨_, SqL.of upd_same⟩, ?_⟩⟩⟩
    · obtain ⟨r, _, sr⟩ := hs.mem hv
      have sr2 := (sr.ext (extN_same s0)).ext e2
      obtain ⟨x, dx, rfl, hx, st⟩ := sr2.st
      have hQ' : Q' (.int (rowOf H (.ref x)).1) H2 := hQ'
      rw [sr.row] at hQ'
      exact ⟨_, rfl, x, dx, _, rfl, hx, rfl, x, _, _, rfl, st, hQ'⟩
    have nal : a ≠ l := ne_of_none (e2 _ _ ha0 nofun) nl
    have eH : ExtN H H2 := (extN_same s0).trans e2
    refine for_list (K := K) (xs := xs.mergeSort fun a b => decide ((rowOf H a).1 ≤ (rowOf H b).1)) (fun i σ H' => ∃ y zs R, σ = [some (.ref q), some (.ref a), y] ∧ H' a = some (.lst zs.reverse) ∧ SRs C H' zs R ∧ R = mergedOf (ss.take i) ∧ zs.length ≤ i ∧ ExtN H H' ∧ Tabs (TT2 PM PY) H' ∧
        H' l = some (.lst (xs.mergeSort fun a b => decide ((rowOf H a).1 ≤ (rowOf H b).1))))
      ⟨none, [], [], rfl, by rw [upd_ne nal]; exact e2 _ _ ha0 nofun, .nil, rfl, Nat.le_refl _, fun b o h n => ?_, ?_, upd_same⟩ (fun i σ H' _ h => ?_) ?_ ?_
    · rw [upd_ne (ne_of_none (eH b o h n) nl)]
      exact eH b o h n
    · exact T2.ext (same_upd nl)
    · obtain ⟨_, _, _, _, _, _, _, _, _, _, hl'⟩ := h
      exact SqL.of hl'
    · rintro i v σ H' hv ⟨y, zs, R, rfl, ha, hz, hR, hzl, eN, tN, hl'⟩
      obtain ⟨r, er, sr0⟩ := hss.at hv
      have sr := sr0.ext eN
      obtain ⟨x, dx, rfl, hx, st⟩ := sr.st
      have hi : i < ss.length := (List.getElem?_eq_some_iff.mp er).1
      have eR : mergedOf (ss.take (i + 1)) = LD.stepM R r := by
        rw [hR]
        unfold mergedOf
        rw [List.take_add_one, er, List.foldl_append]
        rfl
      have nla : l ≠ a := fun z => nal z.symm
      have after : ∀ (H3 : Hp) (z : Addr) (rz : Row) (zs' : List V) (R' : List Row), Same H' H3 → SR C H3 (.ref z) rz → SRs C H' zs' R' → LD.stepM R r = rz :: R' → zs'.length ≤ i →
          ∃ y zs R, ([some (.ref q), some (.ref a), some (.ref x)] : L2.St) = [some (.ref q), some (.ref a), y] ∧ upd H3 a (.lst (zs'.reverse ++ [.ref z])) a = some (.lst zs.reverse) ∧ SRs C (upd H3 a (.lst (zs'.reverse ++ [.ref z]))) zs R ∧ R = mergedOf (ss.take (i + 1)) ∧ zs.length ≤ i + 1 ∧
            ExtN H (upd H3 a (.lst (zs'.reverse ++ [.ref z]))) ∧ Tabs (TT2 PM PY) (upd H3 a (.lst (zs'.reverse ++ [.ref z]))) ∧ upd H3 a (.lst (zs'.reverse ++ [.ref z])) l = some (.lst (xs.mergeSort fun a b => decide ((rowOf H a).1 ≤ (rowOf H b).1))) := by
        intro H3 z rz zs' R' s3 srz hz' es hle
        have ha3 := s3 _ _ ha
        refine ⟨_, .ref z :: zs', rz :: R', rfl, by rw [upd_same, List.reverse_cons], .cons (srz.updL ha3) ((hz'.ext (extN_same s3)).updL ha3), by rw [eR, es], Nat.succ_le_succ hle, K17.ExtN.updN (eN.trans (extN_same s3)) na, K17.Tabs.updL (tN.ext s3) ha3, ?_⟩
        rw [upd_ne nla]
        exact s3 _ _ hl'
      refine ⟨_, rfl, _, .inl ⟨_, SqL.of ha, rfl⟩, ?_⟩
      cases hz with
      | nil =>
        rw [if_neg (by simp)]
        refine ⟨_, rfl, .inl ⟨rfl, _, SqL.of ha⟩, _, rfl, x, dx, _, rfl, hx, rfl, x, _, _, rfl, st, _, rfl, x, dx, _, rfl, hx, rfl, x, _, _, rfl, st, fun z dz nz ndz nez => ?_⟩
        refine mk_init (r := r) nz ndz nez sr.1 fun H3 s3 sr3 => ⟨rfl, a, _, _, rfl, rfl, s3 _ _ ha, by show 0 < sizeLine; decide, ?_⟩
        exact after H3 z r [] [] s3 sr3 .nil rfl (Nat.zero_le _)
      | @cons z0 h0 zt Rt hz0 hzt =>
        rw [if_pos (by simp)]
        obtain ⟨x0, dx0, rfl, hx0, st0⟩ := hz0.st
        have at0 : atI (V.ref x0 :: zt).reverse (-1) = some (.ref x0) := by rw [List.reverse_cons]; exact atI_last _ _
        refine ⟨_, rfl, 1, rfl, a, _, -1, _, rfl, rfl, SqL.of ha, at0, _, rfl, .ref x0, .ref x, h0, r, rfl, hz0, sr, _, rfl, ?_⟩
        have est : LD.stepM (h0 :: Rt) r = if LD.meetsB h0 r = true then (h0.1, LD.laterO h0.2 r.2) :: Rt else r :: h0 :: Rt := rfl
        have hzl' : zt.length + 1 ≤ i := hzl
        cases hm : LD.meetsB h0 r with
        | true =>
          rw [hm, if_pos rfl] at est
          refine iteT ?_
          refine ⟨_, rfl, 1, rfl, a, _, -1, _, rfl, rfl, SqL.of ha, at0, x0, dx0, _, rfl, hx0, rfl, x0, _, _, rfl, st0, ?_⟩
          refine ⟨_, rfl, 1, rfl, a, _, -1, _, rfl, rfl, SqL.of ha, at0, x0, dx0, _, rfl, hx0, rfl, x0, _, _, rfl, st0, ?_⟩
          refine ⟨_, rfl, x, dx, _, rfl, hx, rfl, x, _, _, rfl, st, h0.2, r.2, rfl, fun z dz nz ndz nez => ?_⟩
          refine mk_init (r := (h0.1, LD.laterO h0.2 r.2)) nz ndz nez (rb_later hz0.1 sr.1) fun H3 s3 sr3 => ⟨rfl, _, rfl, 1, rfl, a, _, -1, zt.length, rfl, rfl, s3 _ _ ha, ?_, ?_⟩
          · rw [List.reverse_cons, show zt.length = zt.reverse.length from List.length_reverse.symm]
            exact ixN_last _ _
          · rw [List.reverse_cons, show zt.length = zt.reverse.length from List.length_reverse.symm, set_last]
            exact after H3 z _ zt Rt s3 sr3 hzt est (by omega)
        | false =>
          rw [hm, if_neg (by simp)] at est
          refine iteF ?_
          refine ⟨_, rfl, .inl ⟨rfl, _, SqL.of ha⟩, _, rfl, x, dx, _, rfl, hx, rfl, x, _, _, rfl, st, _, rfl, x, dx, _, rfl, hx, rfl, x, _, _, rfl, st, fun z dz nz ndz nez => ?_⟩
          refine mk_init (r := r) nz ndz nez sr.1 fun H3 s3 sr3 => ⟨rfl, a, _, _, rfl, rfl, s3 _ _ ha, ?_, ?_⟩
          · rw [List.length_reverse]
            exact small1000 (by have := hlen; show zt.length + 1 ≤ 1000; omega)
          · exact after H3 z r (.ref x0 :: zt) (h0 :: Rt) s3 sr3 (.cons hz0 hzt) est hzl
    · rintro σ H' ⟨y, zs, R, rfl, ha, hz, hR, hzl, eN, tN, hl'⟩
      have ll := hss.length
      refine ⟨_, rfl, fin a zs R ss H' na eN tN ha hz ?_ hmem hpw (by omega)⟩
      rw [hR, List.take_of_length_le (by omega)]
end
end K17

set_option Elab.async false
set_option linter.all false
set_option maxRecDepth 100000
set_option maxHeartbeats 1600000
namespace K17
open PySem PySem.Spec PyProof.Rows L2 LT LamX
abbrev nManyD : List Str := ["some", "days", "stretch"]
theorem scManyD : FnScope nManyD ["some"] (defScope sManyD) := ⟨rfl, rfl, rfl, by decide +kernel, rfl, by decide +kernel, by decide +kernel⟩
def lenR (r : Row) : Int := r.2.getD 0 - r.1 + 1
def cntR (R : List Row) : Option Int := match R with
  | (_, none) :: _ => none
  | _ => some ((R.reverse.map lenR).sum)
theorem can_merged {ss : List Row} (ok : ∀ r ∈ ss, RB r) (pw : ss.Pairwise (fun a b => a.1 ≤ b.1)) : LD.Can (mergedOf ss) :=
  (LD.foldM_ok ss [] trivial (fun r hr => (ok r hr).ok) pw fun u t e => by cases e).1
theorem closed_all {a j : Int} {t : List Row} (h : LD.Can ((a, some j) :: t)) : ∀ r ∈ (a, some j) :: t, ∃ i, r.2 = some i := fun r hr => by
  rcases List.mem_cons.mp hr with rfl | hr
  · exact ⟨j, rfl⟩
  · obtain ⟨i, e, _⟩ := h.under r hr
    exact ⟨i, e⟩
section
variable {P : Program} {w : World} {K : PySem.W.Frag} {mg : Str → Option Value} {base : Heap} {C CN : Addr} {cM PM cY PY : Addr}
def spManyD (C PM PY : Addr) : Sp := fun vs H Q _ => ∃ q xs rs, vs = [.ref q] ∧ Sd H q xs ∧ SRs C H xs rs ∧ rs.length ≤ 1000 ∧ Tabs (TT2 PM PY) H ∧
  ∀ ss H', ExtN H H' → Tabs (TT2 PM PY) H' → (∀ r, r ∈ ss ↔ r ∈ rs) → ss.Pairwise (fun a b => a.1 ≤ b.1) → Q (enc (cntR (mergedOf ss))) H'
theorem ok_manyD {f fG : Addr} {fd fdG : FuncData} (F : Fun K "many_days" "many_days" sManyD f fd) (T : Tx mg) (S : Pm K mg C CN) (B : Tb base mg cM PM cY PY) (FG : FunC K "merged" "merged" sMerged fG cM fdG) (bG : L2.Binds K fdG ["stretches"] []) (gG : mg "merged" = some (.ref fG)) :
    FnOk P w K mg base CX0 7 f fd ["some"] (spManyD C PM PY) := by
  obtain ⟨_, _, F1⟩ := S.first
  obtain ⟨_, _, F2⟩ := S.last
  obtain ⟨_, _, FC⟩ := S.chk
  have Z := S.ct
  have G1 : FnOk P w K mg base CX0 1 _ _ ["self"] (spGet C fun a _ => a) := ok_first F1.fn Z
  have G2 : FnOk P w K mg base CX0 1 _ _ ["self"] (spGet C fun _ b => b) := ok_last F2.fn Z
  have GC : FnOk P w K mg base CX0 1 _ _ ["thing"] (spChk C) := ok_chk FC.fn T Z S.own
  have GG : FnOk P w K mg base CX0 6 _ _ ["stretches"] (spMerged C PM PY) := ok_merged FG T S B
  refine F.ok scManyD (fun vs H Q E h => ?_) (fun cdv A outer s H vs Q E hr h => ?_)
  · obtain ⟨q, xs, rs, rfl, _⟩ := h
    rfl
  · obtain ⟨q, xs, rs, rfl, hq, hs, hl, hT, fin⟩ := h
    have nd := scManyD.nd
    have hr1 : Room 1 _ := hr.mono (by decide)
    refine ⟨_, pss_cons (ps_expr (pe_call GC hr1 (by rfl) FC.gl FC.fn.kp FC.bd .nil pass0 (pa_cons (pv 0) pa_nil)))
      (pss_cons (ps_set (i := 1) nd rfl (.inl rfl) (pe_call GG hr (by rfl) gG FG.kp bG .nil pass0 (pa_cons (pv 0) pa_nil)))
      (pss_cons (ps_if (PW.pt (pw_and (pt_truth (pv 1) (fun _ => rfl)) (pw_and1 (pt_cmpR op_isN (pe_meth0 (pe_ix ix_list (pv 1) (pe_un un_neg pe_int) (fun _ _ => rfl)) Z.cl F2.me G2 hr1 F2.bd .nil pass0) pe_non (nomark _))))) (pss_one (ps_ret pe_non)) pss_nil)
      (pss_one (ps_ret (pe_callB (cr_sum rfl) (by rfl) T.sum (by decide +kernel) (pa_cons (pe_lc (own := [("stretch", 2)]) (g := gName 2) (tt := tYes) rfl nd (pi_list (pv 1)) (blkOk_by (N := nManyD) (sc := defScope sManyD) (by decide +kernel))
          (fun _ _ _ _ _ => pg_name (i := 2) nd rfl (Or.inl rfl)) (fun _ _ _ _ _ => pts_nil)
          (fun _ _ _ _ _ => pe_op (r := rI0 fun i j => V.int (i + j)) op_add (pe_op op_sub (pe_meth0 (pv 2) Z.cl F2.me G2 hr1 F2.bd .nil pass0) (pe_meth0 (pv 2) Z.cl F1.me G1 hr1 F1.bd .nil pass0)) pe_int)) pa_nil)))))), ?_⟩
    refine ⟨_, rfl, q, xs, rfl, hq, by rw [hs.length]; exact hl, fun v hv => ?_, fun H1 s1 => ?_⟩
    · obtain ⟨r, _, sr⟩ := hs.mem hv
      obtain ⟨x, dx, e, hx, _⟩ := sr.st
      exact ⟨x, dx, _, e, hx⟩
    have e1 := extN_same s1
    refine ⟨_, rfl, q, xs, rs, rfl, hq.ext e1, hs.ext e1, hl, hT.ext s1, fun a zs R ss H2 na e2 T2 ha hz hR hm hp hzl => ?_⟩
    have ok : ∀ r ∈ ss, RB r := fun r hr => hs.rb r ((hm r).mp hr)
    have cn : LD.Can R := by
      rw [hR]
      exact can_merged ok hp
    have fin' := fin ss
    rw [← show R = mergedOf ss from hR] at fin'
    refine ⟨_, rfl, _, .inl ⟨_, SqL.of ha, rfl⟩, ?_⟩
    have sumCase : (∀ r ∈ R, ∃ i, r.2 = some i) → cntR R = some ((R.reverse.map lenR).sum) → tRet (tCB (rSum K) (tCons (tLc (iList K (tVar 1)) (gName 2) tYes (tOp (rI0 fun i j => V.int (i + j)) (tOp (rI0 fun i j => V.int (i - j)) (tMeth C "last" (spGet C fun _ b => b) [] E0 (tVar 2) tNil) (tMeth C "first" (spGet C fun a _ => a) [] E0 (tVar 2) tNil)) (tC (.int 1))) [2]) tNil)) { nx := fun _ H' => Q .non H', rt := Q } [some (.ref q), some (.ref a), none] H2 := by
      intro hall hc
      have eN : ExtN H H2 := e1.trans e2
      refine ⟨_, rfl, a, rfl, ⟨_, SqL.of ha⟩, fun D nD => ?_⟩
      have rl : zs.reverse.length = R.reverse.length := hz.reverse.length
      refine lc_list (K := K) (a := a) (xs := zs.reverse) (fun i H' => Same H2 H' ∧ H' D = some (.lst ((R.reverse.take i).map fun r => V.int (lenR r)))) ⟨same_upd nD, upd_same⟩ (fun i H' _ p => p.1.seq (SqL.of ha)) ?_ ?_
      · rintro i v H3 hv ⟨sm, eD⟩
        obtain ⟨r, er, sr⟩ := hz.reverse.at hv
        obtain ⟨x, dx, rfl, hx, st⟩ := (sr.ext (extN_same sm)).st
        obtain ⟨j, ej⟩ := hall r (List.mem_reverse.mp (List.mem_of_getElem? er))
        refine ⟨rfl, _, rfl, x, dx, _, rfl, hx, rfl, x, _, _, rfl, st, _, rfl, x, dx, _, rfl, hx, rfl, x, _, _, rfl, st, j, r.1, by rw [ej]; rfl, rfl, _, _, rfl, rfl, _, eD, ?_, fun b o e => ?_, ?_⟩
        · have : ((R.reverse.take i).map fun r => V.int (lenR r)).length ≤ 1000 := by
            rw [List.length_map, List.length_take]
            rw [List.length_reverse] at rl
            omega
          exact small1000 this
        · rw [upd_ne (ne_of_none e nD)]
          exact sm b o e
        · rw [upd_same, List.take_add_one, er, List.map_append]
          have : lenR r = j - r.1 + 1 := by
            unfold lenR
            rw [ej]
            rfl
          show _ = some (HO.lst (_ ++ [V.int (lenR r)]))
          rw [this]
      · rintro H3 ⟨sm, eD⟩
        refine ⟨D, R.reverse.map lenR, rfl, SqL.of ?_, ?_⟩
        · rw [eD, List.take_of_length_le (by omega), List.map_map]
          rfl
        · have q := fin' H3 (eN.trans (extN_same sm)) (T2.ext sm) hm hp
          rw [hc] at q
          exact q
    cases hz with
    | nil =>
      rw [show (!([] : List V).reverse.isEmpty) = false from rfl]
      exact iteF (sumCase nofun rfl)
    | @cons z0 h0 zt Rt hz0 hzt =>
      obtain ⟨x0, dx0, rfl, hx0, st0⟩ := hz0.st
      rw [show (!(V.ref x0 :: zt).reverse.isEmpty) = true by simp]
      refine iteT ?_
      have at0 : atI (V.ref x0 :: zt).reverse (-1) = some (.ref x0) := by rw [List.reverse_cons]; exact atI_last _ _
      refine ⟨_, rfl, 1, rfl, a, _, -1, _, rfl, rfl, SqL.of ha, at0, x0, dx0, _, rfl, hx0, rfl, x0, _, _, rfl, st0, rfl, _, rfl, ?_⟩
      obtain ⟨b, y⟩ := h0
      cases y with
      | none => exact fin' H2 (e1.trans e2) T2 hm hp
      | some j => exact sumCase (closed_all cn) rfl
end
end K17

set_option Elab.async false
set_option linter.all false
set_option maxRecDepth 100000
set_option maxHeartbeats 1600000
namespace K17
open PySem PySem.Spec PyProof.Rows L2 LT LamX
abbrev nRows : List Str := ["_law_pot_here", "_law_most", "_law_base", "_law_found", "_law_k", "_law_way", "_law_first", "_law_last"]
theorem scRows : FnScope nRows ["_law_pot_here", "_law_most"] (defScope sRows) := ⟨rfl, rfl, rfl, by decide +kernel, rfl, by decide +kernel, by decide +kernel⟩
/-- a pair of days stands at v -/
def TR (H : Hp) (v : V) (r : Row) : Prop := RBd r ∧ ∃ t, v = .ref t ∧ H t = some (.tup [.int r.1, enc r.2])
inductive TRs (H : Hp) : List V → List Row → Prop
  | nil : TRs H [] []
  | cons {v : V} {r : Row} {vs : List V} {rs : List Row} : TR H v r → TRs H vs rs → TRs H (v :: vs) (r :: rs)
theorem TR.extB {p : Addr} {H H' : Hp} {v : V} {r : Row} (h : TR H v r) (hp : Pot H p) (s : SameB p H H') : TR H' v r := by
  obtain ⟨b, t, e, ht⟩ := h
  exact ⟨b, t, e, s _ _ (ne_of_pot hp ht) ht⟩
theorem TR.ext {H H' : Hp} {v : V} {r : Row} (h : TR H v r) (e : ExtN H H') : TR H' v r := by
  obtain ⟨b, t, ev, ht⟩ := h
  exact ⟨b, t, ev, e _ _ ht nofun⟩
theorem TR.updL {a : Addr} {H : Hp} {o : HO} {v : V} {r : Row} {zs : List V} (h : TR H v r) (hl : H a = some (.lst zs)) : TR (upd H a o) v r := by
  obtain ⟨b, t, e, ht⟩ := h
  exact ⟨b, t, e, by rw [upd_ne (ne_of ht hl nofun)]; exact ht⟩
theorem TRs.imp {H H' : Hp} {vs : List V} {rs : List Row} (h : TRs H vs rs) (f : ∀ v r, TR H v r → TR H' v r) : TRs H' vs rs := by
  induction h with
  | nil => exact .nil
  | cons a _ ih => exact .cons (f _ _ a) ih
theorem TRs.length {H : Hp} {vs : List V} {rs : List Row} (h : TRs H vs rs) : vs.length = rs.length := by
  induction h with
  | nil => rfl
  | cons a _ ih => rw [List.length_cons, List.length_cons, ih]
theorem TRs.append {H : Hp} {vs us : List V} {rs ss : List Row} (h : TRs H vs rs) (g : TRs H us ss) : TRs H (vs ++ us) (rs ++ ss) := by
  induction h with
  | nil => exact g
  | cons a _ ih => exact .cons a ih
theorem TRs.at {H : Hp} {vs : List V} {rs : List Row} (h : TRs H vs rs) : ∀ {i : Nat} {v : V}, vs[i]? = some v → ∃ r, rs[i]? = some r ∧ TR H v r := by
  induction h with
  | nil => intro i v e; cases e
  | cons a _ ih =>
    intro i v e
    cases i with
    | zero => cases e; exact ⟨_, rfl, a⟩
    | succ i => exact ih e
theorem TRs.rb {H : Hp} {vs : List V} {rs : List Row} (h : TRs H vs rs) : ∀ r ∈ rs, RBd r := by
  induction h with
  | nil => exact nofun
  | cons a _ ih =>
    intro r hr
    rcases List.mem_cons.mp hr with rfl | hr
    · exact a.1
    · exact ih r hr
/-- the ways behind an if are joined -/
theorem join {α : Type} {J : α → Hp → Prop} {sl : α → L2.St} {rest : L2.St → Hp → Prop} {goal : Prop} (k : (∀ a Hx, J a Hx → rest (sl a) Hx) → goal) (h : ∀ a Hx, J a Hx → rest (sl a) Hx) : goal := k h
section
variable {P : Program} {w : World} {K : PySem.W.Frag} {mg : Str → Option Value} {base : Heap} {C CN : Addr}
def spRows : Sp := fun vs H Q _ => ∃ p n, vs = [.ref p, .int n] ∧ Pot H p ∧ 0 ≤ n ∧ n ≤ 100 ∧
  ∀ (q : Addr) (zs : List V) (rs : List Row) (H' : Hp), H q = none → q ≠ p → H' q = some (.lst zs) → TRs H' zs rs → (rs.length : Int) ≤ n → Pot H' p → SameB p H H' → Q (.ref q) H'
/-- what holds in a turn of rows -/
structure Jr (p q : Addr) (H : Hp) (zs : List V) (rs : List Row) (Hx : Hp) : Prop where
  hp : Pot Hx p
  sb : SameB p H Hx
  hq : Hx q = some (.lst zs)
  tr : TRs Hx zs rs
theorem Jr.step {p q : Addr} {H Hx Hy : Hp} {zs : List V} {rs : List Row} (j : Jr p q H zs rs Hx) (n : q ≠ p) (hp : Pot Hy p) (s : SameB p Hx Hy) : Jr p q H zs rs Hy :=
  ⟨hp, j.sb.trans s, s _ _ n j.hq, j.tr.imp fun _ _ t => t.extB j.hp s⟩
theorem ok_rows {f fT fF : Addr} {fd fdT fdF : FuncData} {k : Nat} (F : Fun K "_law_rows" "_law_rows" sRows f fd) (T : Tx mg) (FT : TakeFn K mg fT fdT) (FF : PotFn K mg "_law_far" sFar fF fdF) : FnOk P w K mg base CX0 (k + 3) f fd ["_law_pot_here", "_law_most"] spRows := by
  have GT : FnOk P w K mg base CX0 (k + 1) fT fdT ["_law_pot_here", "_law_room"] spTake := ok_take FT.fn T
  have GF : FnOk P w K mg base CX0 (k + 2) fF fdF ["_law_pot_here"] (spFar 0 (10 ^ 56)) := ok_far FF.fn T FT
  refine F.ok scRows (fun vs H Q E h => ?_) (fun cdv A outer s H vs Q E hr h => ?_)
  · obtain ⟨p, n, rfl, _⟩ := h
    rfl
  · obtain ⟨p, n, rfl, hp, n0, n1, q⟩ := h
    have nd := scRows.nd
    have hr1 : Room (k + 1) _ := hr.mono (by omega)
    refine ⟨_, pss_cons (ps_set (i := 2) nd rfl (.inl rfl) pe_int)
      (pss_cons (ps_if (pt_cmpR op_eq (pe_call GT hr1 (by rfl) FT.gl FT.fn.kp FT.bd .nil pass0 (pa_cons (pv 0) (pa_cons pe_int pa_nil))) pe_int (nomark _)) (pss_one (ps_set (i := 2) nd rfl (.inl rfl) (pe_call GF hr (by rfl) FF.gl FF.fn.kp FF.bd .nil pass0 (pa_cons (pv 0) pa_nil)))) pss_nil)
      (pss_cons (ps_set (i := 3) nd rfl (.inl rfl) (pe_lst pa_nil))
      (pss_cons (ps_for PassesOwn.never rfl (pi_range1 (by rfl) T.range (pa_cons (pe_call GT hr1 (by rfl) FT.gl FT.fn.kp FT.bd .nil pass0 (pa_cons (pv 0) (pa_cons (pe_op op_add (pv 1) pe_int) pa_nil))) pa_nil)) (pg_name (i := 4) nd rfl (.inl rfl))
        (pss_cons (ps_set (i := 5) nd rfl (.inl rfl) (pe_call GT hr1 (by rfl) FT.gl FT.fn.kp FT.bd .nil pass0 (pa_cons (pv 0) (pa_cons pe_int pa_nil))))
        (pss_cons (ps_set (i := 6) nd rfl (.inl rfl) (pe_op op_add (pv 2) (pe_call GT hr1 (by rfl) FT.gl FT.fn.kp FT.bd .nil pass0 (pa_cons (pv 0) (pa_cons pe_int pa_nil)))))
        (pss_cons (ps_if (pt_cmpR op_eq (pv 5) pe_int (nomark _)) (pss_one (ps_set (i := 6) nd rfl (.inl rfl) (pe_call GF hr (by rfl) FF.gl FF.fn.kp FF.bd .nil pass0 (pa_cons (pv 0) pa_nil)))) pss_nil)
        (pss_cons (ps_set (i := 7) nd rfl (.inl rfl) (pe_op op_add (pv 6) (pe_call GT hr1 (by rfl) FT.gl FT.fn.kp FT.bd .nil pass0 (pa_cons (pv 0) (pa_cons pe_int pa_nil)))))
        (pss_cons (ps_if (pt_cmpR op_eq (pv 5) pe_int (nomark _)) (pss_one (ps_set (i := 7) nd rfl (.inl rfl) (pe_op op_add (pv 6) (pe_call GF hr (by rfl) FF.gl FF.fn.kp FF.bd .nil pass0 (pa_cons (pv 0) pa_nil))))) pss_nil)
        (pss_cons (ps_if (PW.pt (pw_and (pt_cmpR op_eq (pv 5) pe_int (nomark _)) (pw_and1 (pt_cmpR op_eq (pe_call GT hr1 (by rfl) FT.gl FT.fn.kp FT.bd .nil pass0 (pa_cons (pv 0) (pa_cons pe_int pa_nil))) pe_int (nomark _))))) (pss_one (ps_set (i := 7) nd rfl (.inl rfl) pe_non)) pss_nil)
        (pss_one (ps_expr (pe_bm PySem.F.plainAttrs_list PySem.F.slot_list_append PySem.F.type_list_append mt_append (pv 3) (pa_cons (pe_tup (pa_cons (pv 6) (pa_cons (pv 7) pa_nil))) pa_nil)))))))))))
      (pss_one (ps_ret (pv 3)))))), ?_⟩
    refine ⟨_, rfl, p, 3, rfl, hp, by decide, by decide, fun d H1 _ _ hp1 sb1 => ?_⟩
    refine ⟨rfl, _, rfl, ?_⟩
    apply join (α := Int) (J := fun b Hx => 0 ≤ b ∧ b ≤ 10 ^ 56 ∧ Pot Hx p ∧ SameB p H Hx) (sl := fun b => [some (.ref p), some (.int n), some (.int b), none, none, none, none, none])
    · intro h
      refine ite2 ?y ?n
      case n =>
        intro _
        exact h 0 H1 ⟨by decide, by decide, hp1, sb1⟩
      case y =>
        intro _
        exact ⟨_, rfl, p, rfl, hp1, fun d H2 d0 d1 hp2 sb2 => h d H2 ⟨d0, d1, hp2, sb1.trans sb2⟩⟩
    rintro b H2 ⟨b0, b1, hp2, sb2⟩
    refine ⟨by show 0 ≤ sizeLine; decide, fun q0 nq => ?_⟩
    have nqp : q0 ≠ p := hp2.ne nq
    have nq0 : H q0 = none := sb2.none hp2 nq
    have j3 : Jr p q0 H [] [] (upd H2 q0 (.lst [])) := ⟨hp2.upd nqp, sb2.trans (SameB.of (same_upd nq)), upd_same, .nil⟩
    generalize upd H2 q0 (.lst []) = H3 at *
    refine ⟨_, rfl, _, rfl, _, _, rfl, rfl, p, _, rfl, j3.hp, by omega, by omega, fun m H4 m0 m1 hp4 sb4 => ?_⟩
    refine ⟨m, rfl, by omega, by omega, for_range (lo := 0) (n := m.toNat) (fun i σ H' => ∃ y4 y5 y6 y7 zs rs, σ = [some (.ref p), some (.int n), some (.int b), some (.ref q0), y4, y5, y6, y7] ∧ Jr p q0 H zs rs H' ∧ rs.length = i) ⟨none, none, none, none, [], [], rfl, j3.step nqp hp4 sb4, rfl⟩ ?_ ?_⟩
    · rintro i σ H5 hi ⟨y4, y5, y6, y7, zs, rs, rfl, j5, hrl⟩
      refine ⟨_, rfl, p, 6, rfl, j5.hp, by decide, by decide, fun way H6 w0 w1 hp6 sb6 => ?_⟩
      have j6 := j5.step nqp hp6 sb6
      refine ⟨_, rfl, _, rfl, p, 41, rfl, j6.hp, by decide, by decide, fun d7 H7 a0 a1 hp7 sb7 => ⟨_, _, rfl, rfl, ?_⟩⟩
      have j7 := j6.step nqp hp7 sb7
      apply join (α := Int) (J := fun f Hx => 0 ≤ f ∧ f ≤ 10 ^ 56 + 50 ∧ Jr p q0 H zs rs Hx) (sl := fun f => [some (.ref p), some (.int n), some (.int b), some (.ref q0), some (.int (0 + (i : Nat))), some (.int way), some (.int f), y7])
      · intro h
        refine ⟨_, rfl, rfl, _, rfl, ite2 ?y ?n⟩
        case n =>
          intro _
          exact h (b + d7) H7 ⟨by omega, by omega, j7⟩
        case y =>
          intro _
          exact ⟨_, rfl, p, rfl, j7.hp, fun d H8 d0 d1 hp8 sb8 => h d H8 ⟨d0, by omega, j7.step nqp hp8 sb8⟩⟩
      rintro fst H8 ⟨f0, f1, j8⟩
      refine ⟨_, rfl, _, rfl, p, 8, rfl, j8.hp, by decide, by decide, fun d9 H9 a0 a1 hp9 sb9 => ⟨_, _, rfl, rfl, ?_⟩⟩
      have j9 := j8.step nqp hp9 sb9
      apply join (α := Int) (J := fun l Hx => fst ≤ l ∧ l ≤ fst + 10 ^ 56 ∧ Jr p q0 H zs rs Hx) (sl := fun l => [some (.ref p), some (.int n), some (.int b), some (.ref q0), some (.int (0 + (i : Nat))), some (.int way), some (.int fst), some (.int l)])
      · intro h
        refine ⟨_, rfl, rfl, _, rfl, ite2 ?y ?n⟩
        case n =>
          intro _
          exact h (fst + d9) H9 ⟨by omega, by omega, j9⟩
        case y =>
          intro _
          exact ⟨_, rfl, _, rfl, p, rfl, j9.hp, fun d H10 d0 d1 hp10 sb10 => ⟨_, _, rfl, rfl, h (fst + d) H10 ⟨by omega, by omega, j9.step nqp hp10 sb10⟩⟩⟩
      rintro lst H10 ⟨l0, l1, j10⟩
      apply join (α := Option Int) (J := fun l Hx => (l = none ∨ l = some lst) ∧ Jr p q0 H zs rs Hx) (sl := fun l => [some (.ref p), some (.int n), some (.int b), some (.ref q0), some (.int (0 + (i : Nat))), some (.int way), some (.int fst), some (enc l)])
      · intro h
        have hn := fun Hx j => h none Hx ⟨.inl rfl, j⟩
        have hs := fun Hx j => h (some lst) Hx ⟨.inr rfl, j⟩
        refine ⟨_, rfl, rfl, _, rfl, ite2 ?y ?n⟩
        case n =>
          intro _
          exact iteF (hs H10 j10)
        case y =>
          intro _
          refine ⟨_, rfl, p, 3, rfl, j10.hp, by decide, by decide, fun d H11 _ _ hp11 sb11 => ⟨rfl, _, rfl, ite2 (fun _ => ?_) (fun _ => ?_)⟩⟩
          · exact hn H11 (j10.step nqp hp11 sb11)
          · exact hs H11 (j10.step nqp hp11 sb11)
      rintro lo H11 ⟨hlo, j11⟩
      refine ⟨_, rfl, .inl ⟨rfl, _, SqL.of j11.hq⟩, _, rfl, _, rfl, by show 2 ≤ sizeLine; decide, fun t nt => ?_⟩
      have hq12 : upd H11 t (.tup [.int fst, enc lo]) q0 = some (.lst zs) := by
        rw [upd_ne (ne_of_none j11.hq nt)]
        exact j11.hq
      have rb : RBd (fst, lo) := by
        rcases hlo with rfl | rfl
        · exact ⟨⟨f0, nofun⟩, by show fst ≤ _; omega, nofun⟩
        · exact ⟨⟨f0, fun j ej => by cases ej; exact l0⟩, by show fst ≤ _; omega, fun j ej => by cases ej; omega⟩
      have ntp : t ≠ p := j11.hp.ne nt
      have tz := j11.tr.length
      refine ⟨q0, zs, _, rfl, rfl, hq12, small1000 (by omega), ?_⟩
      refine ⟨_, _, _, _, zs ++ [.ref t], rs ++ [(fst, lo)], rfl, ⟨(j11.hp.upd ntp).upd nqp, fun c o hc hco => ?_, upd_same, ?_⟩, by rw [List.length_append, hrl]; rfl⟩
      · rw [upd_ne (ne_of_none hco nq0)]
        exact (j11.sb.trans (SameB.of (same_upd nt))) c o hc hco
      · refine TRs.append (j11.tr.imp fun v r tr => (tr.ext (extN_same (same_upd nt))).updL hq12) (.cons ⟨rb, t, rfl, ?_⟩ .nil)
        rw [upd_ne (ne_of upd_same hq12 nofun)]
        exact upd_same
    · rintro σ H5 ⟨y4, y5, y6, y7, zs, rs, rfl, j5, hrl⟩
      exact ⟨_, rfl, q q0 zs rs H5 nq0 nqp j5.hq j5.tr (by omega) j5.hp j5.sb⟩
end
end K17

set_option Elab.async false
set_option linter.all false
set_option maxRecDepth 100000
set_option maxHeartbeats 1600000
namespace K17
open PySem PySem.Spec PyProof.Rows L2 LT LamX
abbrev nHanded : List Str := ["_law_pot_here", "_law_rows_here", "_law_found", "_law_first", "_law_last"]
theorem scHanded : FnScope nHanded ["_law_pot_here", "_law_rows_here"] (defScope sHanded) := ⟨rfl, rfl, rfl, by decide +kernel, rfl, by decide +kernel, by decide +kernel⟩
theorem SRs.take_snoc {C : Addr} {H : Hp} {us : List V} {rs : List Row} {i : Nat} {v : V} {r : Row} (h : SRs C H us (rs.take i)) (e : rs[i]? = some r) (s : SR C H v r) : SRs C H (us ++ [v]) (rs.take (i + 1)) := by
  rw [List.take_add_one, e]
  exact h.append (.cons s .nil)
theorem SR.extB {C p : Addr} {H H' : Hp} {v : V} {r : Row} (h : SR C H v r) (hp : Pot H p) (s : SameB p H H') : SR C H' v r := by
  obtain ⟨b, x, dx, e, hx⟩ := h
  exact ⟨b, x, dx, e, s _ _ (ne_of_pot hp hx) hx⟩
theorem SRs.imp {C : Addr} {H H' : Hp} {vs : List V} {rs : List Row} (h : SRs C H vs rs) (f : ∀ v r, SR C H v r → SR C H' v r) : SRs C H' vs rs := by
  induction h with
  | nil => exact .nil
  | cons a _ ih => exact .cons (f _ _ a) ih
section
variable {P : Program} {w : World} {K : PySem.W.Frag} {mg : Str → Option Value} {base : Heap} {C CN : Addr} {cM PM cY PY : Addr}
def spHanded (C : Addr) : Sp := fun vs H Q _ => ∃ p q zs rs, vs = [.ref p, .ref q] ∧ Pot H p ∧ H q = some (.lst zs) ∧ TRs H zs rs ∧ rs.length ≤ 100 ∧
  ∀ a xs ss H', H a = none → a ≠ p → Sd H' a xs → SRs C H' xs ss → (∀ r, r ∈ ss ↔ r ∈ rs) → (∃ tl, ss = rs ++ tl) → ss.length ≤ rs.length + 1 → Pot H' p → SameB p H H' → Q (.ref a) H'
theorem ok_handed {f fT : Addr} {fd fdT : FuncData} (F : Fun K "_law_handed" "_law_handed" sHanded f fd) (T : Tx mg) (S : Pm K mg C CN) (FT : TakeFn K mg fT fdT) : FnOk P w K mg base CX0 6 f fd ["_law_pot_here", "_law_rows_here"] (spHanded C) := by
  obtain ⟨_, _, FD⟩ := S.day
  obtain ⟨_, _, FW⟩ := S.whole
  obtain ⟨_, _, M, FI, bI⟩ := S.init
  have Z := S.ct
  have GI : FnOk P w K mg base (L2.CX P w) 4 _ _ ["self", "first", "last"] (spInit C CN) := ok_init FI T Z FD FW
  have GT : FnOk P w K mg base CX0 1 fT fdT ["_law_pot_here", "_law_room"] spTake := ok_take FT.fn T
  refine F.ok scHanded (fun vs H Q E h => ?_) (fun cdv A outer s H vs Q E hr h => ?_)
  · obtain ⟨p, q, zs, rs, rfl, _⟩ := h
    rfl
  · obtain ⟨p, q, zs, rs, rfl, hp, hq, hz, hl, fin⟩ := h
    have nd := scHanded.nd
    have hu := hr.units
    have hr1 : Room 1 _ := hr.mono (by decide)
    refine ⟨_, pss_cons (ps_setLc (i := 2) (own := [("_law_first", 3), ("_law_last", 4)]) (g := gTup K 2 (gCons (gName 3) (gCons (gName 4) gNil))) (tt := tYes) rfl nd rfl rfl (sw_true rfl rfl rfl rfl) (pi_list (pv 1)) (blkOk_by (N := nHanded) (sc := defScope sHanded) (by decide +kernel))
          (fun _ _ _ _ _ => pg_tup rfl (pgs_cons (pg_name (i := 3) nd rfl (Or.inl rfl)) (pgs_cons (pg_name (i := 4) nd rfl (Or.inl rfl)) pgs_nil))) (fun _ _ _ _ _ => pts_nil)
          (fun _ _ _ _ _ => pe_make M GI hr (by rfl) Z.mgC bI .nil passL (pa_cons (pv 3) (pa_cons (pv 4) pa_nil))))
      (pss_cons (ps_if (PW.pt (pw_and (pt_cmpR (op_neNil hu) (pv 2) (pe_lst pa_nil) (nomark _)) (pw_and1 (pt_cmpR op_eq (pe_call GT hr1 (by rfl) FT.gl FT.fn.kp FT.bd .nil pass0 (pa_cons (pv 0) (pa_cons pe_int pa_nil))) pe_int (nomark _)))))
          (pss_one (ps_expr (pe_bm PySem.F.plainAttrs_list PySem.F.slot_list_append PySem.F.type_list_append mt_append (pv 2) (pa_cons (pe_ix ix_list (pv 2) (pe_call GT hr1 (by rfl) FT.gl FT.fn.kp FT.bd .nil pass0 (pa_cons (pv 0) (pa_cons (pe_callB call_len_seq (by rfl) T.len PySem.boot_len (pa_cons (pv 2) pa_nil)) pa_nil))) (fun _ _ => rfl)) pa_nil)))) pss_nil)
      (pss_one (ps_ret (pe_ix ix_list (pe_lst (pa_cons (pv 2) (pa_cons (pe_callTy call_tuple_of (by rfl) T.tuple (by decide +kernel) (pa_cons (pv 2) pa_nil)) pa_nil))) (pe_call GT hr1 (by rfl) FT.gl FT.fn.kp FT.bd .nil pass0 (pa_cons (pv 0) (pa_cons pe_int pa_nil))) (fun _ _ => rfl))))), ?_⟩
    refine ⟨_, rfl, q, rfl, ⟨_, SqL.of hq⟩, fun D nD => ?_⟩
    have zl := hz.length
    refine lc_list (K := K) (a := q) (xs := zs) (fun i H' => Same H H' ∧ ∃ us, H' D = some (.lst us) ∧ SRs C H' us (rs.take i) ∧ us.length = i) ⟨same_upd nD, [], upd_same, .nil, rfl⟩ (fun i H' _ h => h.1.seq (SqL.of hq)) ?_ ?_
    · rintro i v H1 hv ⟨sm, us, hD, hs, hul⟩
      obtain ⟨r, er, tr⟩ := hz.at hv
      obtain ⟨rb, t, rfl, ht⟩ := tr.ext (extN_same sm)
      have hi : i < rs.length := (List.getElem?_eq_some_iff.mp er).1
      refine ⟨t, _, rfl, SqT.of ht, rfl, _, _, rfl, _, _, rfl, rfl, rfl, _, rfl, _, rfl, fun x dx nx ndx nex => ?_⟩
      refine mk_init (r := r) nx ndx nex rb.rb fun H2 s2 sr2 => ⟨rfl, us, s2 _ _ hD, small1000 (by omega), fun b o e => ?_, us ++ [.ref x], upd_same, ?_, by rw [List.length_append, hul]; rfl⟩
      · rw [upd_ne (ne_of_none e nD)]
        exact s2 _ _ (sm b o e)
      · exact ((hs.ext (extN_same s2)).updL (s2 _ _ hD)).take_snoc er (sr2.updL (s2 _ _ hD))
    · rintro H1 ⟨sm, us, hD, hs, hul⟩
      rw [List.take_of_length_le (by omega)] at hs
      have hp1 := hp.mono sm
      have nDp : D ≠ p := fun e => by
        obtain ⟨_, _, h, _⟩ := hp
        rw [e, h] at nD
        cases nD
      apply join (α := List V × List Row) (J := fun x Hx => Hx D = some (.lst x.1) ∧ SRs C Hx x.1 x.2 ∧ (∀ r, r ∈ x.2 ↔ r ∈ rs) ∧ (∃ tl, x.2 = rs ++ tl) ∧ x.2.length ≤ rs.length + 1 ∧ Pot Hx p ∧ SameB p H Hx) (sl := fun _ => [some (.ref p), some (.ref q), some (.ref D), none, none])
      · intro h
        refine ⟨_, rfl, by show 0 ≤ sizeLine; decide, fun e ne => ⟨D, e, us, rfl, rfl, ?_, upd_same, _, rfl, ?_⟩⟩
        · rw [upd_ne (ne_of_none hD ne)]
          exact hD
        have s2 := same_upd (o := .lst []) ne
        have hs2 := hs.ext (extN_same s2)
        have hD2 := s2 _ _ hD
        have sb2 : SameB p H (upd H1 e (.lst [])) := SameB.of (sm.trans s2)
        have hp2 := hp1.mono s2
        generalize upd H1 e (.lst []) = H2 at *
        have go := h (us, rs) H2 ⟨hD2, hs2, fun _ => Iff.rfl, ⟨[], (List.append_nil rs).symm⟩, Nat.le_succ _, hp2, sb2⟩
        cases us with
        | nil => exact iteF (iteF go)
        | cons u us =>
          refine iteT ?_
          refine ⟨_, rfl, p, 3, rfl, hp2, by decide, by decide, fun d H3 _ _ hp3 sb3 => ⟨rfl, _, rfl, ?_⟩⟩
          have hD3 := sb3 _ _ nDp hD2
          have hs3 : SRs C H3 (u :: us) rs := hs2.imp fun _ _ z => z.extB hp2 sb3
          have sb3' := sb2.trans sb3
          refine ite2 (fun _ => ?_) (fun _ => ?_)
          · refine ⟨_, rfl, .inl ⟨rfl, _, SqL.of hD3⟩, _, rfl, _, rfl, _, rfl, D, _, rfl, .inl (SqL.of hD3), ?_⟩
            have ul : (u :: us).length = rs.length := hs3.length
            refine ⟨p, _, rfl, hp3, by rw [ul]; have := hs3.length; simp only [List.length_cons] at this; omega, by rw [ul]; omega, fun j H4 j0 j1 hp4 sb4 => ?_⟩
            have hD4 := sb4 _ _ nDp hD3
            have hs4 : SRs C H4 (u :: us) rs := hs3.imp fun _ _ z => z.extB hp3 sb4
            obtain ⟨n, rfl⟩ := Int.eq_ofNat_of_zero_le j0
            have jl : n < (u :: us).length := by omega
            have ej : (u :: us)[n]? = some ((u :: us)[n]) := List.getElem?_eq_getElem jl
            obtain ⟨rj, erj, srj⟩ := hs4.at ej
            refine ⟨D, _, _, (u :: us)[n], rfl, rfl, SqL.of hD4, ?_, ?_⟩
            · exact atI_nat ej
            · refine ⟨D, _, _, rfl, rfl, hD4, small1000 (by omega), ?_⟩
              refine h ((u :: us) ++ [(u :: us)[n]], rs ++ [rj]) _ ⟨upd_same, (hs4.updL hD4).append (.cons (srj.updL hD4) .nil), fun r => ?_, ⟨[rj], rfl⟩, by rw [List.length_append]; exact Nat.le_refl _, hp4.upd nDp, fun c o hc hco => ?_⟩
              · rw [List.mem_append, List.mem_singleton]
                exact ⟨fun z => z.elim id fun e => by rw [e]; exact List.mem_of_getElem? erj, .inl⟩
              · rw [upd_ne (ne_of_none hco nD)]
                exact (sb3'.trans sb4) c o hc hco
          · exact h (u :: us, rs) H3 ⟨hD3, hs3, fun _ => Iff.rfl, ⟨[], (List.append_nil rs).symm⟩, Nat.le_succ _, hp3, sb3'⟩
      rintro ⟨xs, ss⟩ H5 ⟨hD5, hs5, hm5, hq5, hl5, hp5, sb5⟩
      have hD5 : H5 D = some (.lst xs) := hD5
      refine ⟨_, rfl, _, rfl, D, _, rfl, .inl ⟨SqL.of hD5, fun t nt => ?_⟩⟩
      have s6 := same_upd (o := .tup xs) nt
      refine ⟨by show 2 ≤ sizeLine; decide, fun e ne => ?_⟩
      have s7 := same_upd (o := .lst [V.ref D, .ref t]) ne
      have s67 := s6.trans s7
      have ht7 := s7 _ _ (upd_same (H := H5) (a := t) (o := .tup xs))
      have he7 := upd_same (H := upd H5 t (.tup xs)) (a := e) (o := .lst [V.ref D, .ref t])
      have nt0 : H t = none := sb5.none hp5 nt
      have ntp : t ≠ p := hp5.ne nt
      have nep : e ≠ p := (hp5.mono s6).ne ne
      generalize upd (upd H5 t (.tup xs)) e (.lst [V.ref D, .ref t]) = H7 at *
      have hp7 := hp5.mono s67
      have sb7 := sb5.trans (SameB.of s67)
      refine ⟨_, rfl, p, 2, rfl, hp7, by decide, by decide, fun d H8 d0 d1 hp8 sb8 => ?_⟩
      have hs8 : SRs C H8 xs ss := (hs5.ext (extN_same s67)).imp fun _ _ z => z.extB hp7 sb8
      have hd : d = 0 ∨ d = 1 := by omega
      rcases hd with rfl | rfl
      · exact ⟨e, _, 0, _, rfl, rfl, SqL.of (sb8 _ _ nep he7), rfl, fin D xs ss H8 nD nDp (.inl (sb8 _ _ nDp (s67 _ _ hD5))) hs8 hm5 hq5 hl5 hp8 (sb7.trans sb8)⟩
      · exact ⟨e, _, 1, _, rfl, rfl, SqL.of (sb8 _ _ nep he7), rfl, fin t xs ss H8 nt0 ntp (.inr (sb8 _ _ ntp ht7)) hs8 hm5 hq5 hl5 hp8 (sb7.trans sb8)⟩
end
end K17

set_option Elab.async false
set_option linter.all false
set_option maxRecDepth 100000
set_option maxHeartbeats 1600000
namespace K17
open PySem PySem.Spec PyProof.Rows L2 LT LamX
abbrev nIn : List Str := ["_law_rows_here", "_law_day", "_law_first", "_law_last"]
abbrev nMarks : List Str := ["_law_rows_here", "_law_first", "_law_last"]
theorem scIn : FnScope nIn ["_law_rows_here", "_law_day"] (defScope sIn) := ⟨rfl, rfl, rfl, by decide +kernel, rfl, by decide +kernel, by decide +kernel⟩
theorem scMarks : FnScope nMarks ["_law_rows_here"] (defScope sMarks) := ⟨rfl, rfl, rfl, by decide +kernel, rfl, by decide +kernel, by decide +kernel⟩
def endR : Row → Row
  | (a, none) => (a, some a)
  | (a, some j) => (a, some j)
theorem endR_rb {r : Row} (h : RB r) : RB (endR r) := by
  obtain ⟨a, x⟩ := r
  cases x with
  | none => exact ⟨⟨h.ok.1, fun j ej => by cases ej; exact Int.le_refl _⟩, h.b1, fun j ej => by cases ej; exact h.b1⟩
  | some j => exact h
def marks (rs : List Row) : List Int := [0] ++ rs.map (·.1) ++ rs.filterMap fun r => r.2.map (· + 1)
section
variable {P : Program} {w : World} {K : PySem.W.Frag} {mg : Str → Option Value} {base : Heap} {C CN : Addr} {cM PM cY PY : Addr}
def spIn : Sp := fun vs H Q _ => ∃ q zs rs d, vs = [.ref q, .int d] ∧ H q = some (.lst zs) ∧ TRs H zs rs ∧ rs.length ≤ 1000 ∧ ∀ H', Same H H' → Q (.bl (LD.insB rs d)) H'
theorem ok_in {f : Addr} {fd : FuncData} {k : Nat} (F : Fun K "_law_in" "_law_in" sIn f fd) (T : Tx mg) : FnOk P w K mg base CX0 (k + 1) f fd ["_law_rows_here", "_law_day"] spIn := by
  refine F.ok scIn (fun vs H Q E h => ?_) (fun cdv A outer s H vs Q E hr h => ?_)
  · obtain ⟨q, zs, rs, d, rfl, _⟩ := h
    rfl
  · obtain ⟨q, zs, rs, d, rfl, hq, hz, hl, fin⟩ := h
    have nd := scIn.nd
    refine ⟨_, pss_one (ps_ret (pe_callB (cr_any rfl) (by rfl) T.any (by decide +kernel) (pa_cons (pe_lc (own := [("_law_first", 2), ("_law_last", 3)]) (g := gTup K 2 (gCons (gName 2) (gCons (gName 3) gNil))) (tt := tYes) rfl nd (pi_list (pv 0)) (blkOk_by (N := nIn) (sc := defScope sIn) (by decide +kernel))
          (fun _ _ _ _ _ => pg_tup rfl (pgs_cons (pg_name (i := 2) nd rfl (Or.inl rfl)) (pgs_cons (pg_name (i := 3) nd rfl (Or.inl rfl)) pgs_nil))) (fun _ _ _ _ _ => pts_nil)
          (fun _ _ _ _ _ => pe_and (pe_cmpR op_le (pv 2) (pv 1) (nomark _)) (pe_one (pe_or (pe_cmpR op_isN (pv 3) pe_non (nomark _)) (pe_one (pe_cmpR op_le (pv 1) (pv 3) (nomark _))))))) pa_nil))), ?_⟩
    refine ⟨_, rfl, q, rfl, ⟨_, SqL.of hq⟩, fun D nD => ?_⟩
    have zl := hz.length
    refine lc_list (K := K) (a := q) (xs := zs) (fun i H' => Same H H' ∧ H' D = some (.lst ((rs.take i).map fun r => V.bl (LD.inB r d)))) ⟨same_upd nD, upd_same⟩ (fun i H' _ h => h.1.seq (SqL.of hq)) ?_ ?_
    · rintro i v H1 hv ⟨sm, hD⟩
      obtain ⟨r, er, tr⟩ := hz.at hv
      obtain ⟨rb, t, rfl, ht⟩ := tr.ext (extN_same sm)
      have hi : i < rs.length := (List.getElem?_eq_some_iff.mp er).1
      refine ⟨t, _, rfl, SqT.of ht, rfl, _, _, rfl, _, _, rfl, rfl, rfl, ?_⟩
      have after : ∃ acc, H1 D = some (.lst acc) ∧ acc.length < sizeLine ∧ (Same H (upd H1 D (.lst (acc ++ [.bl (LD.inB r d)]))) ∧ upd H1 D (.lst (acc ++ [.bl (LD.inB r d)])) D = some (.lst ((rs.take (i + 1)).map fun r => V.bl (LD.inB r d)))) := by
        refine ⟨_, hD, small1000 (by rw [List.length_map, List.length_take]; omega), fun b o e => ?_, ?_⟩
        · rw [upd_ne (ne_of_none e nD)]
          exact sm b o e
        · rw [upd_same, List.take_add_one, er, List.map_append]
          rfl
      obtain ⟨a, x⟩ := r
      unfold LD.inB at after
      refine ⟨_, rfl, _, rfl, a, d, rfl, rfl, _, rfl, ?_⟩
      cases hb : decide (a ≤ d) with
      | false =>
        simp only [hb, Bool.false_and] at after
        exact after
      | true =>
        simp only [hb, Bool.true_and] at after
        cases x with
        | none => exact ⟨_, rfl, rfl, _, rfl, after⟩
        | some j => exact ⟨_, rfl, rfl, _, rfl, _, rfl, _, rfl, d, j, rfl, rfl, after⟩
    · rintro H1 ⟨sm, hD⟩
      rw [List.take_of_length_le (by omega)] at hD
      refine ⟨D, rs.map fun r => LD.inB r d, rfl, SqL.of (by rw [hD, List.map_map]; rfl), ?_⟩
      rw [List.any_map]
      exact fin H1 sm
end
end K17

set_option Elab.async false
set_option linter.all false
set_option maxRecDepth 100000
set_option maxHeartbeats 1600000
namespace K17
open PySem PySem.Spec PyProof.Rows L2 LT LamX
section
variable {P : Program} {w : World} {K : PySem.W.Frag} {mg : Str → Option Value} {base : Heap} {C CN : Addr} {cM PM cY PY : Addr}
def spMarks : Sp := fun vs H Q _ => ∃ q zs rs, vs = [.ref q] ∧ H q = some (.lst zs) ∧ TRs H zs rs ∧ rs.length ≤ 100 ∧ ∀ a H', H a = none → Same H H' → H' a = some (.lst ((marks rs).map V.int)) → Q (.ref a) H'
theorem fm_len {α β : Type} (f : α → Option β) (l : List α) : (l.filterMap f).length ≤ l.length := List.length_filterMap_le f l
theorem ok_marks {f : Addr} {fd : FuncData} {k : Nat} (F : Fun K "_law_marks" "_law_marks" sMarks f fd) : FnOk P w K mg base CX0 (k + 1) f fd ["_law_rows_here"] spMarks := by
  refine F.ok scMarks (fun vs H Q E h => ?_) (fun cdv A outer s H vs Q E hr h => ?_)
  · obtain ⟨q, zs, rs, rfl, _⟩ := h
    rfl
  · obtain ⟨q, zs, rs, rfl, hq, hz, hl, fin⟩ := h
    have nd := scMarks.nd
    refine ⟨_, pss_one (ps_ret (pe_op op_cat (pe_op op_cat (pe_lst (pa_cons pe_int pa_nil)) (pe_lc (own := [("_law_first", 1), ("_law_last", 2)]) (g := gTup K 2 (gCons (gName 1) (gCons (gName 2) gNil))) (tt := tYes) rfl nd (pi_list (pv 0)) (blkOk_by (N := nMarks) (sc := defScope sMarks) (by decide +kernel))
          (fun _ _ _ _ _ => pg_tup rfl (pgs_cons (pg_name (i := 1) nd rfl (Or.inl rfl)) (pgs_cons (pg_name (i := 2) nd rfl (Or.inl rfl)) pgs_nil))) (fun _ _ _ _ _ => pts_nil) (fun _ _ _ _ _ => pv 1)))
        (pe_lc (own := [("_law_first", 1), ("_law_last", 2)]) (g := gTup K 2 (gCons (gName 1) (gCons (gName 2) gNil))) rfl nd (pi_list (pv 0)) (blkOk_by (N := nMarks) (sc := defScope sMarks) (by decide +kernel))
          (fun _ _ _ _ _ => pg_tup rfl (pgs_cons (pg_name (i := 1) nd rfl (Or.inl rfl)) (pgs_cons (pg_name (i := 2) nd rfl (Or.inl rfl)) pgs_nil))) (fun _ _ _ _ _ => pts_one (pt_cmpR op_notN (pv 2) pe_non (nomark _))) (fun _ _ _ _ _ => pe_op (r := rI0 fun i j => V.int (i + j)) op_add (pv 2) pe_int)))), ?_⟩
    have zl := hz.length
    refine ⟨by show 1 ≤ sizeLine; decide, fun l0 n0 => ?_⟩
    have s0 := same_upd (o := .lst [V.int 0]) n0
    have e0 := upd_same (H := H) (a := l0) (o := .lst [V.int 0])
    generalize upd H l0 (.lst [V.int 0]) = H0 at *
    refine ⟨_, rfl, q, rfl, ⟨_, SqL.of (s0 _ _ hq)⟩, fun D nD => ?_⟩
    refine lc_list (K := K) (a := q) (xs := zs) (fun i H' => Same H0 H' ∧ H' D = some (.lst ((rs.take i).map fun r => V.int r.1))) ⟨same_upd nD, upd_same⟩ (fun i H' _ h => h.1.seq (SqL.of (s0 _ _ hq))) ?_ ?_
    · rintro i v H1 hv ⟨sm, hD⟩
      obtain ⟨r, er, tr⟩ := hz.at hv
      obtain ⟨rb, t, rfl, ht⟩ := tr.ext (extN_same (s0.trans sm))
      refine ⟨t, _, rfl, SqT.of ht, rfl, _, _, rfl, _, _, rfl, rfl, rfl, _, rfl, _, hD, small1000 (by rw [List.length_map, List.length_take]; omega), fun b o e => ?_, ?_⟩
      · rw [upd_ne (ne_of_none e nD)]
        exact sm b o e
      · rw [upd_same, List.take_add_one, er, List.map_append]
        rfl
    rintro H1 ⟨sm1, hD⟩
    rw [List.take_of_length_le (by omega)] at hD
    refine ⟨l0, D, _, _, rfl, rfl, sm1 _ _ e0, hD, ?_, fun a1 na1 => ?_⟩
    · rw [List.length_map]
      exact Nat.le_of_lt (small1000 (by show 1 + _ ≤ 1000; omega))
    have s2 := same_upd (o := .lst ([V.int 0] ++ rs.map fun r => V.int r.1)) na1
    have e2 := upd_same (H := H1) (a := a1) (o := .lst ([V.int 0] ++ rs.map fun r => V.int r.1))
    have sm2 := (s0.trans sm1).trans s2
    generalize upd H1 a1 (.lst ([V.int 0] ++ rs.map fun r => V.int r.1)) = H2 at *
    refine ⟨_, rfl, q, rfl, ⟨_, SqL.of (sm2 _ _ hq)⟩, fun D2 nD2 => ?_⟩
    refine lc_list (K := K) (a := q) (xs := zs) (fun i H' => Same H2 H' ∧ H' D2 = some (.lst (((rs.take i).filterMap fun r => r.2.map (· + 1)).map V.int))) ⟨same_upd nD2, upd_same⟩ (fun i H' _ h => h.1.seq (SqL.of (sm2 _ _ hq))) ?_ ?_
    · rintro i v H3 hv ⟨sm, hD3⟩
      obtain ⟨⟨a, x⟩, er, tr⟩ := hz.at hv
      obtain ⟨rb, t, rfl, ht⟩ := tr.ext (extN_same (sm2.trans sm))
      refine ⟨t, _, rfl, SqT.of ht, rfl, _, _, rfl, _, _, rfl, rfl, rfl, _, rfl, rfl, _, rfl, ?_⟩
      cases x with
      | none =>
        refine iteF ⟨sm, ?_⟩
        rw [hD3, List.take_add_one, er, List.filterMap_append]
        rw [show ((some (a, none) : Option Row).toList.filterMap fun r => r.2.map (· + 1)) = [] from rfl, List.append_nil]
      | some j =>
        refine iteT ⟨_, rfl, j, 1, rfl, rfl, _, hD3, ?_, fun b o e => ?_, ?_⟩
        · rw [List.length_map]
          have := fm_len (fun r : Row => r.2.map (· + 1)) (rs.take i)
          rw [List.length_take] at this
          exact small1000 (by omega)
        · rw [upd_ne (ne_of_none e nD2)]
          exact sm b o e
        · rw [upd_same, List.take_add_one, er, List.filterMap_append, List.map_append]
          rfl
    rintro H3 ⟨sm3, hD3⟩
    rw [List.take_of_length_le (by omega)] at hD3
    refine ⟨a1, D2, _, _, rfl, rfl, sm3 _ _ e2, hD3, ?_, fun a2 na2 => ?_⟩
    · rw [List.length_append, List.length_map, List.length_map]
      have := fm_len (fun r : Row => r.2.map (· + 1)) rs
      exact Nat.le_of_lt (small1000 (by show 1 + _ + _ ≤ 1000; omega))
    have sm4 := sm2.trans sm3
    refine fin a2 _ (sm4.free na2) (sm4.trans (same_upd na2)) ?_
    rw [upd_same]
    unfold marks
    rw [List.map_append, List.map_append, List.map_map]
    rfl
end
end K17

set_option Elab.async false
set_option linter.all false
set_option maxRecDepth 100000
set_option maxHeartbeats 1600000
namespace K17
open PySem PySem.Spec PyProof.Rows L2 LT LamX
/-! ### bounds -/
theorem rb_stepM {R : List Row} {r : Row} (h : ∀ u ∈ R, RB u) (hr : RB r) : (∀ u ∈ LD.stepM R r, RB u) ∧ (LD.stepM R r).length ≤ R.length + 1 := by
  cases R with
  | nil => exact ⟨fun u hu => by rw [List.mem_singleton.mp hu]; exact hr, Nat.le_refl _⟩
  | cons a t =>
    have es : LD.stepM (a :: t) r = if LD.meetsB a r = true then (a.1, LD.laterO a.2 r.2) :: t else r :: a :: t := rfl
    rw [es]
    split
    · refine ⟨fun u hu => ?_, Nat.le_succ _⟩
      rcases List.mem_cons.mp hu with rfl | hu
      · exact rb_later (h a (.head _)) hr
      · exact h u (.tail _ hu)
    · refine ⟨fun u hu => ?_, Nat.le_refl _⟩
      rcases List.mem_cons.mp hu with rfl | hu
      · exact hr
      · exact h u hu
theorem rb_foldM : ∀ (ss R : List Row), (∀ u ∈ R, RB u) → (∀ u ∈ ss, RB u) → (∀ u ∈ ss.foldl LD.stepM R, RB u) ∧ (ss.foldl LD.stepM R).length ≤ R.length + ss.length
  | [], R, h, _ => ⟨h, Nat.le_refl _⟩
  | r :: ss, R, h, hs => by
    obtain ⟨h1, h2⟩ := rb_stepM h (hs r (.head _))
    obtain ⟨g1, g2⟩ := rb_foldM ss (LD.stepM R r) h1 fun u hu => hs u (.tail _ hu)
    refine ⟨g1, ?_⟩
    rw [List.foldl_cons, List.length_cons]
    omega
theorem RB.sm {r : Row} (h : RB r) : Sm r := by
  have h0 := h.ok.1
  have h1 := h.b1
  refine ⟨by omega, fun j ej => ?_⟩
  have h2 := h.b2 j ej
  have h3 := h.ok.2 j ej
  omega
/-! ### the marks -/
theorem marks_nn {rs : List Row} (h : ∀ r ∈ rs, RB r) : ∀ k ∈ marks rs, 0 ≤ k := fun k hk => by
  unfold marks at hk
  rcases List.mem_append.mp hk with hk | hk
  · rcases List.mem_append.mp hk with hk | hk
    · rw [List.mem_singleton.mp hk]
      decide
    · obtain ⟨r, hr, rfl⟩ := List.mem_map.mp hk
      exact (h r hr).ok.1
  · obtain ⟨r, hr, e⟩ := List.mem_filterMap.mp hk
    obtain ⟨j, ej, rfl⟩ := Option.map_eq_some_iff.mp e
    have h1 := (h r hr).ok.1
    have h2 := (h r hr).ok.2 j ej
    omega
theorem marks_f {rs : List Row} : ∀ r ∈ rs, r.1 ∈ marks rs := fun r hr => List.mem_append_left _ (List.mem_append_right _ (List.mem_map.mpr ⟨r, hr, rfl⟩))
theorem marks_l {rs : List Row} : ∀ r ∈ rs, ∀ j, r.2 = some j → j + 1 ∈ marks rs := fun r hr j e => List.mem_append_right _ (List.mem_filterMap.mpr ⟨r, hr, by rw [e]; rfl⟩)
theorem marks_len (rs : List Row) : (marks rs).length ≤ 2 * rs.length + 1 := by
  unfold marks
  rw [List.length_append, List.length_append, List.length_map]
  have := fm_len (fun r : Row => r.2.map (· + 1)) rs
  show 1 + _ + _ ≤ _
  omega
theorem due_core {rs ss : List Row} {ns : List Int} (h : ∀ r ∈ rs, RB r) (hp : ∀ r, r ∈ ss ↔ r ∈ rs) (srt : ss.Pairwise (fun a b => a.1 ≤ b.1)) (pw : ns.Pairwise (· < ·)) (hm : ∀ k, k ∈ ns ↔ k ∈ marks rs) :
    ns.foldl (LD.stepD (LD.insB rs)) [] = mergedOf ss :=
  LD.core (fun r hr => (h r hr).ok) hp srt pw (fun n hn => marks_nn h n ((hm n).mp hn)) (fun r hr => (hm _).mpr (marks_f r hr)) (fun r hr j e => (hm _).mpr (marks_l r hr j e))
def srt (rs : List Row) : List Row := rs.mergeSort fun a b => decide (a.1 ≤ b.1)
theorem srt_mem (rs : List Row) (r : Row) : r ∈ srt rs ↔ r ∈ rs := (List.mergeSort_perm rs _).mem_iff
theorem srt_pw (rs : List Row) : (srt rs).Pairwise (fun a b => a.1 ≤ b.1) := by
  have sr := List.pairwise_mergeSort (le := fun a b : Row => decide (a.1 ≤ b.1)) (fun a b c h1 h2 => by
    simp only [decide_eq_true_eq] at *
    omega) (fun a b => by
    rw [Bool.or_eq_true, decide_eq_true_eq, decide_eq_true_eq]
    omega) rs
  exact sr.imp fun h => of_decide_eq_true h
theorem srt_len (rs : List Row) : (srt rs).length = rs.length := List.length_mergeSort rs
/-! ### the days of rows, told in one way (the last row ahead) -/
def canOf (rs : List Row) : List Row := mergedOf (srt rs)
theorem merged_spec {ss : List Row} (h : ∀ r ∈ ss, RB r) (pw : ss.Pairwise (fun a b => a.1 ≤ b.1)) : LD.Can (mergedOf ss) ∧ ∀ d, LD.Ins (mergedOf ss) d ↔ LD.Ins ss d := by
  obtain ⟨c1, c2⟩ := LD.foldM_ok ss [] trivial (fun r hr => (h r hr).ok) pw fun u t e => by cases e
  refine ⟨c1, fun d => (c2 d).trans ⟨fun z => z.elim (fun y => absurd y LD.not_nil) id, .inr⟩⟩
theorem ins_mem {rs ss : List Row} (h : ∀ r, r ∈ ss ↔ r ∈ rs) (d : Int) : LD.Ins ss d ↔ LD.Ins rs d :=
  ⟨fun ⟨r, hr, z⟩ => ⟨r, (h r).mp hr, z⟩, fun ⟨r, hr, z⟩ => ⟨r, (h r).mpr hr, z⟩⟩
theorem canOf_spec {rs : List Row} (h : ∀ r ∈ rs, RB r) : LD.Can (canOf rs) ∧ ∀ d, LD.Ins (canOf rs) d ↔ LD.Ins rs d := by
  obtain ⟨c1, c2⟩ := merged_spec (ss := srt rs) (fun r hr => h r ((srt_mem rs r).mp hr)) (srt_pw rs)
  exact ⟨c1, fun d => (c2 d).trans (ins_mem (srt_mem rs) d)⟩
theorem can_eq {rs ss : List Row} (h : ∀ r ∈ rs, RB r) (hp : ∀ r, r ∈ ss ↔ r ∈ rs) (pw : ss.Pairwise (fun a b => a.1 ≤ b.1)) : mergedOf ss = canOf rs := by
  obtain ⟨c1, c2⟩ := merged_spec (ss := ss) (fun r hr => h r ((hp r).mp hr)) pw
  obtain ⟨g1, g2⟩ := canOf_spec h
  exact LD.uniq c1 g1 fun d => by rw [c2, g2, ins_mem hp]
theorem canOf_congr {rs ss : List Row} (h : ∀ r ∈ rs, RB r) (h' : ∀ r ∈ ss, RB r) (e : ∀ d, LD.Ins rs d ↔ LD.Ins ss d) : canOf rs = canOf ss := by
  obtain ⟨c1, c2⟩ := canOf_spec h
  obtain ⟨g1, g2⟩ := canOf_spec h'
  exact LD.uniq c1 g1 fun d => by rw [c2, g2, e]
theorem canOf_rb {rs : List Row} (h : ∀ r ∈ rs, RB r) : (∀ r ∈ canOf rs, RB r) ∧ (canOf rs).length ≤ rs.length := by
  obtain ⟨g1, g2⟩ := rb_foldM (srt rs) [] nofun fun u hu => h u ((srt_mem rs u).mp hu)
  rw [srt_len, List.length_nil, Nat.zero_add] at g2
  exact ⟨g1, g2⟩
theorem canOf_again {rs : List Row} (h : ∀ r ∈ rs, RB r) : canOf (canOf rs).reverse = canOf rs :=
  canOf_congr (fun r hr => (canOf_rb h).1 r (List.mem_reverse.mp hr)) h fun d => by
    rw [← (canOf_spec h).2 d]
    exact ins_mem (fun r => List.mem_reverse) d
/-! ### what is new -/
def NewN (H : Hp) (a : Addr) : Prop := ∀ o, H a = some o → ∃ ps, o = .tbl ps
theorem newN_of {H H1 : Hp} {a : Addr} (e : ExtN H H1) (n : H1 a = none) : NewN H a := fun o h => by
  cases o with
  | tbl ps => exact ⟨ps, rfl⟩
  | _ =>
    have := e a _ h nofun
    rw [n] at this
    cases this
theorem NewN.of {H : Hp} {a : Addr} (n : H a = none) : NewN H a := fun o h => by rw [n] at h; cases h
theorem NewN.back {H H1 : Hp} {a : Addr} (e : ExtN H H1) (n : NewN H1 a) : NewN H a := fun o h => by
  cases o with
  | tbl ps => exact ⟨ps, rfl⟩
  | _ => exact absurd (n _ (e a _ h nofun)) (fun ⟨_, z⟩ => nomatch z)
theorem extN_updW {H H' : Hp} {a : Addr} {o : HO} (e : ExtN H H') (n : NewN H a) : ExtN H (upd H' a o) := fun b u h t => by
  rw [upd_ne (fun z => by
    subst z
    obtain ⟨ps, z⟩ := n _ h
    exact t ps z)]
  exact e b u h t
theorem ne_self (z : Str) : (!decide (V.str z = V.str z)) = false := by simp
/-- a last day of merged rows is one of theirs -/
theorem last_stepM {R : List Row} {r : Row} {Pj : Int → Prop} (h : ∀ u ∈ R, ∀ j, u.2 = some j → Pj j) (hr : ∀ j, r.2 = some j → Pj j) : ∀ u ∈ LD.stepM R r, ∀ j, u.2 = some j → Pj j := by
  cases R with
  | nil =>
    intro u hu
    rw [List.mem_singleton.mp hu]
    exact hr
  | cons a t =>
    have es : LD.stepM (a :: t) r = if LD.meetsB a r = true then (a.1, LD.laterO a.2 r.2) :: t else r :: a :: t := rfl
    rw [es]
    split
    · intro u hu j ej
      rcases List.mem_cons.mp hu with rfl | hu
      · obtain ⟨x, y, ex, ey, _, _, rfl | rfl⟩ := LD.laterO_le ej
        · exact h a (.head _) _ ex
        · exact hr _ ey
      · exact h u (.tail _ hu) j ej
    · intro u hu
      rcases List.mem_cons.mp hu with rfl | hu
      · exact hr
      · exact h u hu
theorem last_foldM {Pj : Int → Prop} : ∀ (ss R : List Row), (∀ u ∈ R, ∀ j, u.2 = some j → Pj j) → (∀ u ∈ ss, ∀ j, u.2 = some j → Pj j) → ∀ u ∈ ss.foldl LD.stepM R, ∀ j, u.2 = some j → Pj j
  | [], R, h, _ => h
  | r :: ss, R, h, hs => last_foldM ss (LD.stepM R r) (last_stepM h (hs r (.head _))) fun u hu => hs u (.tail _ hu)
theorem last_canOf {Pj : Int → Prop} {rs : List Row} (h : ∀ u ∈ rs, ∀ j, u.2 = some j → Pj j) : ∀ u ∈ canOf rs, ∀ j, u.2 = some j → Pj j :=
  last_foldM (srt rs) [] nofun fun u hu => h u ((srt_mem rs u).mp hu)
end K17

set_option Elab.async false
set_option linter.all false
set_option maxRecDepth 100000
set_option maxHeartbeats 3200000
namespace K17
open PySem PySem.Spec PyProof.Rows L2 LT LamX
abbrev nOver : List Str := ["some", "others", "found", "here", "there", "first", "last", "ends_here", "ends_there"]
abbrev nGaps : List Str := ["stretches", "found", "start", "stretch"]
theorem scEarly : FnScope ["one", "other"] ["one", "other"] (defScope sEarly) := ⟨rfl, rfl, rfl, by decide +kernel, rfl, by decide +kernel, by decide +kernel⟩
theorem scOver : FnScope nOver ["some", "others"] (defScope sOver) := ⟨rfl, rfl, rfl, by decide +kernel, rfl, by decide +kernel, by decide +kernel⟩
theorem scGaps : FnScope nGaps ["stretches"] (defScope sGaps) := ⟨rfl, rfl, rfl, by decide +kernel, rfl, by decide +kernel, by decide +kernel⟩
theorem enc_eq {x y : Option Int} : decide (enc x = enc y) = decide (x = y) := by
  cases x <;> cases y <;> simp [enc]
theorem enc_scal (x y : Option Int) : scal (enc x) (enc y) = true := by cases x <;> cases y <;> rfl
section
variable {P : Program} {w : World} {K : PySem.W.Frag} {mg : Str → Option Value} {base : Heap} {C CN : Addr} {cM PM cY PY : Addr}
def spEarly : Sp := fun vs H Q _ => ∃ a b, vs = [enc a, enc b] ∧ Q (enc (LD.earlierO a b)) H
theorem ok_early {f : Addr} {fd : FuncData} {k : Nat} (F : Fun K "earlier_end" "earlier_end" sEarly f fd) (T : Tx mg) : FnOk P w K mg base CX0 (k + 1) f fd ["one", "other"] spEarly := by
  refine F.ok scEarly (fun vs H Q E h => ?_) (fun cdv A outer s H vs Q E hr h => ?_)
  · obtain ⟨a, b, rfl, _⟩ := h
    rfl
  · obtain ⟨a, b, rfl, q⟩ := h
    refine ⟨_, pss_cons (ps_if (pt_cmpR op_isN (pv 0) pe_non (nomark _)) (pss_one (ps_ret (pv 1))) pss_nil)
      (pss_cons (ps_if (pt_cmpR op_isN (pv 1) pe_non (nomark _)) (pss_one (ps_ret (pv 0))) pss_nil)
      (pss_one (ps_ret (pe_callB (call_min2 rfl) (by rfl) T.min (by decide +kernel) (pa_cons (pv 0) (pa_cons (pv 1) pa_nil)))))), ?_⟩
    refine ⟨_, rfl, rfl, _, rfl, ?_⟩
    cases a with
    | none => exact ⟨_, rfl, q⟩
    | some i =>
      refine ⟨_, rfl, rfl, _, rfl, ?_⟩
      cases b with
      | none => exact ⟨_, rfl, q⟩
      | some j => exact ⟨_, rfl, _, rfl, i, j, rfl, q⟩
structure Po (K : PySem.W.Frag) (mg : Str → Option Value) (C CN : Addr) : Prop extends Pm K mg C CN where
  early : ∃ f fd, Has K mg "earlier_end" ["one", "other"] sEarly f fd
def spOver (C : Addr) : Sp := fun vs H Q _ => ∃ p q xs ys S O, vs = [.ref p, .ref q] ∧ H p = some (.lst xs) ∧ SRs C H xs S ∧ H q = some (.lst ys) ∧ SRs C H ys O ∧ S.length + O.length ≤ 900 ∧
  ∀ a zs H', H a = none → Same H H' → H' a = some (.lst zs) → SRs C H' zs (LD.ov S O) → Q (.ref a) H'
theorem drop_cons {α : Type} {l : List α} {i : Nat} {v : α} (h : l[i]? = some v) : l.drop i = v :: l.drop (i + 1) := by
  obtain ⟨hi, rfl⟩ := List.getElem?_eq_some_iff.mp h
  exact List.drop_eq_getElem_cons hi
theorem ok_over {f : Addr} {fd : FuncData} (F : Fun K "overlaps" "overlaps" sOver f fd) (T : Tx mg) (S : Po K mg C CN) : FnOk P w K mg base CX0 6 f fd ["some", "others"] (spOver C) := by
  obtain ⟨_, _, F1⟩ := S.first
  obtain ⟨_, _, F2⟩ := S.last
  obtain ⟨_, _, FE⟩ := S.early
  obtain ⟨_, _, FD⟩ := S.day
  obtain ⟨_, _, FW⟩ := S.whole
  obtain ⟨_, _, M, FI, bI⟩ := S.init
  have Z := S.ct
  have G1 : FnOk P w K mg base CX0 1 _ _ ["self"] (spGet C fun a _ => a) := ok_first F1.fn Z
  have G2 : FnOk P w K mg base CX0 1 _ _ ["self"] (spGet C fun _ b => b) := ok_last F2.fn Z
  have GE : FnOk P w K mg base CX0 1 _ _ ["one", "other"] spEarly := ok_early FE.fn T
  have GI : FnOk P w K mg base (L2.CX P w) 4 _ _ ["self", "first", "last"] (spInit C CN) := ok_init FI T Z FD FW
  refine F.ok scOver (fun vs H Q E h => ?_) (fun cdv A outer s H vs Q E hr h => ?_)
  · obtain ⟨p, q, xs, ys, S, O, rfl, _⟩ := h
    rfl
  · obtain ⟨p, q, xs, ys, S, O, rfl, hp, hx, hq, hy, hl, fin⟩ := h
    have nd := scOver.nd
    have hr1 : Room 1 _ := hr.mono (by decide)
    refine ⟨_, pss_cons (ps_set (i := 2) nd rfl (.inl rfl) (pe_lst pa_nil))
      (pss_cons (ps_asg2 pe_int (pg_name (i := 3) nd rfl (.inl rfl)) (pg_name (i := 4) nd rfl (.inl rfl)))
      (pss_cons (ps_while PassesOwn.never (PW.pt (pw_and (pt_cmpR op_lt (pv 3) (pe_callB call_len_seq (by rfl) T.len PySem.boot_len (pa_cons (pv 0) pa_nil)) (nomark _)) (pw_and1 (pt_cmpR op_lt (pv 4) (pe_callB call_len_seq (by rfl) T.len PySem.boot_len (pa_cons (pv 1) pa_nil)) (nomark _)))))
        (pss_cons (ps_set (i := 5) nd rfl (.inl rfl) (pe_callB (call_max2 rfl) (by rfl) T.max (by decide +kernel) (pa_cons (pe_meth0 (pe_ix ix_list (pv 0) (pv 3) (fun _ _ => rfl)) Z.cl F1.me G1 hr1 F1.bd .nil pass0) (pa_cons (pe_meth0 (pe_ix ix_list (pv 1) (pv 4) (fun _ _ => rfl)) Z.cl F1.me G1 hr1 F1.bd .nil pass0) pa_nil))))
        (pss_cons (ps_set (i := 6) nd rfl (.inl rfl) (pe_call GE hr1 (by rfl) FE.gl FE.fn.kp FE.bd .nil pass0 (pa_cons (pe_meth0 (pe_ix ix_list (pv 0) (pv 3) (fun _ _ => rfl)) Z.cl F2.me G2 hr1 F2.bd .nil pass0) (pa_cons (pe_meth0 (pe_ix ix_list (pv 1) (pv 4) (fun _ _ => rfl)) Z.cl F2.me G2 hr1 F2.bd .nil pass0) pa_nil))))
        (pss_cons (ps_if (PW.pt (pw_or (pt_cmpR op_isN (pv 6) pe_non (nomark _)) (pw_or1 (pt_cmpR op_le (pv 5) (pv 6) (nomark _))))) (pss_one (ps_expr (pe_bm PySem.F.plainAttrs_list PySem.F.slot_list_append PySem.F.type_list_append mt_append (pv 2) (pa_cons (pe_make M GI hr (by rfl) Z.mgC bI .nil passL (pa_cons (pv 5) (pa_cons (pv 6) pa_nil))) pa_nil)))) pss_nil)
        (pss_cons (ps_set (i := 7) nd rfl (.inl rfl) (pe_cmpR op_eq (pe_meth0 (pe_ix ix_list (pv 0) (pv 3) (fun _ _ => rfl)) Z.cl F2.me G2 hr1 F2.bd .nil pass0) (pv 6) (nomark _)))
        (pss_cons (ps_set (i := 8) nd rfl (.inl rfl) (pe_cmpR op_eq (pe_meth0 (pe_ix ix_list (pv 1) (pv 4) (fun _ _ => rfl)) Z.cl F2.me G2 hr1 F2.bd .nil pass0) (pv 6) (nomark _)))
        (pss_cons (ps_if (pt_val (pv 7)) (pss_one (ps_aug (i := 3) nd rfl (.inl rfl) pe_int ip_add)) pss_nil)
        (pss_one (ps_if (pt_val (pv 8)) (pss_one (ps_aug (i := 4) nd rfl (.inl rfl) pe_int ip_add)) pss_nil)))))))))
      (pss_one (ps_ret (pv 2))))), ?_⟩
    refine ⟨by show 0 ≤ sizeLine; decide, fun a na => ?_⟩
    have s0 := same_upd (o := .lst []) na
    have e0 := upd_same (H := H) (a := a) (o := .lst [])
    generalize upd H a (.lst []) = H0 at *
    have xl := hx.length
    have yl := hy.length
    refine ⟨fun m σ H' => ∃ (i j : Nat) (y5 y6 y7 y8 : Option V) (us : List V) (R : List Row), σ = [some (.ref p), some (.ref q), some (.ref a), some (.int i), some (.int j), y5, y6, y7, y8] ∧ m = (S.length - i) + (O.length - j) ∧ Same H H' ∧ H' a = some (.lst us) ∧ SRs C H' us R ∧
        R ++ LD.ov (S.drop i) (O.drop j) = LD.ov S O, ⟨_, 0, 0, none, none, none, none, [], [], rfl, rfl, s0, e0, .nil, rfl⟩, ?_⟩
    rintro m σ H1 ⟨i, j, y5, y6, y7, y8, us, R, rfl, rfl, s1, ha, hu, hov⟩
    refine ⟨_, rfl, _, rfl, p, _, rfl, .inl (SqL.of (s1 _ _ hp)), _, _, rfl, rfl, _, rfl, ?_⟩
    have stop : (S.drop i = [] ∨ O.drop j = []) → R = LD.ov S O := fun h => by
      rw [← hov]
      rcases h with h | h
      · rw [h, LD.ov_nil, List.append_nil]
      · rw [h, LD.ov_nil2, List.append_nil]
    by_cases hi : i < xs.length
    · rw [decide_eq_true (show ((i : Nat) : Int) < ((xs.length : Nat) : Int) by omega)]
      refine iteT ?_
      refine ⟨_, rfl, _, rfl, q, _, rfl, .inl (SqL.of (s1 _ _ hq)), _, _, rfl, rfl, _, rfl, ?_⟩
      by_cases hj : j < ys.length
      · rw [decide_eq_true (show ((j : Nat) : Int) < ((ys.length : Nat) : Int) by omega)]
        refine iteT ?_
        have exi : xs[i]? = some xs[i] := List.getElem?_eq_getElem hi
        have eyj : ys[j]? = some ys[j] := List.getElem?_eq_getElem hj
        obtain ⟨r, er, sr⟩ := hx.at exi
        obtain ⟨u, eu, su⟩ := hy.at eyj
        have rbr := sr.1
        have rbu := su.1
        obtain ⟨x, dx, evx, hxx, stx⟩ := (sr.ext (extN_same s1)).st
        obtain ⟨y, dy, evy, hyy, sty⟩ := (su.ext (extN_same s1)).st
        have atx : atI xs ((i : Nat) : Int) = some (.ref x) := atI_nat (by rw [exi, evx])
        have aty : atI ys ((j : Nat) : Int) = some (.ref y) := atI_nat (by rw [eyj, evy])
        have dS := drop_cons er
        have dO := drop_cons eu
        have hp1 := s1 _ _ hp
        have hq1 := s1 _ _ hq
        have hr0 := rbr.ok.1
        have hu0 := rbu.ok.1
        have hrb := rbr.b1
        have hub := rbu.b1
        refine ⟨fun σ' H' => ∃ (i' j' : Nat) (y5 y6 y7 y8 : Option V) (us : List V) (R : List Row), σ' = [some (.ref p), some (.ref q), some (.ref a), some (.int i'), some (.int j'), y5, y6, y7, y8] ∧ (S.length - i') + (O.length - j') < (S.length - i) + (O.length - j) ∧ Same H H' ∧ H' a = some (.lst us) ∧ SRs C H' us R ∧
          R ++ LD.ov (S.drop i') (O.drop j') = LD.ov S O, fun σ' H' ⟨i', j', z5, z6, z7, z8, us', R', h1, h2, h3⟩ => ⟨_, h2, i', j', z5, z6, z7, z8, us', R', h1, rfl, h3⟩, ?_⟩
        refine ⟨_, rfl, _, rfl, p, _, _, _, rfl, rfl, SqL.of hp1, atx, x, dx, _, rfl, hxx, rfl, x, _, _, rfl, stx, ?_⟩
        refine ⟨_, rfl, _, rfl, q, _, _, _, rfl, rfl, SqL.of hq1, aty, y, dy, _, rfl, hyy, rfl, y, _, _, rfl, sty, r.1, u.1, rfl, ?_⟩
        refine ⟨_, rfl, _, rfl, p, _, _, _, rfl, rfl, SqL.of hp1, atx, x, dx, _, rfl, hxx, rfl, x, _, _, rfl, stx, ?_⟩
        refine ⟨_, rfl, _, rfl, q, _, _, _, rfl, rfl, SqL.of hq1, aty, y, dy, _, rfl, hyy, rfl, y, _, _, rfl, sty, r.2, u.2, rfl, ?_⟩
        have hov2 := hov
        rw [dS, dO, LD.ov_cons, ← dS, ← dO] at hov2
        have hor := LD.earlier_or r.2 u.2
        have hb2 : ∀ k, LD.earlierO r.2 u.2 = some k → k ≤ 10 ^ 58 := fun k ek => by
          rcases hor with e | e
          · exact rbr.b2 k (e.trans ek)
          · exact rbu.b2 k (e.trans ek)
        have fe : (if u.1 > r.1 then u.1 else r.1) = LD.mx r.1 u.1 := rfl
        have f0 : 0 ≤ LD.mx r.1 u.1 ∧ LD.mx r.1 u.1 ≤ 10 ^ 58 := by
          unfold LD.mx
          split <;> omega
        rw [fe]
        generalize LD.mx r.1 u.1 = fs at *
        generalize LD.earlierO r.2 u.2 = l at *
        have ul : us.length ≤ 900 := by
          have h1 := hu.length
          have h2 := LD.ov_len _ S O (Nat.le_refl _)
          have h3 := congrArg List.length hov
          rw [List.length_append] at h3
          omega
        apply join (α := List V × List Row) (J := fun z Hx => Same H Hx ∧ Hx a = some (.lst z.1) ∧ SRs C Hx z.1 z.2 ∧ z.2 = R ++ (if LD.fitsB fs l = true then [(fs, l)] else [])) (sl := fun _ => [some (.ref p), some (.ref q), some (.ref a), some (.int i), some (.int j), some (.int fs), some (enc l), y7, y8])
        · intro h
          have put : ∀ (z : Addr) (H3 : Hp), LD.fitsB fs l = true → Same H1 H3 → SR C H3 (.ref z) (fs, l) → Same H (upd H3 a (.lst (us ++ [.ref z]))) ∧ upd H3 a (.lst (us ++ [.ref z])) a = some (.lst (us ++ [.ref z])) ∧ SRs C (upd H3 a (.lst (us ++ [.ref z]))) (us ++ [.ref z]) (R ++ [(fs, l)]) ∧ R ++ [(fs, l)] = R ++ (if LD.fitsB fs l = true then [(fs, l)] else []) := fun z H3 hf s3 sr3 =>
            ⟨fun b o e => by rw [upd_ne (ne_of_none e na)]; exact s3 _ _ (s1 b o e), upd_same, ((hu.ext (extN_same s3)).updL (s3 _ _ ha)).append (.cons (sr3.updL (s3 _ _ ha)) .nil), by rw [if_pos hf]⟩
          have skip : LD.fitsB fs l = false → Same H H1 ∧ H1 a = some (.lst us) ∧ SRs C H1 us R ∧ R = R ++ (if LD.fitsB fs l = true then [(fs, l)] else []) := fun hf => ⟨s1, ha, hu, by rw [hf, if_neg (by simp), List.append_nil]⟩
          refine ⟨_, rfl, rfl, _, rfl, ?_⟩
          cases l with
          | none =>
            refine iteT (iteT ?_)
            refine ⟨_, rfl, .inl ⟨rfl, _, SqL.of ha⟩, _, rfl, _, rfl, fun z dz nz ndz nez => ?_⟩
            exact mk_init (r := (fs, none)) nz ndz nez ⟨⟨f0.1, nofun⟩, f0.2, nofun⟩ fun H3 s3 sr3 => ⟨rfl, a, _, _, rfl, rfl, s3 _ _ ha, small1000 (by omega), h (us ++ [.ref z], R ++ [(fs, none)]) _ (put z H3 rfl s3 sr3)⟩
          | some k =>
            refine iteF ?_
            refine ⟨_, rfl, _, rfl, fs, k, rfl, rfl, _, rfl, ?_⟩
            cases hf : decide (fs ≤ k) with
            | true =>
              refine iteT ?_
              refine ⟨_, rfl, .inl ⟨rfl, _, SqL.of ha⟩, _, rfl, _, rfl, fun z dz nz ndz nez => ?_⟩
              exact mk_init (r := (fs, some k)) nz ndz nez ⟨⟨f0.1, fun m em => by cases em; exact of_decide_eq_true hf⟩, f0.2, hb2⟩ fun H3 s3 sr3 => ⟨rfl, a, _, _, rfl, rfl, s3 _ _ ha, small1000 (by omega), h (us ++ [.ref z], R ++ [(fs, some k)]) _ (put z H3 hf s3 sr3)⟩
            | false => exact iteF (h (us, R) H1 (skip hf))
        rintro ⟨us2, R2⟩ H2 ⟨s2, ha2, hu2, eR2⟩
        have ha2 : H2 a = some (.lst us2) := ha2
        have hu2 : SRs C H2 us2 R2 := hu2
        have eR2 : R2 = R ++ (if LD.fitsB fs l = true then [(fs, l)] else []) := eR2
        obtain ⟨x', dx', evx', hxx', stx'⟩ := (sr.ext (extN_same s2)).st
        obtain ⟨y', dy', evy', hyy', sty'⟩ := (su.ext (extN_same s2)).st
        rw [evx] at evx'
        cases evx'
        rw [evy] at evy'
        cases evy'
        refine ⟨_, rfl, _, rfl, p, _, _, _, rfl, rfl, SqL.of (s2 _ _ hp), atx, x, dx', _, rfl, hxx', rfl, x, _, _, rfl, stx', _, rfl, enc_scal _ _, ?_⟩
        refine ⟨_, rfl, _, rfl, q, _, _, _, rfl, rfl, SqL.of (s2 _ _ hq), aty, y, dy', _, rfl, hyy', rfl, y, _, _, rfl, sty', _, rfl, enc_scal _ _, ?_⟩
        rw [enc_eq, enc_eq]
        have hi' : i < S.length := by omega
        have hj' : j < O.length := by omega
        have done : ∀ (i' j' : Nat) (b1 b2 : Bool), i' = (if r.2 = l then i + 1 else i) → j' = (if u.2 = l then j + 1 else j) → ∃ (i'' j'' : Nat) (y5 y6 y7 y8 : Option V) (us : List V) (R : List Row), ([some (.ref p), some (.ref q), some (.ref a), some (.int i'), some (.int j'), some (.int fs), some (enc l), some (.bl b1), some (.bl b2)] : L2.St) = [some (.ref p), some (.ref q), some (.ref a), some (.int i''), some (.int j''), y5, y6, y7, y8] ∧
            (S.length - i'') + (O.length - j'') < (S.length - i) + (O.length - j) ∧ Same H H2 ∧ H2 a = some (.lst us) ∧ SRs C H2 us R ∧ R ++ LD.ov (S.drop i'') (O.drop j'') = LD.ov S O := by
          intro i' j' b1 b2 ei ej
          refine ⟨i', j', _, _, _, _, us2, R2, rfl, ?_, s2, ha2, hu2, ?_⟩
          · rcases hor with e | e
            · rw [if_pos e] at ei
              split at ej <;> omega
            · rw [if_pos e] at ej
              split at ei <;> omega
          · rw [eR2, List.append_assoc, ← hov2]
            congr 2
            have e1 : S.drop i' = if r.2 = l then S.drop (i + 1) else S.drop i := by
              rw [ei]
              split <;> rfl
            have e2 : O.drop j' = if u.2 = l then O.drop (j + 1) else O.drop j := by
              rw [ej]
              split <;> rfl
            rw [e1, e2]
        by_cases e1 : r.2 = l
        · rw [decide_eq_true e1]
          refine ⟨_, rfl, _, rfl, iteT ⟨_, rfl, _, _, rfl, rfl, ?_⟩⟩
          by_cases e2 : u.2 = l
          · rw [decide_eq_true e2]
            refine ⟨_, rfl, _, rfl, iteT ⟨_, rfl, _, _, rfl, rfl, ?_⟩⟩
            exact done (i + 1) (j + 1) true true (by rw [if_pos e1]) (by rw [if_pos e2])
          · rw [decide_eq_false e2]
            refine ⟨_, rfl, _, rfl, iteF ?_⟩
            exact done (i + 1) j true false (by rw [if_pos e1]) (by rw [if_neg e2])
        · rw [decide_eq_false e1]
          refine ⟨_, rfl, _, rfl, iteF ?_⟩
          by_cases e2 : u.2 = l
          · rw [decide_eq_true e2]
            refine ⟨_, rfl, _, rfl, iteT ⟨_, rfl, _, _, rfl, rfl, ?_⟩⟩
            exact done i (j + 1) false true (by rw [if_neg e1]) (by rw [if_pos e2])
          · exact absurd (hor.resolve_left e1) e2
      · rw [decide_eq_false (show ¬ ((j : Nat) : Int) < ((ys.length : Nat) : Int) by omega)]
        refine iteF ⟨_, rfl, ?_⟩
        have := stop (.inr (List.drop_eq_nil_of_le (by omega)))
        rw [this] at hu
        exact fin a us H1 na s1 ha hu
    · rw [decide_eq_false (show ¬ ((i : Nat) : Int) < ((xs.length : Nat) : Int) by omega)]
      refine iteF ⟨_, rfl, ?_⟩
      have := stop (.inl (List.drop_eq_nil_of_le (by omega)))
      rw [this] at hu
      exact fin a us H1 na s1 ha hu
end
end K17

set_option Elab.async false
set_option linter.all false
set_option maxRecDepth 100000
set_option maxHeartbeats 3200000
namespace K17
open PySem PySem.Spec PyProof.Rows L2 LT LamX
abbrev nTwo : List Str := ["some", "others"]
theorem scEither : FnScope nTwo nTwo (defScope sEither) := ⟨rfl, rfl, rfl, by decide +kernel, rfl, by decide +kernel, by decide +kernel⟩
theorem scBoth : FnScope nTwo nTwo (defScope sBoth) := ⟨rfl, rfl, rfl, by decide +kernel, rfl, by decide +kernel, by decide +kernel⟩
theorem scOnly : FnScope nTwo nTwo (defScope sOnly) := ⟨rfl, rfl, rfl, by decide +kernel, rfl, by decide +kernel, by decide +kernel⟩
def gpT (l : Option Int) (t : List Row) : List Row := match l with
  | none => []
  | some j => LD.gp (j + 1) t
theorem gp_cons (st f : Int) (l : Option Int) (t : List Row) : LD.gp st ((f, l) :: t) = (if st < f then [(st, some (f - 1))] else []) ++ gpT l t := by cases l <;> rfl
section
variable {P : Program} {w : World} {K : PySem.W.Frag} {mg : Str → Option Value} {base : Heap} {C CN : Addr} {cM PM cY PY : Addr}
def spGaps (C : Addr) : Sp := fun vs H Q _ => ∃ p xs L, vs = [.ref p] ∧ H p = some (.lst xs) ∧ SRs C H xs L ∧ L.length ≤ 400 ∧ (∀ r ∈ L, ∀ j, r.2 = some j → j + 1 ≤ 10 ^ 58) ∧
  ∀ a zs H', H a = none → Same H H' → H' a = some (.lst zs) → SRs C H' zs (LD.gp 0 L) → Q (.ref a) H'
theorem ok_gaps {f : Addr} {fd : FuncData} (F : Fun K "gaps" "gaps" sGaps f fd) (T : Tx mg) (S : Po K mg C CN) : FnOk P w K mg base CX0 6 f fd ["stretches"] (spGaps C) := by
  obtain ⟨_, _, F1⟩ := S.first
  obtain ⟨_, _, F2⟩ := S.last
  obtain ⟨_, _, FD⟩ := S.day
  obtain ⟨_, _, FW⟩ := S.whole
  obtain ⟨_, _, M, FI, bI⟩ := S.init
  have Z := S.ct
  have G1 : FnOk P w K mg base CX0 1 _ _ ["self"] (spGet C fun a _ => a) := ok_first F1.fn Z
  have G2 : FnOk P w K mg base CX0 1 _ _ ["self"] (spGet C fun _ b => b) := ok_last F2.fn Z
  have GI : FnOk P w K mg base (L2.CX P w) 4 _ _ ["self", "first", "last"] (spInit C CN) := ok_init FI T Z FD FW
  obtain ⟨d1, v1, b1⟩ := FI.binds1 (ps := ["self", "first", "last"]) 2 0 (by simp) (by rfl) (fun _ _ _ _ _ _ _ us its h1 h2 => match us, its, h1, h2 with | [_, _], [_], _, _ => ⟨_, rfl, rfl⟩)
  refine F.ok scGaps (fun vs H Q E h => ?_) (fun cdv A outer s H vs Q E hr h => ?_)
  · obtain ⟨p, xs, L, rfl, _⟩ := h
    rfl
  · obtain ⟨p, xs, L, rfl, hp, hx, hl, hb, fin⟩ := h
    have nd := scGaps.nd
    have hr1 : Room 1 _ := hr.mono (by decide)
    refine ⟨_, pss_cons (ps_set (i := 1) nd rfl (.inl rfl) (pe_lst pa_nil))
      (pss_cons (ps_set (i := 2) nd rfl (.inl rfl) pe_int)
      (pss_cons (ps_for PassesOwn.never rfl (pi_list (pv 0)) (pg_name (i := 3) nd rfl (.inl rfl))
        (pss_cons (ps_if (pt_cmpR op_lt (pv 2) (pe_meth0 (pv 3) Z.cl F1.me G1 hr1 F1.bd .nil pass0) (nomark _)) (pss_one (ps_expr (pe_bm PySem.F.plainAttrs_list PySem.F.slot_list_append PySem.F.type_list_append mt_append (pv 1) (pa_cons (pe_make M GI hr (by rfl) Z.mgC bI .nil passL (pa_cons (pv 2) (pa_cons (pe_op op_sub (pe_meth0 (pv 3) Z.cl F1.me G1 hr1 F1.bd .nil pass0) pe_int) pa_nil))) pa_nil)))) pss_nil)
        (pss_cons (ps_if (pt_cmpR op_isN (pe_meth0 (pv 3) Z.cl F2.me G2 hr1 F2.bd .nil pass0) pe_non (nomark _)) (pss_one (ps_ret (pv 1))) pss_nil)
        (pss_one (ps_set (i := 2) nd rfl (.inl rfl) (pe_op op_add (pe_meth0 (pv 3) Z.cl F2.me G2 hr1 F2.bd .nil pass0) pe_int))))))
      (pss_cons (ps_expr (pe_bm PySem.F.plainAttrs_list PySem.F.slot_list_append PySem.F.type_list_append mt_append (pv 1) (pa_cons (pe_make M GI hr (by rfl) Z.mgC b1 v1 passL (pa_cons (pv 2) pa_nil)) pa_nil)))
      (pss_one (ps_ret (pv 1)))))), ?_⟩
    refine ⟨by show 0 ≤ sizeLine; decide, fun a na => ?_⟩
    have s0 := same_upd (o := .lst []) na
    have e0 := upd_same (H := H) (a := a) (o := .lst [])
    generalize upd H a (.lst []) = H0 at *
    have xl := hx.length
    refine ⟨_, rfl, p, rfl, ⟨_, SqL.of (s0 _ _ hp)⟩, ?_⟩
    have fits : ∀ {us : List V} {R : List Row} {Hx : Hp} {st : Int} {i : Nat}, SRs C Hx us R → R ++ LD.gp st (L.drop i) = LD.gp 0 L → us.length ≤ 500 := fun {us R Hx st i} hu e => by
      have h1 := hu.length
      have h2 := LD.gp_len L 0
      have h3 := congrArg List.length e
      rw [List.length_append] at h3
      omega
    refine for_list (K := K) (xs := xs) (fun i σ H' => ∃ (st : Int) (y3 : Option V) (us : List V) (R : List Row), σ = [some (.ref p), some (.ref a), some (.int st), y3] ∧ 0 ≤ st ∧ st ≤ 10 ^ 58 ∧ Same H H' ∧ H' a = some (.lst us) ∧ SRs C H' us R ∧ R ++ LD.gp st (L.drop i) = LD.gp 0 L)
      ⟨0, none, [], [], rfl, by decide, by decide, s0, e0, .nil, rfl⟩ (fun i σ H' _ h => ?_) ?_ ?_
    · obtain ⟨_, _, _, _, _, _, _, s1, _⟩ := h
      exact SqL.of (s1 _ _ hp)
    · rintro i v σ H1 hv ⟨st, y3, us, R, rfl, st0, st1, s1, ha, hu, hg⟩
      obtain ⟨r, er, sr⟩ := hx.at hv
      have rbr := sr.1
      obtain ⟨x, dx, rfl, hxx, stx⟩ := (sr.ext (extN_same s1)).st
      have dL := drop_cons er
      have ul := fits hu hg
      have r0 := rbr.ok.1
      have rb := rbr.b1
      have hbr := hb r (List.mem_of_getElem? er)
      rw [dL] at hg
      obtain ⟨f, l⟩ := r
      have r0 : 0 ≤ f := r0
      have rb : f ≤ 10 ^ 58 := rb
      rw [gp_cons] at hg
      apply join (α := List V × List Row) (J := fun z Hx => Same H Hx ∧ Hx a = some (.lst z.1) ∧ SRs C Hx z.1 z.2 ∧ z.2 = R ++ (if st < f then [(st, some (f - 1))] else [])) (sl := fun _ => [some (.ref p), some (.ref a), some (.int st), some (.ref x)])
      · intro h
        refine ⟨_, rfl, _, rfl, x, dx, _, rfl, hxx, rfl, x, _, _, rfl, stx, st, f, rfl, rfl, _, rfl, ?_⟩
        by_cases hlt : st < f
        · rw [decide_eq_true hlt]
          refine iteT ?_
          refine ⟨_, rfl, .inl ⟨rfl, _, SqL.of ha⟩, _, rfl, _, rfl, x, dx, _, rfl, hxx, rfl, x, _, _, rfl, stx, f, 1, rfl, rfl, fun z dz nz ndz nez => ?_⟩
          refine mk_init (r := (st, some (f - 1))) nz ndz nez ⟨⟨st0, fun j ej => by cases ej; show st ≤ f - 1; omega⟩, st1, fun j ej => by cases ej; omega⟩ fun H3 s3 sr3 => ⟨rfl, a, _, _, rfl, rfl, s3 _ _ ha, small1000 (by omega), ?_⟩
          exact h (us ++ [.ref z], R ++ [(st, some (f - 1))]) _ ⟨fun b o e => by rw [upd_ne (ne_of_none e na)]; exact s3 _ _ (s1 b o e), upd_same, ((hu.ext (extN_same s3)).updL (s3 _ _ ha)).append (.cons (sr3.updL (s3 _ _ ha)) .nil), by rw [if_pos hlt]⟩
        · rw [decide_eq_false hlt]
          exact iteF (h (us, R) H1 ⟨s1, ha, hu, by rw [if_neg hlt, List.append_nil]⟩)
      rintro ⟨us2, R2⟩ H2 ⟨s2, ha2, hu2, eR2⟩
      have ha2 : H2 a = some (.lst us2) := ha2
      have hu2 : SRs C H2 us2 R2 := hu2
      have eR2 : R2 = R ++ (if st < f then [(st, some (f - 1))] else []) := eR2
      obtain ⟨x', dx', evx', hxx', stx'⟩ := (sr.ext (extN_same s2)).st
      cases evx'
      rw [← List.append_assoc, ← eR2] at hg
      refine ⟨_, rfl, x, dx', _, rfl, hxx', rfl, x, _, _, rfl, stx', rfl, _, rfl, ?_⟩
      cases l with
      | none =>
        refine iteT ⟨_, rfl, ?_⟩
        have hg : R2 ++ [] = LD.gp 0 L := hg
        rw [List.append_nil] at hg
        rw [hg] at hu2
        exact fin a us2 H2 na s2 ha2 hu2
      | some j =>
        have h1 := rbr.ok.2 j rfl
        have h1 : f ≤ j := h1
        have h2 := hbr j rfl
        refine iteF ⟨_, rfl, x, dx', _, rfl, hxx', rfl, x, _, _, rfl, stx', j, 1, rfl, rfl, ?_⟩
        exact ⟨j + 1, _, us2, R2, rfl, by omega, h2, s2, ha2, hu2, hg⟩
    · rintro σ H1 ⟨st, y3, us, R, rfl, st0, st1, s1, ha, hu, hg⟩
      have ul := fits hu hg
      rw [List.drop_eq_nil_of_le (by omega)] at hg
      refine ⟨_, rfl, .inl ⟨rfl, _, SqL.of ha⟩, _, rfl, fun z dz nz ndz nez => ?_⟩
      refine mk_init (r := (st, none)) nz ndz nez ⟨⟨st0, nofun⟩, st1, nofun⟩ fun H3 s3 sr3 => ⟨rfl, a, _, _, rfl, rfl, s3 _ _ ha, small1000 (by omega), ?_⟩
      refine ⟨_, rfl, fin a (us ++ [.ref z]) _ na (fun b o e => by rw [upd_ne (ne_of_none e na)]; exact s3 _ _ (s1 b o e)) upd_same ?_⟩
      rw [← hg]
      exact ((hu.ext (extN_same s3)).updL (s3 _ _ ha)).append (.cons (sr3.updL (s3 _ _ ha)) .nil)
/-! ### the tellers of two lists -/
def eitherB (a b : Bool) : Bool := a || b
def bothB (a b : Bool) : Bool := a && b
def onlyB (a b : Bool) : Bool := a && !b
def spTell (C PM PY : Addr) (nd : Bool) (g : Bool → Bool → Bool) : Sp := fun vs H Q _ => ∃ p q xs ys rs ms, vs = [.ref p, .ref q] ∧ Sd H p xs ∧ Sd H q ys ∧ SRs C H xs rs ∧ SRs C H ys ms ∧ rs.length ≤ 100 ∧ ms.length ≤ 100 ∧ (nd = true → ∀ r ∈ ms, ∀ j, r.2 = some j → j + 1 ≤ 10 ^ 58) ∧ Tabs (TT2 PM PY) H ∧
  ∀ a zs L H', NewN H a → ExtN H H' → Tabs (TT2 PM PY) H' → H' a = some (.lst zs) → SRs C H' zs L → LD.Asc L → (∀ d, LD.Ins L d ↔ g (LD.insB rs d) (LD.insB ms d) = true) → L.length ≤ rs.length + ms.length + 1 → Q (.ref a) H'
structure Pt (K : PySem.W.Frag) (mg : Str → Option Value) (C CN cM : Addr) : Prop extends Po K mg C CN where
  over : ∃ f fd, Has K mg "overlaps" ["some", "others"] sOver f fd
  gaps : ∃ f fd, Has K mg "gaps" ["stretches"] sGaps f fd
  merged : ∃ f fd, FunC K "merged" "merged" sMerged f cM fd ∧ L2.Binds K fd ["stretches"] [] ∧ mg "merged" = some (.ref f)
theorem insB_app {rs ms : List Row} {d : Int} : LD.insB (rs ++ ms) d = (LD.insB rs d || LD.insB ms d) := by
  unfold LD.insB
  rw [List.any_append]
theorem isin {C : Addr} {H : Hp} {xs : List V} {rs : List Row} (h : SRs C H xs rs) : ∀ v ∈ xs, ∃ x dx fs, v = .ref x ∧ H x = some (.ins C dx fs) := fun v hv => by
  obtain ⟨r, _, sr⟩ := h.mem hv
  obtain ⟨x, dx, e, hx, _⟩ := sr.st
  exact ⟨x, dx, _, e, hx⟩
theorem ok_either {f : Addr} {fd : FuncData} (F : Fun K "either_days" "either_days" sEither f fd) (T : Tx mg) (S : Pt K mg C CN cM) (B : Tb base mg cM PM cY PY) : FnOk P w K mg base CX0 7 f fd ["some", "others"] (spTell C PM PY false eitherB) := by
  obtain ⟨_, _, FC⟩ := S.chk
  obtain ⟨_, _, FG, bG, gG⟩ := S.merged
  have GC : FnOk P w K mg base CX0 1 _ _ ["thing"] (spChk C) := ok_chk FC.fn T S.ct S.own
  have GG : FnOk P w K mg base CX0 6 _ _ ["stretches"] (spMerged C PM PY) := ok_merged FG T S.toPm B
  refine F.ok scEither (fun vs H Q E h => ?_) (fun cdv A outer s H vs Q E hr h => ?_)
  · obtain ⟨p, q, xs, ys, rs, ms, rfl, _⟩ := h
    rfl
  · obtain ⟨p, q, xs, ys, rs, ms, rfl, hp, hq, hx, hy, hlr, hlm, hb, hT, fin⟩ := h
    have hr1 : Room 1 _ := hr.mono (by decide)
    refine ⟨_, pss_cons (ps_expr (pe_call GC hr1 (by rfl) FC.gl FC.fn.kp FC.bd .nil pass0 (pa_cons (pv 0) pa_nil)))
      (pss_cons (ps_expr (pe_call GC hr1 (by rfl) FC.gl FC.fn.kp FC.bd .nil pass0 (pa_cons (pv 1) pa_nil)))
      (pss_one (ps_ret (pe_call GG hr (by rfl) gG FG.kp bG .nil pass0 (pa_cons (pe_lst (StX.pa_star (pv 0) (StX.pa_star (pv 1) pa_nil))) pa_nil))))), ?_⟩
    have xl := hx.length
    have yl := hy.length
    refine ⟨_, rfl, p, xs, rfl, hp, by omega, isin hx, fun H1 s1 => ?_⟩
    have e1 := extN_same s1
    refine ⟨_, rfl, q, ys, rfl, hq.ext e1, by omega, isin (hy.ext e1), fun H2 s2 => ?_⟩
    have s12 := s1.trans s2
    have e2 := extN_same s12
    refine ⟨_, rfl, p, xs, rfl, ((hp.ext e2).sq (K := K)).symm, _, rfl, q, ys, rfl, ((hq.ext e2).sq (K := K)).symm, ?_⟩
    refine ⟨?_, fun l nl => ?_⟩
    · rw [List.append_nil]
      exact Nat.le_of_lt (small1000 (by rw [List.length_append]; omega))
    have s3 := same_upd (o := .lst (xs ++ (ys ++ []))) nl
    have el := upd_same (H := H2) (a := l) (o := .lst (xs ++ (ys ++ [])))
    generalize upd H2 l (.lst (xs ++ (ys ++ []))) = H3 at *
    have s13 := s12.trans s3
    have e3 := extN_same s13
    have hxy : SRs C H3 (xs ++ (ys ++ [])) (rs ++ ms) := by
      rw [List.append_nil]
      exact (hx.ext e3).append (hy.ext e3)
    refine ⟨l, _, rs ++ ms, rfl, .inl el, hxy, by rw [List.length_append]; omega, hT.ext s13, fun a zs R ss H4 na e4 T4 ha hz hR hm hpw hzl => ?_⟩
    have okr := hxy.rb
    rw [can_eq okr hm hpw] at hR
    subst hR
    obtain ⟨c1, c2⟩ := canOf_spec okr
    have cl := (canOf_rb okr).2
    rw [List.length_append] at cl
    refine fin a zs.reverse (canOf (rs ++ ms)).reverse H4 (.of (s13.free na)) (e3.trans e4) T4 ha hz.reverse (LD.asc_of c1) (fun d => ?_) (by rw [List.length_reverse]; omega)
    rw [LD.ins_rev, c2, ← LD.insB_iff, insB_app]
    rfl
theorem ok_both {f : Addr} {fd : FuncData} (F : Fun K "both_days" "both_days" sBoth f fd) (T : Tx mg) (S : Pt K mg C CN cM) (B : Tb base mg cM PM cY PY) : FnOk P w K mg base CX0 7 f fd ["some", "others"] (spTell C PM PY false bothB) := by
  obtain ⟨_, _, FC⟩ := S.chk
  obtain ⟨_, _, FG, bG, gG⟩ := S.merged
  obtain ⟨_, _, FO⟩ := S.over
  have GC : FnOk P w K mg base CX0 1 _ _ ["thing"] (spChk C) := ok_chk FC.fn T S.ct S.own
  have GG : FnOk P w K mg base CX0 6 _ _ ["stretches"] (spMerged C PM PY) := ok_merged FG T S.toPm B
  have GO : FnOk P w K mg base CX0 6 _ _ ["some", "others"] (spOver C) := ok_over FO.fn T S.toPo
  refine F.ok scBoth (fun vs H Q E h => ?_) (fun cdv A outer s H vs Q E hr h => ?_)
  · obtain ⟨p, q, xs, ys, rs, ms, rfl, _⟩ := h
    rfl
  · obtain ⟨p, q, xs, ys, rs, ms, rfl, hp, hq, hx, hy, hlr, hlm, hb, hT, fin⟩ := h
    have hr1 : Room 1 _ := hr.mono (by decide)
    refine ⟨_, pss_cons (ps_expr (pe_call GC hr1 (by rfl) FC.gl FC.fn.kp FC.bd .nil pass0 (pa_cons (pv 0) pa_nil)))
      (pss_cons (ps_expr (pe_call GC hr1 (by rfl) FC.gl FC.fn.kp FC.bd .nil pass0 (pa_cons (pv 1) pa_nil)))
      (pss_one (ps_ret (pe_call GO hr (by rfl) FO.gl FO.fn.kp FO.bd .nil pass0 (pa_cons (pe_call GG hr (by rfl) gG FG.kp bG .nil pass0 (pa_cons (pv 0) pa_nil)) (pa_cons (pe_call GG hr (by rfl) gG FG.kp bG .nil pass0 (pa_cons (pv 1) pa_nil)) pa_nil)))))), ?_⟩
    have xl := hx.length
    have yl := hy.length
    refine ⟨_, rfl, p, xs, rfl, hp, by omega, isin hx, fun H1 s1 => ?_⟩
    have e1 := extN_same s1
    refine ⟨_, rfl, q, ys, rfl, hq.ext e1, by omega, isin (hy.ext e1), fun H2 s2 => ?_⟩
    have s12 := s1.trans s2
    have e2 := extN_same s12
    refine ⟨_, rfl, p, xs, rs, rfl, hp.ext e2, hx.ext e2, by omega, hT.ext s12, fun a1 z1 R1 ss1 H3 n1 e3 T3 h1 hz1 hR1 hm1 hp1 _ => ?_⟩
    have e13 := e2.trans e3
    refine ⟨_, rfl, q, ys, ms, rfl, hq.ext e13, hy.ext e13, by omega, T3, fun a2 z2 R2 ss2 H4 n2 e4 T4 h2 hz2 hR2 hm2 hp2 _ => ?_⟩
    rw [can_eq hx.rb hm1 hp1] at hR1
    rw [can_eq hy.rb hm2 hp2] at hR2
    subst hR1 hR2
    obtain ⟨c1, c2⟩ := canOf_spec hx.rb
    obtain ⟨g1, g2⟩ := canOf_spec hy.rb
    have l1 := (canOf_rb hx.rb).2
    have l2 := (canOf_rb hy.rb).2
    have e14 := e13.trans e4
    refine ⟨a1, a2, _, _, (canOf rs).reverse, (canOf ms).reverse, rfl, e4 _ _ h1 nofun, (hz1.reverse).ext e4, h2, hz2.reverse, by rw [List.length_reverse, List.length_reverse]; omega, fun a zs H5 na s5 ha hz => ?_⟩
    obtain ⟨o1, o2, _⟩ := LD.ov_ok _ (canOf rs).reverse (canOf ms).reverse (Nat.le_refl _) (LD.asc_of c1) (LD.asc_of g1)
    have ol := LD.ov_len _ (canOf rs).reverse (canOf ms).reverse (Nat.le_refl _)
    rw [List.length_reverse, List.length_reverse] at ol
    refine fin a zs _ H5 (newN_of e14 na) (e14.trans (extN_same s5)) (T4.ext s5) ha hz o1 (fun d => ?_) (by omega)
    rw [o2, LD.ins_rev, LD.ins_rev, c2, g2, ← LD.insB_iff, ← LD.insB_iff]
    unfold bothB
    rw [Bool.and_eq_true]
theorem ok_only {f : Addr} {fd : FuncData} (F : Fun K "only_days" "only_days" sOnly f fd) (T : Tx mg) (S : Pt K mg C CN cM) (B : Tb base mg cM PM cY PY) : FnOk P w K mg base CX0 7 f fd ["some", "others"] (spTell C PM PY true onlyB) := by
  obtain ⟨_, _, FC⟩ := S.chk
  obtain ⟨_, _, FG, bG, gG⟩ := S.merged
  obtain ⟨_, _, FO⟩ := S.over
  obtain ⟨_, _, FA⟩ := S.gaps
  have GC : FnOk P w K mg base CX0 1 _ _ ["thing"] (spChk C) := ok_chk FC.fn T S.ct S.own
  have GG : FnOk P w K mg base CX0 6 _ _ ["stretches"] (spMerged C PM PY) := ok_merged FG T S.toPm B
  have GO : FnOk P w K mg base CX0 6 _ _ ["some", "others"] (spOver C) := ok_over FO.fn T S.toPo
  have GA : FnOk P w K mg base CX0 6 _ _ ["stretches"] (spGaps C) := ok_gaps FA.fn T S.toPo
  refine F.ok scOnly (fun vs H Q E h => ?_) (fun cdv A outer s H vs Q E hr h => ?_)
  · obtain ⟨p, q, xs, ys, rs, ms, rfl, _⟩ := h
    rfl
  · obtain ⟨p, q, xs, ys, rs, ms, rfl, hp, hq, hx, hy, hlr, hlm, hb, hT, fin⟩ := h
    have hr1 : Room 1 _ := hr.mono (by decide)
    refine ⟨_, pss_cons (ps_expr (pe_call GC hr1 (by rfl) FC.gl FC.fn.kp FC.bd .nil pass0 (pa_cons (pv 0) pa_nil)))
      (pss_cons (ps_expr (pe_call GC hr1 (by rfl) FC.gl FC.fn.kp FC.bd .nil pass0 (pa_cons (pv 1) pa_nil)))
      (pss_one (ps_ret (pe_call GO hr (by rfl) FO.gl FO.fn.kp FO.bd .nil pass0 (pa_cons (pe_call GG hr (by rfl) gG FG.kp bG .nil pass0 (pa_cons (pv 0) pa_nil)) (pa_cons (pe_call GA hr (by rfl) FA.gl FA.fn.kp FA.bd .nil pass0 (pa_cons (pe_call GG hr (by rfl) gG FG.kp bG .nil pass0 (pa_cons (pv 1) pa_nil)) pa_nil)) pa_nil)))))), ?_⟩
    have xl := hx.length
    have yl := hy.length
    refine ⟨_, rfl, p, xs, rfl, hp, by omega, isin hx, fun H1 s1 => ?_⟩
    have e1 := extN_same s1
    refine ⟨_, rfl, q, ys, rfl, hq.ext e1, by omega, isin (hy.ext e1), fun H2 s2 => ?_⟩
    have s12 := s1.trans s2
    have e2 := extN_same s12
    refine ⟨_, rfl, p, xs, rs, rfl, hp.ext e2, hx.ext e2, by omega, hT.ext s12, fun a1 z1 R1 ss1 H3 n1 e3 T3 h1 hz1 hR1 hm1 hp1 _ => ?_⟩
    have e13 := e2.trans e3
    refine ⟨_, rfl, q, ys, ms, rfl, hq.ext e13, hy.ext e13, by omega, T3, fun a2 z2 R2 ss2 H4 n2 e4 T4 h2 hz2 hR2 hm2 hp2 _ => ?_⟩
    rw [can_eq hx.rb hm1 hp1] at hR1
    rw [can_eq hy.rb hm2 hp2] at hR2
    subst hR1 hR2
    obtain ⟨c1, c2⟩ := canOf_spec hx.rb
    obtain ⟨g1, g2⟩ := canOf_spec hy.rb
    have l1 := (canOf_rb hx.rb).2
    have l2 := (canOf_rb hy.rb).2
    have e14 := e13.trans e4
    refine ⟨a2, _, (canOf ms).reverse, rfl, h2, hz2.reverse, by rw [List.length_reverse]; omega, fun r hr => last_canOf (hb rfl) r (List.mem_reverse.mp hr), fun a3 z3 H5 n3 s5 h3 hz3 => ?_⟩
    have e15 := e14.trans (extN_same s5)
    obtain ⟨k1, k2, _⟩ := LD.gp_ok (canOf ms).reverse 0 (Int.le_refl _) (LD.asc_of g1) fun r hr => ((LD.asc_of g1).ok r hr).1
    have kl := LD.gp_len (canOf ms).reverse 0
    rw [List.length_reverse] at kl
    refine ⟨a1, a3, _, _, (canOf rs).reverse, LD.gp 0 (canOf ms).reverse, rfl, s5 _ _ (e4 _ _ h1 nofun), ((hz1.reverse).ext e4).ext (extN_same s5), h3, hz3, by rw [List.length_reverse]; omega, fun a zs H6 na s6 ha hz => ?_⟩
    obtain ⟨o1, o2, _⟩ := LD.ov_ok _ (canOf rs).reverse (LD.gp 0 (canOf ms).reverse) (Nat.le_refl _) (LD.asc_of c1) k1
    have ol := LD.ov_len _ (canOf rs).reverse (LD.gp 0 (canOf ms).reverse) (Nat.le_refl _)
    rw [List.length_reverse] at ol
    refine fin a zs _ H6 (newN_of e15 na) (e15.trans (extN_same s6)) ((T4.ext s5).ext s6) ha hz o1 (fun d => ?_) (by omega)
    rw [o2, LD.ins_rev, k2, LD.ins_rev, c2, g2, ← LD.insB_iff, ← LD.insB_iff]
    unfold onlyB
    rw [Bool.and_eq_true, Bool.not_eq_true']
    constructor
    · rintro ⟨h1, _, h2⟩
      exact ⟨h1, by cases h : LD.insB ms d <;> first | rfl | exact absurd h h2⟩
    · rintro ⟨h1, h2⟩
      refine ⟨h1, ?_, by rw [h2]; exact nofun⟩
      obtain ⟨r, hr, hi⟩ := LD.insB_iff.mp h1
      have h3 := (hx.rb r hr).ok.1
      have h4 := hi.1
      omega
end
end K17

set_option Elab.async false
set_option linter.all false
set_option maxRecDepth 100000
set_option maxHeartbeats 1600000
namespace K17
open PySem PySem.Spec PyProof.Rows L2 LT LamX
theorem scHas : FnScope ["self", "day"] ["self", "day"] (defScope sHas) := ⟨rfl, rfl, rfl, by decide +kernel, rfl, by decide +kernel, by decide +kernel⟩
theorem scEq : FnScope ["self", "other"] ["self", "other"] (defScope sEq) := ⟨rfl, rfl, rfl, by decide +kernel, rfl, by decide +kernel, by decide +kernel⟩
theorem scRepr : FnScope ["self"] ["self"] (defScope sRepr) := ⟨rfl, rfl, rfl, by decide +kernel, rfl, by decide +kernel, by decide +kernel⟩
abbrev nDaysIn : List Str := ["some"]
theorem scDaysIn : FnScope nDaysIn ["some"] (defScope sDaysIn) := ⟨rfl, rfl, rfl, by decide +kernel, rfl, by decide +kernel, by decide +kernel⟩
/-! ### the numbers of days -/
def cntUp (w : Int → Bool) : Nat → Int
  | 0 => 0
  | n + 1 => cntUp w n + (if w (n : Nat) = true then 1 else 0)
theorem cntUp_add (a b : Int → Bool) : ∀ N, cntUp a N + cntUp b N = cntUp (fun d => a d || b d) N + cntUp (fun d => a d && b d) N
  | 0 => rfl
  | n + 1 => by
    have ih := cntUp_add a b n
    unfold cntUp
    cases a (n : Nat) <;> cases b (n : Nat) <;> simp <;> omega
theorem cntUp_congr {a b : Int → Bool} (h : ∀ d, a d = b d) (N : Nat) : cntUp a N = cntUp b N := by
  rw [show a = b from funext h]
theorem cntUp_no {w : Int → Bool} (h : ∀ d, w d = false) : ∀ N, cntUp w N = 0
  | 0 => rfl
  | n + 1 => by
    unfold cntUp
    rw [cntUp_no h n, h]
    rfl
theorem cntUp_int {f j : Int} (f0 : 0 ≤ f) (fj : f ≤ j) : ∀ N : Nat, cntUp (fun d => decide (f ≤ d) && decide (d ≤ j)) N = if (N : Int) ≤ f then 0 else if (N : Int) ≤ j then (N : Int) - f else j - f + 1
  | 0 => by
    rw [if_pos (by omega)]
    rfl
  | n + 1 => by
    have ih := cntUp_int f0 fj n
    unfold cntUp
    rw [ih]
    by_cases h1 : f ≤ (n : Int)
    · by_cases h2 : (n : Int) ≤ j
      · rw [decide_eq_true h1, decide_eq_true h2]
        simp only [Bool.and_self, if_true]
        split <;> split <;> (try split) <;> (try split) <;> omega
      · rw [decide_eq_true h1, decide_eq_false h2]
        simp only [Bool.and_false, Bool.false_eq_true, if_false]
        split <;> (try split) <;> (try split) <;> (try split) <;> omega
    · rw [decide_eq_false h1]
      simp only [Bool.false_and, Bool.false_eq_true, if_false]
      split <;> (try split) <;> (try split) <;> (try split) <;> omega
theorem cnt_sum {N : Nat} : ∀ R : List Row, LD.Can R → (∀ r ∈ R, ∃ j, r.2 = some j ∧ j < (N : Int)) → (R.map lenR).sum = cntUp (LD.insB R) N
  | [], _, _ => (cntUp_no (w := LD.insB []) (fun _ => rfl) N).symm
  | (f, x) :: t, c, h => by
    obtain ⟨j, ej, hj⟩ := h (f, x) (.head _)
    have ej : x = some j := ej
    subst ej
    have ih := cnt_sum t c.tail fun r hr => h r (.tail _ hr)
    have f0 : 0 ≤ f := c.hd.1
    have fj : f ≤ j := c.hd.2 j rfl
    have e1 := cntUp_int f0 fj N
    rw [if_neg (by omega), if_neg (by omega)] at e1
    have e2 := cntUp_add (fun d => decide (f ≤ d) && decide (d ≤ j)) (LD.insB t) N
    have e3 : cntUp (fun d => (decide (f ≤ d) && decide (d ≤ j)) && LD.insB t d) N = 0 := cntUp_no (fun d => by
      cases hi : LD.insB t d with
      | false => rw [Bool.and_false]
      | true =>
        have := c.below (LD.insB_iff.mp hi)
        have : d + 1 < f := this
        rw [decide_eq_false (show ¬ f ≤ d by omega)]
        rfl) N
    have e4 : cntUp (LD.insB ((f, some j) :: t)) N = cntUp (fun d => (decide (f ≤ d) && decide (d ≤ j)) || LD.insB t d) N := cntUp_congr (fun d => rfl) N
    rw [List.map_cons, List.sum_cons, ih, e4]
    show (j - f + 1) + _ = _
    omega
theorem sum_rev : ∀ l : List Int, l.reverse.sum = l.sum
  | [] => rfl
  | a :: l => by
    rw [List.reverse_cons, List.sum_append, sum_rev l, List.sum_cons, List.sum_cons, List.sum_nil]
    omega
def D0 : Int := 10 ^ 58 + 1
theorem insB_eq {rs ss : List Row} (h : ∀ d, LD.Ins rs d ↔ LD.Ins ss d) (d : Int) : LD.insB rs d = LD.insB ss d := by
  rw [Bool.eq_iff_iff, LD.insB_iff, LD.insB_iff]
  exact h d
theorem cnt_val {rs : List Row} (ok : ∀ r ∈ rs, RB r) {N : Nat} (hN : (10 : Int) ^ 58 < N) : cntR (canOf rs) = if LD.insB rs D0 = true then none else some (cntUp (LD.insB rs) N) := by
  obtain ⟨c1, c2⟩ := canOf_spec ok
  have rb := (canOf_rb ok).1
  have same := insB_eq c2
  rw [← same D0, cntUp_congr (fun d => (same d).symm) N]
  generalize canOf rs = R at *
  by_cases hop : ∃ r ∈ R, r.2 = none
  · obtain ⟨r, hr, e⟩ := hop
    have hin : LD.insB R D0 = true := LD.insB_iff.mpr ⟨r, hr, by have := (rb r hr).b1; show r.1 ≤ D0; unfold D0; omega, fun j ej => by rw [e] at ej; cases ej⟩
    rw [if_pos hin]
    cases R with
    | nil => cases hr
    | cons a t =>
      rcases List.mem_cons.mp hr with rfl | hr
      · obtain ⟨f, x⟩ := r
        have e : x = none := e
        subst e
        rfl
      · obtain ⟨j, ej, _⟩ := c1.under r hr
        rw [e] at ej
        cases ej
  · have cl : ∀ r ∈ R, ∃ j, r.2 = some j := fun r hr => by
      cases e : r.2 with
      | none => exact absurd ⟨r, hr, e⟩ hop
      | some j => exact ⟨j, rfl⟩
    have hin : ¬ LD.insB R D0 = true := fun z => by
      obtain ⟨r, hr, hi⟩ := LD.insB_iff.mp z
      obtain ⟨j, ej⟩ := cl r hr
      have h1 := hi.2 j ej
      have h2 := (rb r hr).b2 j ej
      unfold D0 at h1
      omega
    rw [if_neg hin, ← cnt_sum R c1 fun r hr => by
      obtain ⟨j, ej⟩ := cl r hr
      have := (rb r hr).b2 j ej
      exact ⟨j, ej, by omega⟩]
    have e1 : cntR R = some ((R.reverse.map lenR).sum) := by
      unfold cntR
      split
      · rename_i f t
        obtain ⟨j, ej⟩ := cl (f, none) (.head _)
        cases ej
      · rfl
    rw [e1, List.map_reverse, sum_rev]
section
variable {P : Program} {w : World} {K : PySem.W.Frag} {mg : Str → Option Value} {base : Heap} {C CN : Addr} {cM PM cY PY : Addr}
/-! ### the class's other methods -/
def spHasN (C : Addr) : Sp := fun vs H Q _ => ∃ v r d, vs = [v, .int d] ∧ SR C H v r ∧ 0 ≤ d ∧ Q (.bl (LD.inB r d)) H
theorem ok_hasN {f fD fW : Addr} {fd fdD fdW : FuncData} {k : Nat} (F : Fun K "has" "Stretch.has" sHas f fd) (T : Tx mg) (Z : Ct K mg C CN)
    (FD : Has K mg "is_day" ["thing"] sDay fD fdD) (FW : HasW K mg fW fdW) : FnOk P w K mg base CX0 (k + 4) f fd ["self", "day"] (spHasN C) := by
  have GD : FnOk P w K mg base CX0 (k + 3) fD fdD ["thing"] spDay := ok_day FD.fn T FW
  refine F.ok scHas (fun vs H Q E h => ?_) (fun cdv A outer s H vs Q E hr h => ?_)
  · obtain ⟨v, r, d, rfl, _⟩ := h
    rfl
  · obtain ⟨v, ⟨i, l⟩, d, rfl, sr, d0, q⟩ := h
    refine ⟨_, pss_cons (ps_if (pt_not (pt_val (pe_call GD hr (by rfl) FD.gl FD.fn.kp FD.bd .nil pass0 (pa_cons (pv 1) pa_nil)))) (pss_one ps_no) pss_nil)
      (pss_one (ps_ret (pe_and (pe_cmpR op_le (pe_fld (pv 0) rfl) (pv 1) (nomark _)) (pe_one (pe_or (pe_cmpR op_isN (pe_fld (pv 0) rfl) pe_non (nomark _)) (pe_one (pe_cmpR op_le (pv 1) (pe_fld (pv 0) rfl) (nomark _)))))))), ?_⟩
    obtain ⟨x, dx, rfl, hx, _⟩ := sr.st
    refine ⟨_, rfl, .int d, rfl, .int d, _, rfl, ?_⟩
    rw [show dayB (.int d) = true from decide_eq_true d0]
    refine ⟨_, rfl, x, C, dx, _, _, rfl, hx, Z.cl, Z.nF, sf_first _ _, _, rfl, i, d, rfl, rfl, _, rfl, ?_⟩
    unfold LD.inB at q
    cases hid : decide (i ≤ d) with
    | false =>
      simp only [hid, Bool.false_and] at q
      exact q
    | true =>
      simp only [hid, Bool.true_and] at q
      refine ⟨_, rfl, x, C, dx, _, _, rfl, hx, Z.cl, Z.nL, sf_last _ _, rfl, _, rfl, ?_⟩
      cases l with
      | none => exact q
      | some j => exact ⟨_, rfl, _, rfl, x, C, dx, _, _, rfl, hx, Z.cl, Z.nL, sf_last _ _, d, j, rfl, rfl, q⟩
def spEqN (C : Addr) : Sp := fun vs H Q _ => ∃ v u r, vs = [v, u] ∧ SR C H v r ∧ SR C H u r ∧ Q (.bl true) H
theorem ok_eqN {f : Addr} {fd : FuncData} {k : Nat} (F : Fun K "__eq__" "Stretch.__eq__" sEq f fd) (T : Tx mg) (Z : Ct K mg C CN) (own : PySem.W.kitOne K (.ref C) (.ref C) = some true) : FnOk P w K mg base CX0 (k + 1) f fd ["self", "other"] (spEqN C) := by
  refine F.ok scEq (fun vs H Q E h => ?_) (fun cdv A outer s H vs Q E hr h => ?_)
  · obtain ⟨v, u, r, rfl, _⟩ := h
    rfl
  · obtain ⟨v, u, r, rfl, sv, su, q⟩ := h
    refine ⟨_, pss_one (ps_ret (pe_and (pe_callB call_isi (by rfl) T.isi (by decide +kernel) (pa_cons (pv 1) (pa_cons (pe_glob (v := .ref C) (by rfl) Z.mgC rfl) pa_nil)))
      (pe_and (pe_cmpR op_eq (pe_fld (pv 0) rfl) (pe_fld (pv 1) rfl) (nomark _)) (pe_one (pe_cmpR op_eq (pe_fld (pv 0) rfl) (pe_fld (pv 1) rfl) (nomark _)))))), ?_⟩
    obtain ⟨x, dx, rfl, hx, _⟩ := sv.st
    obtain ⟨y, dy, rfl, hy, _⟩ := su.st
    refine ⟨_, rfl, .ref y, .ref C, _, _, true, rfl, .own C, .base (.ins hy Z.cl Z.ha Z.hn Z.ht Z.hm), own, _, rfl, ?_⟩
    refine ⟨_, rfl, x, C, dx, _, _, rfl, hx, Z.cl, Z.nF, sf_first _ _, _, rfl, y, C, dy, _, _, rfl, hy, Z.cl, Z.nF, sf_first _ _, rfl, _, rfl, ?_⟩
    rw [decide_eq_true rfl]
    refine ⟨_, rfl, x, C, dx, _, _, rfl, hx, Z.cl, Z.nL, sf_last _ _, _, rfl, y, C, dy, _, _, rfl, hy, Z.cl, Z.nL, sf_last _ _, ?_, ?_⟩
    · cases r.2 <;> rfl
    · rw [decide_eq_true rfl]
      exact q
def shownO (r : Row) : Str := match r.2 with
  | some j => Str.ofString "Stretch(" ++ Str.ofString (toString r.1) ++ Str.ofString ", " ++ Str.ofString (toString j) ++ Str.ofString ")"
  | none => Str.ofString "Stretch(" ++ Str.ofString (toString r.1) ++ Str.ofString ")"
theorem tlen {i : Int} (h : i.natAbs ≤ 10 ^ 62) : (Str.ofString (toString i)).length ≤ 64 := by
  rw [PySem.ofString_length]
  exact int_text_length_le10 (k := 63) (by decide) (Nat.lt_of_le_of_lt h (by decide))
theorem nil_app (x : Str) : Str.empty ++ x = x := by
  cases x with
  | mk a =>
    show Str.mk (#[] ++ a) = Str.mk a
    rw [Array.empty_append]
theorem shownO_len {r : Row} (h : RB r) : (shownO r).length ≤ 200 := by
  have l1 := tlen h.sm.a
  unfold shownO
  cases e : r.2 with
  | none =>
    show (Str.ofString "Stretch(" ++ Str.ofString (toString r.1) ++ Str.ofString ")").length ≤ 200
    rw [strLen_append, strLen_append, show (Str.ofString "Stretch(").length = 8 by decide +kernel, show (Str.ofString ")").length = 1 by decide +kernel]
    omega
  | some j =>
    have l2 := tlen (h.sm.b j e)
    show (Str.ofString "Stretch(" ++ Str.ofString (toString r.1) ++ Str.ofString ", " ++ Str.ofString (toString j) ++ Str.ofString ")").length ≤ 200
    rw [strLen_append, strLen_append, strLen_append, strLen_append, show (Str.ofString "Stretch(").length = 8 by decide +kernel, show (Str.ofString ", ").length = 2 by decide +kernel, show (Str.ofString ")").length = 1 by decide +kernel]
    omega
def spReprN (C : Addr) : Sp := fun vs H Q _ => ∃ v r, vs = [v] ∧ SR C H v r ∧ Q (.str (shownO r)) H
theorem ok_reprN {f : Addr} {fd : FuncData} {k : Nat} (F : Fun K "__repr__" "Stretch.__repr__" sRepr f fd) (Z : Ct K mg C CN) : FnOk P w K mg base CX0 (k + 1) f fd ["self"] (spReprN C) := by
  refine F.ok scRepr (fun vs H Q E h => ?_) (fun cdv A outer s H vs Q E hr h => ?_)
  · obtain ⟨v, r, rfl, _⟩ := h
    rfl
  · obtain ⟨v, r, rfl, sr, q⟩ := h
    refine ⟨_, pss_cons (ps_if (pt_cmpR op_isN (pe_fld (pv 0) rfl) pe_non (nomark _)) (pss_one (ps_ret (pe_joined (.cons pe_str (.cons (pe_fmt (pe_fld (pv 0) rfl)) (.cons pe_str .nil)))))) pss_nil)
      (pss_one (ps_ret (pe_joined (.cons pe_str (.cons (pe_fmt (pe_fld (pv 0) rfl)) (.cons pe_str (.cons (pe_fmt (pe_fld (pv 0) rfl)) (.cons pe_str .nil)))))))), ?_⟩
    have rb := sr.1
    have li := tlen rb.sm.a
    have lgi := int_log rb.sm.a
    have lgi : r.1.natAbs.log2 < 1920 := by omega
    obtain ⟨x, dx, rfl, hx, _⟩ := sr.st
    refine ⟨_, rfl, x, C, dx, _, _, rfl, hx, Z.cl, Z.nL, sf_last _ _, rfl, _, rfl, ?_⟩
    obtain ⟨i, l⟩ := r
    have lgi : i.natAbs.log2 < 1920 := lgi
    have li : (Str.ofString (toString i)).length ≤ 64 := li
    cases l with
    | none =>
      refine ⟨_, rfl, by rw [nil_app]; decide +kernel, _, rfl, x, C, dx, _, _, rfl, hx, Z.cl, Z.nF, sf_first _ _, .inr ⟨i, rfl, lgi, _, rfl, ?_, _, rfl, ?_, ?_⟩⟩
      · rw [nil_app, strLen_append, sizeLine_eq, show (Str.ofString "Stretch(").length = 8 by decide +kernel]
        omega
      · rw [nil_app, strLen_append, strLen_append, sizeLine_eq, show (Str.ofString "Stretch(").length = 8 by decide +kernel, show (Str.ofString ")").length = 1 by decide +kernel]
        omega
      · rw [nil_app]
        exact q
    | some j =>
      have lj := tlen (rb.sm.b j rfl)
      have lgj := int_log (rb.sm.b j rfl)
      have lgj : j.natAbs.log2 < 1920 := by omega
      refine ⟨_, rfl, by rw [nil_app]; decide +kernel, _, rfl, x, C, dx, _, _, rfl, hx, Z.cl, Z.nF, sf_first _ _, .inr ⟨i, rfl, lgi, _, rfl, ?_, _, rfl, ?_, _, rfl, x, C, dx, _, _, rfl, hx, Z.cl, Z.nL, sf_last _ _, .inr ⟨j, rfl, lgj, _, rfl, ?_, _, rfl, ?_, ?_⟩⟩⟩
      · rw [nil_app, strLen_append, sizeLine_eq, show (Str.ofString "Stretch(").length = 8 by decide +kernel]
        omega
      · rw [nil_app, strLen_append, strLen_append, sizeLine_eq, show (Str.ofString "Stretch(").length = 8 by decide +kernel, show (Str.ofString ", ").length = 2 by decide +kernel]
        omega
      · rw [nil_app, strLen_append, strLen_append, strLen_append, sizeLine_eq, show (Str.ofString "Stretch(").length = 8 by decide +kernel, show (Str.ofString ", ").length = 2 by decide +kernel]
        omega
      · rw [nil_app, strLen_append, strLen_append, strLen_append, strLen_append, sizeLine_eq, show (Str.ofString "Stretch(").length = 8 by decide +kernel, show (Str.ofString ", ").length = 2 by decide +kernel, show (Str.ofString ")").length = 1 by decide +kernel]
        omega
      · rw [nil_app]
        exact q
theorem sum_len (ts : List Str) (h : ∀ t ∈ ts, t.length ≤ 200) : (ts.map (·.length)).sum ≤ 200 * ts.length := by
  induction ts with
  | nil => exact Nat.le_refl _
  | cons t ts ih =>
    have h1 := h t (.head _)
    have h2 := ih fun u hu => h u (.tail _ hu)
    rw [List.map_cons, List.sum_cons, List.length_cons]
    omega
theorem text_fits {R : List Row} (h : ∀ r ∈ R, RB r) (hl : R.length ≤ 1000) : (listText (R.map shownO)).length ≤ sizeLine := by
  have h1 := listText_len_le (R.map shownO)
  have h2 := sum_len (R.map shownO) fun t ht => by
    obtain ⟨r, hr, rfl⟩ := List.mem_map.mp ht
    exact shownO_len (h r hr)
  rw [List.length_map] at h1 h2
  rw [sizeLine_eq]
  omega
/-! ### days_in -/
def spDaysIn (C PM PY : Addr) : Sp := fun vs H Q _ => ∃ q xs rs, vs = [.ref q] ∧ Sd H q xs ∧ SRs C H xs rs ∧ rs.length ≤ 1000 ∧ Tabs (TT2 PM PY) H ∧
  ∀ a zs H', H a = none → ExtN H H' → Tabs (TT2 PM PY) H' → H' a = some (.lst zs) → SRs C H' zs (canOf rs).reverse → Q (.ref a) H'
theorem ok_daysIn {f : Addr} {fd : FuncData} (F : Fun K "days_in" "days_in" sDaysIn f fd) (T : Tx mg) (S : Pt K mg C CN cM) (B : Tb base mg cM PM cY PY) : FnOk P w K mg base CX0 7 f fd ["some"] (spDaysIn C PM PY) := by
  obtain ⟨_, _, FC⟩ := S.chk
  obtain ⟨_, _, FG, bG, gG⟩ := S.merged
  have GC : FnOk P w K mg base CX0 1 _ _ ["thing"] (spChk C) := ok_chk FC.fn T S.ct S.own
  have GG : FnOk P w K mg base CX0 6 _ _ ["stretches"] (spMerged C PM PY) := ok_merged FG T S.toPm B
  refine F.ok scDaysIn (fun vs H Q E h => ?_) (fun cdv A outer s H vs Q E hr h => ?_)
  · obtain ⟨q, xs, rs, rfl, _⟩ := h
    rfl
  · obtain ⟨q, xs, rs, rfl, hq, hs, hl, hT, fin⟩ := h
    have hr1 : Room 1 _ := hr.mono (by decide)
    refine ⟨_, pss_cons (ps_expr (pe_call GC hr1 (by rfl) FC.gl FC.fn.kp FC.bd .nil pass0 (pa_cons (pv 0) pa_nil)))
      (pss_one (ps_ret (pe_call GG hr (by rfl) gG FG.kp bG .nil pass0 (pa_cons (pv 0) pa_nil)))), ?_⟩
    refine ⟨_, rfl, q, xs, rfl, hq, by rw [hs.length]; exact hl, isin hs, fun H1 s1 => ?_⟩
    have e1 := extN_same s1
    refine ⟨_, rfl, q, xs, rs, rfl, hq.ext e1, hs.ext e1, hl, hT.ext s1, fun a zs R ss H2 na e2 T2 ha hz hR hm hp hzl => ?_⟩
    refine fin a zs.reverse H2 (s1.free na) (e1.trans e2) T2 ha ?_
    have := hz.reverse
    rw [hR, can_eq hs.rb hm hp] at this
    exact this
end
end K17

set_option Elab.async false
set_option linter.all false
set_option maxRecDepth 100000
set_option maxHeartbeats 3200000
namespace K17
open PySem PySem.Spec PyProof.Rows L2 LT LamX
abbrev nHasL : List Str := ["_law_told", "_law_day", "_law_one"]
abbrev nParted : List Str := ["_law_pot_here", "_law_rows_here", "_law_found", "_law_first", "_law_last", "_law_at", "_law_place"]
theorem scHasL : FnScope nHasL ["_law_told", "_law_day"] (defScope sHasL) := ⟨rfl, rfl, rfl, by decide +kernel, rfl, by decide +kernel, by decide +kernel⟩
theorem scParted : FnScope nParted ["_law_pot_here", "_law_rows_here"] (defScope sParted) := ⟨rfl, rfl, rfl, by decide +kernel, rfl, by decide +kernel, by decide +kernel⟩
theorem SRs.take {C : Addr} {H : Hp} : ∀ {vs : List V} {rs : List Row}, SRs C H vs rs → ∀ n, SRs C H (vs.take n) (rs.take n)
  | _, _, .nil, n => by simp only [List.take_nil]; exact .nil
  | _, _, .cons a t, 0 => .nil
  | _, _, .cons a t, n + 1 => .cons a (SRs.take t n)
theorem SRs.drop {C : Addr} {H : Hp} : ∀ {vs : List V} {rs : List Row}, SRs C H vs rs → ∀ n, SRs C H (vs.drop n) (rs.drop n)
  | _, _, .nil, n => by simp only [List.drop_nil]; exact .nil
  | _, _, .cons a t, 0 => .cons a t
  | _, _, .cons a t, n + 1 => SRs.drop t n
theorem SRs.ins {C : Addr} {H : Hp} {vs : List V} {rs : List Row} {v : V} {r : Row} (h : SRs C H vs rs) (s : SR C H v r) (n : Nat) : SRs C H (vs.take n ++ [v] ++ vs.drop n) (rs.take n ++ [r] ++ rs.drop n) :=
  ((h.take n).append (.cons s .nil)).append (h.drop n)
theorem ins_ins {rs : List Row} {r : Row} {n : Nat} {d : Int} : LD.Ins (rs.take n ++ [r] ++ rs.drop n) d ↔ LD.In r d ∨ LD.Ins rs d := by
  constructor
  · rintro ⟨u, hu, z⟩
    rcases List.mem_append.mp hu with hu | hu
    · rcases List.mem_append.mp hu with hu | hu
      · exact .inr ⟨u, List.mem_of_mem_take hu, z⟩
      · rw [List.mem_singleton.mp hu] at z
        exact .inl z
    · exact .inr ⟨u, List.mem_of_mem_drop hu, z⟩
  · rintro (z | ⟨u, hu, z⟩)
    · exact ⟨r, List.mem_append_left _ (List.mem_append_right _ (List.mem_singleton.mpr rfl)), z⟩
    · rw [← List.take_append_drop n rs] at hu
      rcases List.mem_append.mp hu with hu | hu
      · exact ⟨u, List.mem_append_left _ (List.mem_append_left _ hu), z⟩
      · exact ⟨u, List.mem_append_right _ hu, z⟩
theorem ins_len {α : Type} (l : List α) (x : α) (n : Nat) : (l.take n ++ [x] ++ l.drop n).length = l.length + 1 := by
  rw [List.length_append, List.length_append, List.length_take, List.length_drop]
  show min n l.length + 1 + _ = _
  omega
section
variable {P : Program} {w : World} {K : PySem.W.Frag} {mg : Str → Option Value} {base : Heap} {C CN : Addr} {cM PM cY PY : Addr}
structure Pv (K : PySem.W.Frag) (mg : Str → Option Value) (C CN cM : Addr) : Prop extends Pt K mg C CN cM where
  has : ∃ f fd, Mth K C "has" "Stretch.has" ["self", "day"] sHas f fd
  eq : ∃ f fd, EqC K C f ∧ Fun K "__eq__" "Stretch.__eq__" sEq f fd ∧ L2.Binds K fd ["self", "other"] []
  repr : ∃ f fd, Mth K C "__repr__" "Stretch.__repr__" ["self"] sRepr f fd
  daysIn : ∃ f fd, Has K mg "days_in" ["some"] sDaysIn f fd
  either : ∃ f fd, Has K mg "either_days" ["some", "others"] sEither f fd
  both : ∃ f fd, Has K mg "both_days" ["some", "others"] sBoth f fd
  only : ∃ f fd, Has K mg "only_days" ["some", "others"] sOnly f fd
  manyD : ∃ f fd, Has K mg "many_days" ["some"] sManyD f fd
def spHasL (C : Addr) : Sp := fun vs H Q _ => ∃ l zs R d, vs = [.ref l, .int d] ∧ H l = some (.lst zs) ∧ SRs C H zs R ∧ R.length ≤ 900 ∧ 0 ≤ d ∧ ∀ H', Same H H' → Q (.bl (LD.insB R d)) H'
theorem ok_hasL {f : Addr} {fd : FuncData} (F : Fun K "_law_has" "_law_has" sHasL f fd) (T : Tx mg) (S : Pv K mg C CN cM) : FnOk P w K mg base CX0 5 f fd ["_law_told", "_law_day"] (spHasL C) := by
  obtain ⟨_, _, FD⟩ := S.day
  obtain ⟨_, _, FW⟩ := S.whole
  obtain ⟨_, _, FH⟩ := S.has
  have Z := S.ct
  have GH : FnOk P w K mg base CX0 4 _ _ ["self", "day"] (spHasN C) := ok_hasN FH.fn T Z FD FW
  refine F.ok scHasL (fun vs H Q E h => ?_) (fun cdv A outer s H vs Q E hr h => ?_)
  · obtain ⟨l, zs, R, d, rfl, _⟩ := h
    rfl
  · obtain ⟨l, zs, R, d, rfl, hl, hz, hn, d0, fin⟩ := h
    have nd := scHasL.nd
    refine ⟨_, pss_one (ps_ret (pe_callB (cr_any rfl) (by rfl) T.any (by decide +kernel) (pa_cons (pe_lc (own := [("_law_one", 2)]) (g := gName 2) (tt := tYes) rfl nd (pi_list (pv 0)) (blkOk_by (N := nHasL) (sc := defScope sHasL) (by decide +kernel))
          (fun _ _ _ _ _ => pg_name (i := 2) nd rfl (Or.inl rfl)) (fun _ _ _ _ _ => pts_nil)
          (fun _ _ _ _ _ => pe_meth (pv 2) Z.cl FH.me GH hr FH.bd .nil pass0 (pa_cons (pv 1) pa_nil))) pa_nil))), ?_⟩
    have zl := hz.length
    refine ⟨_, rfl, l, rfl, ⟨_, SqL.of hl⟩, fun D nD => ?_⟩
    refine lc_list (K := K) (a := l) (xs := zs) (fun i H' => Same H H' ∧ H' D = some (.lst ((R.take i).map fun r => V.bl (LD.inB r d)))) ⟨same_upd nD, upd_same⟩ (fun i H' _ h => h.1.seq (SqL.of hl)) ?_ ?_
    · rintro i v H1 hv ⟨sm, hD⟩
      obtain ⟨r, er, sr⟩ := hz.at hv
      have sr1 := sr.ext (extN_same sm)
      obtain ⟨x, dx, rfl, hx, _⟩ := sr1.st
      have hi : i < R.length := (List.getElem?_eq_some_iff.mp er).1
      refine ⟨rfl, _, rfl, x, dx, _, rfl, hx, rfl, _, rfl, .ref x, r, d, rfl, sr1, d0, _, hD, small1000 (by rw [List.length_map, List.length_take]; omega), fun b o e => ?_, ?_⟩
      · rw [upd_ne (ne_of_none e nD)]
        exact sm b o e
      · rw [upd_same, List.take_add_one, er, List.map_append]
        rfl
    · rintro H1 ⟨sm, hD⟩
      rw [List.take_of_length_le (by omega)] at hD
      refine ⟨D, R.map fun r => LD.inB r d, rfl, SqL.of (by rw [hD, List.map_map]; rfl), ?_⟩
      rw [List.any_map]
      exact fin H1 sm
def spParted (C : Addr) : Sp := fun vs H Q _ => ∃ p q zs rs, vs = [.ref p, .ref q] ∧ Pot H p ∧ H q = some (.lst zs) ∧ TRs H zs rs ∧ q ≠ p ∧ rs.length ≤ 100 ∧
  ∀ a us R H', H a = none → Pot H' p → SameB p H H' → H' a = some (.lst us) → SRs C H' us R → (∀ d, LD.Ins R d ↔ LD.Ins rs d) → R.length ≤ 300 → Q (.ref a) H'
theorem ok_parted {f fT : Addr} {fd fdT : FuncData} (F : Fun K "_law_parted" "_law_parted" sParted f fd) (T : Tx mg) (S : Pm K mg C CN) (FT : TakeFn K mg fT fdT) : FnOk P w K mg base CX0 6 f fd ["_law_pot_here", "_law_rows_here"] (spParted C) := by
  obtain ⟨_, _, FD⟩ := S.day
  obtain ⟨_, _, FW⟩ := S.whole
  obtain ⟨_, _, M, FI, bI⟩ := S.init
  have Z := S.ct
  have GI : FnOk P w K mg base (L2.CX P w) 4 _ _ ["self", "first", "last"] (spInit C CN) := ok_init FI T Z FD FW
  have GT : FnOk P w K mg base CX0 1 fT fdT ["_law_pot_here", "_law_room"] spTake := ok_take FT.fn T
  refine F.ok scParted (fun vs H Q E h => ?_) (fun cdv A outer s H vs Q E hr h => ?_)
  · obtain ⟨p, q, zs, rs, rfl, _⟩ := h
    rfl
  · obtain ⟨p, q, zs, rs, rfl, hp, hq, hz, nqp, hl, fin⟩ := h
    have nd := scParted.nd
    have hr1 : Room 1 _ := hr.mono (by decide)
    refine ⟨_, pss_cons (ps_set (i := 2) nd rfl (.inl rfl) (pe_lst pa_nil))
      (pss_cons (ps_for PassesOwn.never rfl (pi_list (pv 1)) (pg_tup rfl (pgs_cons (pg_name (i := 3) nd rfl (.inl rfl)) (pgs_cons (pg_name (i := 4) nd rfl (.inl rfl)) pgs_nil)))
        (pss_cons (ps_set (i := 5) nd rfl (.inl rfl) (pe_op op_add (pv 3) (pe_call GT hr1 (by rfl) FT.gl FT.fn.kp FT.bd .nil pass0 (pa_cons (pv 0) (pa_cons pe_int pa_nil)))))
        (pss_cons (ps_set (i := 6) nd rfl (.inl rfl) (pe_call GT hr1 (by rfl) FT.gl FT.fn.kp FT.bd .nil pass0 (pa_cons (pv 0) (pa_cons (pe_op op_add (pe_callB call_len_seq (by rfl) T.len PySem.boot_len (pa_cons (pv 2) pa_nil)) pe_int) pa_nil))))
        (pss_one (ps_if (PW.pt (pw_or (pt_cmpR op_isN (pv 4) pe_non (nomark _)) (pw_or1 (pt_cmpR op_lt (pv 5) (pv 4) (nomark _)))))
          (pss_cons (ps_expr (pe_bm PySem.F.plainAttrs_list PySem.F.slot_list_insert PySem.F.type_list_insert mt_insert (pv 2) (pa_cons (pv 6) (pa_cons (pe_make M GI hr (by rfl) Z.mgC bI .nil passL (pa_cons (pe_op op_add (pv 5) pe_int) (pa_cons (pv 4) pa_nil))) pa_nil))))
          (pss_one (ps_expr (pe_bm PySem.F.plainAttrs_list PySem.F.slot_list_insert PySem.F.type_list_insert mt_insert (pv 2) (pa_cons (pe_call GT hr1 (by rfl) FT.gl FT.fn.kp FT.bd .nil pass0 (pa_cons (pv 0) (pa_cons (pe_op op_add (pe_callB call_len_seq (by rfl) T.len PySem.boot_len (pa_cons (pv 2) pa_nil)) pe_int) pa_nil))) (pa_cons (pe_make M GI hr (by rfl) Z.mgC bI .nil passL (pa_cons (pv 3) (pa_cons (pv 5) pa_nil))) pa_nil))))))
          (pss_one (ps_expr (pe_bm PySem.F.plainAttrs_list PySem.F.slot_list_insert PySem.F.type_list_insert mt_insert (pv 2) (pa_cons (pv 6) (pa_cons (pe_make M GI hr (by rfl) Z.mgC bI .nil passL (pa_cons (pv 3) (pa_cons (pv 4) pa_nil))) pa_nil)))))))))
      ) (pss_one (ps_ret (pv 2)))), ?_⟩
    refine ⟨by show 0 ≤ sizeLine; decide, fun a na => ?_⟩
    have s0 := same_upd (o := .lst []) na
    have e0 := upd_same (H := H) (a := a) (o := .lst [])
    have nap : a ≠ p := hp.ne na
    generalize upd H a (.lst []) = H0 at *
    have zl := hz.length
    refine ⟨_, rfl, q, rfl, ⟨_, SqL.of (s0 _ _ hq)⟩, ?_⟩
    refine for_list (K := K) (xs := zs) (fun i σ H' => ∃ y3 y4 y5 y6 us R, σ = [some (.ref p), some (.ref q), some (.ref a), y3, y4, y5, y6] ∧ Pot H' p ∧ SameB p H H' ∧ H' a = some (.lst us) ∧ SRs C H' us R ∧ us.length ≤ 2 * i ∧ ∀ d, LD.Ins R d ↔ LD.Ins (rs.take i) d)
      ⟨none, none, none, none, [], [], rfl, hp.mono s0, SameB.of s0, e0, .nil, Nat.le_refl _, fun d => Iff.rfl⟩ (fun i σ H' _ h => ?_) ?_ ?_
    · obtain ⟨_, _, _, _, _, _, _, _, sb, _⟩ := h
      exact SqL.of (sb _ _ nqp hq)
    · rintro i v σ H1 hv ⟨y3, y4, y5, y6, us, R, rfl, hp1, sb1, ha, hu, ul, hi⟩
      obtain ⟨r, er, tr⟩ := hz.at hv
      obtain ⟨rb, t, rfl, ht⟩ := tr.extB hp sb1
      have hil : i < rs.length := (List.getElem?_eq_some_iff.mp er).1
      obtain ⟨f0, l⟩ := r
      have ok0 : 0 ≤ f0 := rb.ok.1
      have b1 : f0 ≤ 10 ^ 57 := rb.b1
      refine ⟨t, _, rfl, SqT.of ht, rfl, _, _, rfl, _, _, rfl, rfl, ?_⟩
      refine ⟨_, rfl, _, rfl, p, 5, rfl, hp1, by decide, by decide, fun e5 H2 e0' e1' hp2 sb2 => ?_⟩
      refine ⟨f0, e5, rfl, rfl, ?_⟩
      have ha2 := sb2 _ _ nap ha
      have hu2 : SRs C H2 us R := hu.imp fun _ _ z => z.extB hp1 sb2
      refine ⟨_, rfl, _, rfl, a, _, rfl, .inl (SqL.of ha2), _, _, rfl, rfl, p, _, rfl, hp2, by omega, by omega, fun pl H3 p0 p1 hp3 sb3 => ?_⟩
      have ha3 := sb3 _ _ nap ha2
      have hu3 : SRs C H3 us R := hu2.imp fun _ _ z => z.extB hp2 sb3
      have sb13 := (sb1.trans sb2).trans sb3
      have rl := hu.length
      -- one row put in
      have put : ∀ {Hx Hy : Hp} {us : List V} {R : List Row} {z : Addr} {r : Row} {n : Nat}, Pot Hx p → SameB p H Hx → Hx a = some (.lst us) → SRs C Hx us R → Same Hx Hy → SR C Hy (.ref z) r →
          Pot (upd Hy a (.lst (us.take n ++ [V.ref z] ++ us.drop n))) p ∧ SameB p H (upd Hy a (.lst (us.take n ++ [V.ref z] ++ us.drop n))) ∧ upd Hy a (.lst (us.take n ++ [V.ref z] ++ us.drop n)) a = some (.lst (us.take n ++ [V.ref z] ++ us.drop n)) ∧
            SRs C (upd Hy a (.lst (us.take n ++ [V.ref z] ++ us.drop n))) (us.take n ++ [V.ref z] ++ us.drop n) (R.take n ++ [r] ++ R.drop n) := by
        intro Hx Hy us R z r n hpx sbx hax hux sxy srz
        have hay := sxy _ _ hax
        exact ⟨(hpx.mono sxy).upd nap, fun c o hc hco => by rw [upd_ne (ne_of_none hco na)]; exact sxy _ _ (sbx c o hc hco), upd_same, ((hux.ext (extN_same sxy)).updL hay).ins (srz.updL hay) n⟩
      have take1 : ∀ d, LD.Ins (rs.take (i + 1)) d ↔ LD.In (f0, l) d ∨ LD.Ins (rs.take i) d := fun d => by
        rw [List.take_add_one, er]
        constructor
        · rintro ⟨u, hu, z⟩
          rcases List.mem_append.mp hu with hu | hu
          · exact .inr ⟨u, hu, z⟩
          · rw [List.mem_singleton.mp hu] at z
            exact .inl z
        · rintro (z | ⟨u, hu, z⟩)
          · exact ⟨_, List.mem_append_right _ (List.mem_singleton.mpr rfl), z⟩
          · exact ⟨u, List.mem_append_left _ hu, z⟩
      have part : (∀ j, l = some j → f0 + e5 < j) → RB (f0 + e5 + 1, l) ∧ RB (f0, some (f0 + e5)) ∧ ∀ d, LD.In (f0, l) d ↔ LD.In (f0 + e5 + 1, l) d ∨ LD.In (f0, some (f0 + e5)) d := fun hj => by
        refine ⟨⟨⟨by show 0 ≤ f0 + e5 + 1; omega, fun j ej => by have := hj j ej; show f0 + e5 + 1 ≤ j; omega⟩, by show f0 + e5 + 1 ≤ _; omega, fun j ej => rb.rb.b2 j ej⟩, ⟨⟨ok0, fun j ej => by cases ej; show f0 ≤ f0 + e5; omega⟩, by show f0 ≤ _; omega, fun j ej => by cases ej; omega⟩, fun d => ?_⟩
        unfold LD.In
        constructor
        · rintro ⟨h1, h2⟩
          have h1 : f0 ≤ d := h1
          by_cases h : d ≤ f0 + e5
          · exact .inr ⟨h1, fun j ej => by cases ej; exact h⟩
          · exact .inl ⟨by show f0 + e5 + 1 ≤ d; omega, h2⟩
        · rintro (⟨h1, h2⟩ | ⟨h1, h2⟩)
          · have h1 : f0 + e5 + 1 ≤ d := h1
            exact ⟨by show f0 ≤ d; omega, h2⟩
          · have h3 := h2 _ rfl
            exact ⟨h1, fun j ej => by have := hj j ej; omega⟩
      -- the two ways
      have two : (∀ j, l = some j → f0 + e5 < j) → ∀ (z : Addr) (H4 : Hp), Same H3 H4 → SR C H4 (.ref z) (f0 + e5 + 1, l) → ∀ (H5 : Hp) (n2 : Int), Pot H5 p → SameB p (upd H4 a (.lst (us.take pl.toNat ++ [V.ref z] ++ us.drop pl.toNat))) H5 → ∀ (y : Addr) (H6 : Hp), Same H5 H6 → SR C H6 (.ref y) (f0, some (f0 + e5)) →
          ∃ y3 y4 y5 y6 us' R', ([some (.ref p), some (.ref q), some (.ref a), some (.int f0), some (enc l), some (.int (f0 + e5)), some (.int pl)] : L2.St) = [some (.ref p), some (.ref q), some (.ref a), y3, y4, y5, y6] ∧
            Pot (upd H6 a (.lst ((us.take pl.toNat ++ [V.ref z] ++ us.drop pl.toNat).take n2.toNat ++ [V.ref y] ++ (us.take pl.toNat ++ [V.ref z] ++ us.drop pl.toNat).drop n2.toNat))) p ∧ SameB p H (upd H6 a (.lst ((us.take pl.toNat ++ [V.ref z] ++ us.drop pl.toNat).take n2.toNat ++ [V.ref y] ++ (us.take pl.toNat ++ [V.ref z] ++ us.drop pl.toNat).drop n2.toNat))) ∧
            upd H6 a (.lst ((us.take pl.toNat ++ [V.ref z] ++ us.drop pl.toNat).take n2.toNat ++ [V.ref y] ++ (us.take pl.toNat ++ [V.ref z] ++ us.drop pl.toNat).drop n2.toNat)) a = some (.lst us') ∧ SRs C (upd H6 a (.lst ((us.take pl.toNat ++ [V.ref z] ++ us.drop pl.toNat).take n2.toNat ++ [V.ref y] ++ (us.take pl.toNat ++ [V.ref z] ++ us.drop pl.toNat).drop n2.toNat))) us' R' ∧
            us'.length ≤ 2 * (i + 1) ∧ ∀ d, LD.Ins R' d ↔ LD.Ins (rs.take (i + 1)) d := by
        intro hj z H4 s4 sr4 H5 n2 hp5 sb5 y H6 s6 sr6
        obtain ⟨q1, q2, q3, q4⟩ := put (n := pl.toNat) hp3 sb13 ha3 hu3 s4 sr4
        have ha5 := sb5 _ _ nap q3
        have hu5 := q4.imp fun _ _ z => z.extB q1 sb5
        obtain ⟨r1, r2, r3, r4⟩ := put (n := n2.toNat) hp5 (q2.trans sb5) ha5 hu5 s6 sr6
        refine ⟨_, _, _, _, _, _, rfl, r1, r2, r3, r4, ?_, fun d => ?_⟩
        · rw [ins_len, ins_len]
          omega
        · rw [ins_ins, ins_ins, hi, take1, (part hj).2.2 d]
          constructor
          · rintro (z | z | z)
            · exact .inl (.inr z)
            · exact .inl (.inl z)
            · exact .inr z
          · rintro ((z | z) | z)
            · exact .inr (.inl z)
            · exact .inl z
            · exact .inr (.inr z)
      have ulen : us.length ≤ 200 := by omega
      refine ⟨_, rfl, rfl, _, rfl, ?_⟩
      cases l with
      | none =>
        refine iteT (iteT ?_)
        have hj : ∀ j, (none : Option Int) = some j → f0 + e5 < j := nofun
        refine ⟨_, rfl, .inl ⟨rfl, _, SqL.of ha3⟩, _, rfl, _, rfl, _, _, rfl, rfl, _, rfl, fun z dz nz ndz nez => ?_⟩
        refine mk_init (r := (f0 + e5 + 1, none)) nz ndz nez (part hj).1 fun H4 s4 sr4 => ⟨rfl, a, us, pl, _, rfl, rfl, s4 _ _ ha3, small1000 (by omega), p0, by omega, ?_⟩
        have q := put (n := pl.toNat) hp3 sb13 ha3 hu3 s4 sr4
        refine ⟨_, rfl, .inl ⟨rfl, _, SqL.of q.2.2.1⟩, _, rfl, _, rfl, a, _, rfl, .inl (SqL.of q.2.2.1), _, _, rfl, rfl, p, _, rfl, q.1, by omega, by rw [ins_len]; omega, fun n2 H5 n0 n1 hp5 sb5 => ?_⟩
        rw [ins_len] at n1
        refine ⟨_, rfl, _, rfl, fun y dy ny ndy ney => ?_⟩
        refine mk_init (r := (f0, some (f0 + e5))) ny ndy ney (part hj).2.1 fun H6 s6 sr6 => ⟨rfl, a, _, n2, _, rfl, rfl, s6 _ _ (sb5 _ _ nap q.2.2.1), small1000 (by rw [ins_len]; omega), n0, by omega, ?_⟩
        exact two hj z H4 s4 sr4 H5 n2 hp5 sb5 y H6 s6 sr6
      | some j =>
        refine iteF ?_
        refine ⟨_, rfl, _, rfl, f0 + e5, j, rfl, rfl, _, rfl, ?_⟩
        by_cases hlt : f0 + e5 < j
        · rw [decide_eq_true hlt]
          refine iteT ?_
          have hj : ∀ k, (some j : Option Int) = some k → f0 + e5 < k := fun k ek => by cases ek; exact hlt
          refine ⟨_, rfl, .inl ⟨rfl, _, SqL.of ha3⟩, _, rfl, _, rfl, _, _, rfl, rfl, _, rfl, fun z dz nz ndz nez => ?_⟩
          refine mk_init (r := (f0 + e5 + 1, some j)) nz ndz nez (part hj).1 fun H4 s4 sr4 => ⟨rfl, a, us, pl, _, rfl, rfl, s4 _ _ ha3, small1000 (by omega), p0, by omega, ?_⟩
          have q := put (n := pl.toNat) hp3 sb13 ha3 hu3 s4 sr4
          refine ⟨_, rfl, .inl ⟨rfl, _, SqL.of q.2.2.1⟩, _, rfl, _, rfl, a, _, rfl, .inl (SqL.of q.2.2.1), _, _, rfl, rfl, p, _, rfl, q.1, by omega, by rw [ins_len]; omega, fun n2 H5 n0 n1 hp5 sb5 => ?_⟩
          rw [ins_len] at n1
          refine ⟨_, rfl, _, rfl, fun y dy ny ndy ney => ?_⟩
          refine mk_init (r := (f0, some (f0 + e5))) ny ndy ney (part hj).2.1 fun H6 s6 sr6 => ⟨rfl, a, _, n2, _, rfl, rfl, s6 _ _ (sb5 _ _ nap q.2.2.1), small1000 (by rw [ins_len]; omega), n0, by omega, ?_⟩
          exact two hj z H4 s4 sr4 H5 n2 hp5 sb5 y H6 s6 sr6
        · rw [decide_eq_false hlt]
          refine iteF ?_
          refine ⟨_, rfl, .inl ⟨rfl, _, SqL.of ha3⟩, _, rfl, _, rfl, _, rfl, fun z dz nz ndz nez => ?_⟩
          refine mk_init (r := (f0, some j)) nz ndz nez rb.rb fun H4 s4 sr4 => ⟨rfl, a, us, pl, _, rfl, rfl, s4 _ _ ha3, small1000 (by omega), p0, by omega, ?_⟩
          obtain ⟨q1, q2, q3, q4⟩ := put (n := pl.toNat) hp3 sb13 ha3 hu3 s4 sr4
          refine ⟨_, _, _, _, _, _, rfl, q1, q2, q3, q4, ?_, fun d => ?_⟩
          · rw [ins_len]
            omega
          · rw [ins_ins, hi, take1]
    · rintro σ H1 ⟨y3, y4, y5, y6, us, R, rfl, hp1, sb1, ha, hu, ul, hi⟩
      have rl := hu.length
      rw [List.take_of_length_le (by omega)] at hi
      exact ⟨_, rfl, fin a us R H1 na hp1 sb1 ha hu hi (by omega)⟩
end
end K17

set_option Elab.async false
set_option linter.all false
set_option maxRecDepth 100000
set_option maxHeartbeats 3200000
namespace K17
open PySem PySem.Spec PyProof.Rows L2 LT LamX
abbrev nDaysR : List Str := ["_law_some", "_law_others", "_law_rows_here", "_law_more", "_law_days", "_law_told", "_law_day", "_law_one", "_law_other", "_law_due_here", "_law_found"]
abbrev pDaysR : List Str := ["_law_some", "_law_others", "_law_rows_here", "_law_more", "_law_days"]
abbrev nSumsR : List Str := ["_law_some", "_law_others", "_law_alone", "_law_shared", "_law_counts"]
theorem scDaysR : FnScope nDaysR pDaysR (defScope sDaysR) := ⟨rfl, rfl, rfl, by decide +kernel, rfl, by decide +kernel, by decide +kernel⟩
theorem scSumsR : FnScope nSumsR ["_law_some", "_law_others"] (defScope sSumsR) := ⟨rfl, rfl, rfl, by decide +kernel, rfl, by decide +kernel, by decide +kernel⟩
theorem insB_congr {rs ss : List Row} (h : ∀ r, r ∈ ss ↔ r ∈ rs) (d : Int) : LD.insB ss d = LD.insB rs d := by
  rw [Bool.eq_iff_iff, LD.insB_iff, LD.insB_iff]
  exact ins_mem h d
theorem insB_of {L : List Row} {d : Int} {b : Bool} (h : LD.Ins L d ↔ b = true) : LD.insB L d = b := by
  rw [Bool.eq_iff_iff, LD.insB_iff]
  exact h
/-- the lists of the two sides stand -/
structure Two (C p q : Addr) (H : Hp) (xs ys : List V) (rs ms : List Row) : Prop where
  hp : Sd H p xs
  hq : Sd H q ys
  hx : SRs C H xs rs
  hy : SRs C H ys ms
theorem Two.ext {C p q : Addr} {H H' : Hp} {xs ys : List V} {rs ms : List Row} (t : Two C p q H xs ys rs ms) (e : ExtN H H') : Two C p q H' xs ys rs ms := ⟨t.hp.ext e, t.hq.ext e, t.hx.ext e, t.hy.ext e⟩
/-- short lists of drawn rows -/
structure Few (rs ms : List Row) : Prop where
  lr : rs.length ≤ 20
  lm : ms.length ≤ 20
  br : ∀ r ∈ rs, ∀ j, r.2 = some j → j + 1 ≤ 10 ^ 58
  bm : ∀ r ∈ ms, ∀ j, r.2 = some j → j + 1 ≤ 10 ^ 58
def blD (bs : List Bool) : PyData := .list (bs.map PyData.bool)
theorem blD_lay : ∀ bs : List Bool, PyData.canLayAll0 (bs.map PyData.bool) = true
  | [] => by simp [PyData.canLayAll0]
  | b :: bs => by
    have := blD_lay bs
    simp [PyData.canLayAll0, PyData.canLay0, this]
theorem blD_depth : ∀ bs : List Bool, PyData.depthAll (bs.map PyData.bool) ≤ 1
  | [] => by simp [PyData.depthAll]
  | b :: bs => by
    have := blD_depth bs
    simp only [List.map_cons, PyData.depthAll, PyData.depth]
    omega
theorem blD_canL (bs : List Bool) : (blD bs).canLay0 = true := by
  simp only [blD, PyData.canLay0]
  exact blD_lay bs
theorem blD_shaped (bs : List Bool) : SeqAt.shaped (blD bs) = true := by
  have h1 := blD_depth bs
  have h2 : (blD bs).depth ≤ 64 := by
    simp only [blD, PyData.depth]
    omega
  show ((blD bs).canLay0 && decide ((blD bs).depth ≤ 64)) = true
  rw [Bool.and_eq_true]
  exact ⟨blD_canL bs, decide_eq_true h2⟩
theorem bl_dp {K : PySem.W.Frag} {H : Hp} : ∀ bs : List Bool, DpAll K H (bs.map V.bl) (bs.map PyData.bool)
  | [] => .nil
  | b :: bs => .cons (.bl b) (bl_dp bs)
section
variable {P : Program} {w : World} {K : PySem.W.Frag} {mg : Str → Option Value} {base : Heap} {C CN : Addr} {cM PM cY PY : Addr}
def spDaysR (C PM PY : Addr) : Sp := fun vs H Q _ => ∃ (p q rp mp dp : Addr) (xs ys zs us : List V) (ss ts rs ms : List Row) (ds : List Int), vs = [.ref p, .ref q, .ref rp, .ref mp, .ref dp] ∧ Two C p q H xs ys ss ts ∧ Few ss ts ∧ H rp = some (.lst zs) ∧ TRs H zs rs ∧ rs.length ≤ 100 ∧ H mp = some (.lst us) ∧ TRs H us ms ∧ ms.length ≤ 100 ∧
  (∀ r, r ∈ ss ↔ r ∈ rs) ∧ (∀ r, r ∈ ts ↔ r ∈ ms) ∧ H dp = some (.lst (ds.map V.int)) ∧ (∀ d ∈ ds, (0 : Int) ≤ d) ∧ Tabs (TT2 PM PY) H ∧ ∀ H', ExtN H H' → Tabs (TT2 PM PY) H' → Q (.bl true) H'
theorem ok_daysR {f fI fL : Addr} {fd fdI fdL : FuncData} (F : Fun K "_law_days_right" "_law_days_right" sDaysR f fd) (T : Tx mg) (S : Pv K mg C CN cM) (B : Tb base mg cM PM cY PY) (FI : Has K mg "_law_in" ["_law_rows_here", "_law_day"] sIn fI fdI) (FL : Has K mg "_law_has" ["_law_told", "_law_day"] sHasL fL fdL) :
    FnOk P w K mg base CX0 8 f fd pDaysR (spDaysR C PM PY) := by
  obtain ⟨_, _, FN⟩ := S.daysIn
  obtain ⟨_, _, FE⟩ := S.either
  obtain ⟨_, _, FB⟩ := S.both
  obtain ⟨_, _, FO⟩ := S.only
  have GN : FnOk P w K mg base CX0 7 _ _ ["some"] (spDaysIn C PM PY) := ok_daysIn FN.fn T S.toPt B
  have GE : FnOk P w K mg base CX0 7 _ _ ["some", "others"] (spTell C PM PY false eitherB) := ok_either FE.fn T S.toPt B
  have GB : FnOk P w K mg base CX0 7 _ _ ["some", "others"] (spTell C PM PY false bothB) := ok_both FB.fn T S.toPt B
  have GO : FnOk P w K mg base CX0 7 _ _ ["some", "others"] (spTell C PM PY true onlyB) := ok_only FO.fn T S.toPt B
  have GI : FnOk P w K mg base CX0 1 _ _ ["_law_rows_here", "_law_day"] spIn := ok_in FI.fn T
  have GL : FnOk P w K mg base CX0 5 _ _ ["_law_told", "_law_day"] (spHasL C) := ok_hasL FL.fn T S
  refine F.ok scDaysR (fun vs H Q E h => ?_) (fun cdv A outer s H vs Q E hr h => ?_)
  · obtain ⟨p, q, rp, mp, dp, xs, ys, zs, us, ss, ts, rs, ms, ds, rfl, _⟩ := h
    rfl
  · obtain ⟨p, q, rp, mp, dp, xs, ys, zs, us, ss, ts, rs, ms, ds, rfl, tw, fw, hrp, hz, lr, hmp, hu', lm, hm1, hm2, hdp, hds, hT, fin⟩ := h
    have nd := scDaysR.nd
    have hu := hr.units
    have hr1 : Room 1 _ := hr.mono (by decide)
    have hr4 : Room 4 _ := hr.mono (by decide)
    have hr5 : Room 5 _ := hr.mono (by decide)
    refine ⟨_, pss_cons (ps_set (i := 5) nd rfl (.inl rfl) (pe_lst (pa_cons (pe_call GN hr (by rfl) FN.gl FN.fn.kp FN.bd .nil pass0 (pa_cons (pv 0) pa_nil)) (pa_cons (pe_call GE hr (by rfl) FE.gl FE.fn.kp FE.bd .nil pass0 (pa_cons (pv 0) (pa_cons (pv 1) pa_nil)))
        (pa_cons (pe_call GB hr (by rfl) FB.gl FB.fn.kp FB.bd .nil pass0 (pa_cons (pv 0) (pa_cons (pv 1) pa_nil))) (pa_cons (pe_call GO hr (by rfl) FO.gl FO.fn.kp FO.bd .nil pass0 (pa_cons (pv 0) (pa_cons (pv 1) pa_nil))) pa_nil))))))
      (pss_cons (ps_for PassesOwn.never rfl (pi_list (pv 4)) (pg_name (i := 6) nd rfl (.inr rfl))
        (pss_cons (ps_par (i := 7) (j := 8) (by rfl) nd rfl rfl (by decide) rfl rfl (pa_cons (pe_call GI hr1 (by rfl) FI.gl FI.fn.kp FI.bd .nil pass0 (pa_cons (pv 2) (pa_cons (pv 6) pa_nil))) (pa_cons (pe_call GI hr1 (by rfl) FI.gl FI.fn.kp FI.bd .nil pass0 (pa_cons (pv 3) (pa_cons (pv 6) pa_nil))) pa_nil)) (by rfl))
        (pss_cons (ps_set (i := 9) nd rfl (.inl rfl) (pe_lst (pa_cons (pv 7) (pa_cons (pe_or (pv 7) (pe_one (pv 8))) (pa_cons (pe_and (pv 7) (pe_one (pv 8))) (pa_cons (pe_and (pv 7) (pe_one (pe_not (pv 8)))) pa_nil))))))
        (pss_one (ps_if (pt_cmpR (op_neD hu) (pe_lc (own := [("_law_found", 10)]) (g := gName 10) (tt := tYes) rfl nd (pi_list (pv 5)) (blkOk_by (N := nDaysR) (sc := defScope sDaysR) (by decide +kernel))
            (fun _ _ _ _ _ => pg_name (i := 10) nd rfl (Or.inl rfl)) (fun _ _ _ _ _ => pts_nil)
            (fun _ _ _ _ _ => pe_call GL hr5 (by rfl) FL.gl FL.fn.kp FL.bd .nil pass0 (pa_cons (pv 10) (pa_cons (pv 6) pa_nil)))) (pv 9) (nomark _)) (pss_one (ps_ret pe_bl)) pss_nil)))))
      (pss_one (ps_ret pe_bl))), ?_⟩
    have xl := tw.hx.length
    -- the tellings
    refine ⟨_, rfl, p, xs, ss, rfl, tw.hp, tw.hx, by have := fw.lr; omega, hT, fun l1 z1 H1 n1 e1 T1 h1 sr1 => ?_⟩
    have tw1 := tw.ext e1
    have lr' := fw.lr
    have lm' := fw.lm
    refine ⟨_, rfl, _, rfl, p, q, xs, ys, ss, ts, rfl, tw1.hp, tw1.hq, tw1.hx, tw1.hy, by omega, by omega, nofun, T1, fun l2 z2 L2 H2 n2 e2 T2 h2 sr2 as2 in2 ll2 => ?_⟩
    have e12 := e1.trans e2
    have tw2 := tw.ext e12
    refine ⟨_, rfl, _, rfl, p, q, xs, ys, ss, ts, rfl, tw2.hp, tw2.hq, tw2.hx, tw2.hy, by omega, by omega, nofun, T2, fun l3 z3 L3 H3 n3 e3 T3 h3 sr3 as3 in3 ll3 => ?_⟩
    have e13 := e12.trans e3
    have tw3 := tw.ext e13
    refine ⟨_, rfl, _, rfl, p, q, xs, ys, ss, ts, rfl, tw3.hp, tw3.hq, tw3.hx, tw3.hy, by omega, by omega, fun _ => fw.bm, T3, fun l4 z4 L4 H4 n4 e4 T4 h4 sr4 as4 in4 ll4 => ?_⟩
    refine ⟨by show 4 ≤ sizeLine; decide, fun tl ntl => ?_⟩
    have s5 := same_upd (o := .lst [V.ref l1, V.ref l2, V.ref l3, V.ref l4]) ntl
    have htl := upd_same (H := H4) (a := tl) (o := .lst [V.ref l1, V.ref l2, V.ref l3, V.ref l4])
    generalize upd H4 tl (.lst [V.ref l1, V.ref l2, V.ref l3, V.ref l4]) = H5 at *
    have x5 := extN_same s5
    have e14 := e13.trans e4
    have e15 := e14.trans x5
    have g1 := ((((e2.trans e3).trans e4).trans x5) _ _ h1 nofun)
    have q1 := (((sr1.ext e2).ext e3).ext e4).ext x5
    have g2 := (((e3.trans e4).trans x5) _ _ h2 nofun)
    have q2 := ((sr2.ext e3).ext e4).ext x5
    have g3 := ((e4.trans x5) _ _ h3 nofun)
    have q3 := (sr3.ext e4).ext x5
    have g4 := s5 _ _ h4
    have q4 := sr4.ext x5
    have okS := tw.hx.rb
    obtain ⟨_, cN2⟩ := canOf_spec okS
    have cNl := (canOf_rb okS).2
    have vals : ∀ (d : Int) (i : Nat) (v : V), [V.ref l1, V.ref l2, V.ref l3, V.ref l4][i]? = some v → ∃ l zl L b, v = .ref l ∧ H5 l = some (.lst zl) ∧ SRs C H5 zl L ∧ L.length ≤ 900 ∧ LD.insB L d = b ∧
        [LD.insB rs d, LD.insB rs d || LD.insB ms d, LD.insB rs d && LD.insB ms d, LD.insB rs d && !LD.insB ms d][i]? = some b := by
      intro d i v hv
      have ea := insB_congr hm1 d
      have eb := insB_congr hm2 d
      match i, hv with
      | 0, hv =>
        cases hv
        refine ⟨l1, z1, _, _, rfl, g1, q1, by rw [List.length_reverse]; omega, insB_of (b := LD.insB rs d) ?_, rfl⟩
        rw [LD.ins_rev, cN2, ← LD.insB_iff, ea]
      | 1, hv =>
        cases hv
        refine ⟨l2, z2, L2, _, rfl, g2, q2, by omega, insB_of (b := LD.insB rs d || LD.insB ms d) ?_, rfl⟩
        rw [in2, ea, eb]
        rfl
      | 2, hv =>
        cases hv
        refine ⟨l3, z3, L3, _, rfl, g3, q3, by omega, insB_of (b := LD.insB rs d && LD.insB ms d) ?_, rfl⟩
        rw [in3, ea, eb]
        rfl
      | 3, hv =>
        cases hv
        refine ⟨l4, z4, L4, _, rfl, g4, q4, by omega, insB_of (b := LD.insB rs d && !LD.insB ms d) ?_, rfl⟩
        rw [in4, ea, eb]
        rfl
    refine ⟨_, rfl, dp, rfl, ⟨_, SqL.of (e15 _ _ hdp nofun)⟩, ?_⟩
    refine for_list (K := K) (xs := ds.map V.int) (fun i σ H' => ∃ y6 y7 y8 y9, σ = [some (.ref p), some (.ref q), some (.ref rp), some (.ref mp), some (.ref dp), some (.ref tl), y6, y7, y8, y9, none] ∧ Same H5 H') ⟨none, none, none, none, rfl, Same.refl _⟩ (fun i σ H' _ h => ?_) ?_ ?_
    · obtain ⟨_, _, _, _, _, sm⟩ := h
      exact SqL.of (sm _ _ (e15 _ _ hdp nofun))
    · rintro i v σ H6 hv ⟨y6, y7, y8, y9, rfl, s6⟩
      rw [List.getElem?_map] at hv
      obtain ⟨d, ed, rfl⟩ := Option.map_eq_some_iff.mp hv
      have d0 := hds d (List.mem_of_getElem? ed)
      have e16 := e15.trans (extN_same s6)
      refine ⟨_, rfl, _, rfl, rp, zs, rs, d, rfl, e16 _ _ hrp nofun, hz.imp fun _ _ z => z.ext e16, by omega, fun H7 s7 => ?_⟩
      have e17 := e16.trans (extN_same s7)
      refine ⟨_, rfl, _, rfl, mp, us, ms, d, rfl, e17 _ _ hmp nofun, hu'.imp fun _ _ z => z.ext e17, by omega, fun H8 s8 => ?_⟩
      refine ⟨_, _, rfl, ?_⟩
      have s68 := (s6.trans s7).trans s8
      have vs8 := vals d
      generalize LD.insB rs d = a at *
      generalize LD.insB ms d = b at *
      -- the due list
      have rest : ∀ dl, H8 dl = none → ∀ H9, H9 = upd H8 dl (.lst ([a, a || b, a && b, a && !b].map V.bl)) →
          tIfS (tTest (tOp (rNeD K) (tLc (iList K (tVar 5)) (gName 10) tYes (tCall (spHasL C) [] E0 (tCons (tVar 10) (tCons (tVar 6) tNil))) [10]) (tVar 9))) (tRet (tC (.bl false))) tNext
            { nx := fun σ H' => ∃ y6 y7 y8 y9, σ = [some (.ref p), some (.ref q), some (.ref rp), some (.ref mp), some (.ref dp), some (.ref tl), y6, y7, y8, y9, none] ∧ Same H5 H', rt := Q, ct := fun σ H' => ∃ y6 y7 y8 y9, σ = [some (.ref p), some (.ref q), some (.ref rp), some (.ref mp), some (.ref dp), some (.ref tl), y6, y7, y8, y9, none] ∧ Same H5 H', bk := fun σ H' => tRet (tC (.bl true)) { nx := fun _ H' => Q .non H', rt := Q } σ H' }
            [some (.ref p), some (.ref q), some (.ref rp), some (.ref mp), some (.ref dp), some (.ref tl), some (.int d), some (.bl a), some (.bl b), some (.ref dl), none] H9 := by
        intro dl ndl H9 e9
        have s9 : Same H8 H9 := by rw [e9]; exact same_upd ndl
        have hdl : H9 dl = some (.lst ([a, a || b, a && b, a && !b].map V.bl)) := by rw [e9]; exact upd_same
        have s59 := s68.trans s9
        refine ⟨_, rfl, tl, rfl, ⟨_, SqL.of (s59 _ _ htl)⟩, fun D nD => ?_⟩
        refine lc_list (K := K) (a := tl) (xs := [V.ref l1, V.ref l2, V.ref l3, V.ref l4]) (fun i H' => Same H9 H' ∧ H' D = some (.lst (([a, a || b, a && b, a && !b].take i).map V.bl))) ⟨same_upd nD, upd_same⟩ (fun i H' _ h => h.1.seq (SqL.of (s59 _ _ htl))) ?_ ?_
        · rintro i v H10 hv ⟨sm, hD⟩
          obtain ⟨l, zl, L, bb, rfl, hl, hs, hn, hb, eb⟩ := vs8 i v hv
          have s510 := s59.trans sm
          refine ⟨rfl, _, rfl, _, rfl, l, zl, L, d, rfl, s510 _ _ hl, hs.ext (extN_same s510), hn, d0, fun H11 s11 => ?_⟩
          rw [hb]
          refine ⟨_, s11 _ _ hD, small1000 (by rw [List.length_map, List.length_take]; exact Nat.le_trans (Nat.min_le_right _ _) (by show 4 ≤ 1000; decide)), fun b' o e => ?_, ?_⟩
          · rw [upd_ne (ne_of_none e nD)]
            exact s11 _ _ (sm b' o e)
          · rw [upd_same, List.take_add_one, eb, List.map_append]
            rfl
        · rintro H10 ⟨sm, hD⟩
          refine ⟨_, rfl, blD [a, a || b, a && b, a && !b], blD [a, a || b, a && b, a && !b], .lst (SqL.of hD) (bl_dp _), .lst (SqL.of (sm _ _ hdl)) (bl_dp _), blD_shaped _, blD_shaped _, _, rfl, ?_⟩
          rw [SeqAt.eqv_refl _ (blD_canL _)]
          refine iteF ?_
          exact ⟨_, _, _, _, rfl, s59.trans sm⟩
      cases a with
      | true => exact ⟨_, rfl, _, rfl, _, rfl, _, rfl, _, rfl, _, rfl, _, rfl, _, rfl, _, rfl, _, rfl, by show 4 ≤ sizeLine; decide, fun dl ndl => rest dl ndl _ (by cases b <;> rfl)⟩
      | false => exact ⟨_, rfl, _, rfl, _, rfl, _, rfl, _, rfl, _, rfl, _, rfl, _, rfl, by show 4 ≤ sizeLine; decide, fun dl ndl => rest dl ndl _ (by cases b <;> rfl)⟩
    · rintro σ H6 ⟨y6, y7, y8, y9, rfl, s6⟩
      exact fin H6 (e15.trans (extN_same s6)) ((T4.ext s5).ext s6)
end
end K17

set_option Elab.async false
set_option linter.all false
set_option maxRecDepth 100000
set_option maxHeartbeats 3200000
namespace K17
open PySem PySem.Spec PyProof.Rows L2 LT LamX
/-- the four counts -/
inductive Four : Option Int → Option Int → Option Int → Option Int → Prop
  | all : Four none none none none
  | fst (n : Int) (c : Option Int) : Four none (some n) none c
  | snd (n : Int) (c : Option Int) : Four (some n) none none c
  | no (i j k l : Int) : i + j = k + l → Four (some i) (some j) (some k) (some l)
theorem four {A B E D : List Row} (hA : ∀ r ∈ A, RB r) (hB : ∀ r ∈ B, RB r) (hE : ∀ r ∈ E, RB r) (hD : ∀ r ∈ D, RB r) (iE : ∀ d, LD.insB E d = (LD.insB A d || LD.insB B d)) (iD : ∀ d, LD.insB D d = (LD.insB A d && LD.insB B d)) :
    Four (cntR (canOf A)) (cntR (canOf B)) (cntR (canOf E)) (cntR (canOf D)) := by
  obtain ⟨N, hN⟩ : ∃ N : Nat, (10 : Int) ^ 58 < N := ⟨10 ^ 58 + 1, by omega⟩
  rw [cnt_val hA hN, cnt_val hB hN, cnt_val hE hN, cnt_val hD hN, iE D0, iD D0, cntUp_congr iE N, cntUp_congr iD N]
  have ad := cntUp_add (LD.insB A) (LD.insB B) N
  cases LD.insB A D0 <;> cases LD.insB B D0
  · exact .no _ _ _ _ ad
  · exact .snd _ _
  · exact .fst _ _
  · exact .all
abbrev rNeL (C : Addr) : R2 := fun x y H Q => ∃ (l k : Addr) (vs us : List V), x = .ref l ∧ y = .ref k ∧ H l = some (.lst vs) ∧ H k = some (.lst us) ∧ vs.length = us.length ∧
      (∀ (i : Nat) (v u : V), vs[i]? = some v → us[i]? = some u → ∃ (a b dx dy : Addr) (fs gs : List (Str × V)), v = .ref a ∧ u = .ref b ∧ H a = some (.ins C dx fs) ∧ H b = some (.ins C dy gs) ∧
        spEqN C [.ref a, .ref b] H (fun z H' => ∃ r, z = .bl r ∧ z = .bl true ∧ H' = H) E0) ∧ Q (.bl false) H
theorem ne_rows {C l k : Addr} {H : Hp} {vs us : List V} {R R' : List Row} {Q : V → Hp → Prop} (hl : H l = some (.lst vs)) (hk : H k = some (.lst us)) (h1 : SRs C H vs R) (h2 : SRs C H us R') (e : R = R') (q : Q (.bl false) H) : rNeL C (.ref l) (.ref k) H Q := by
  subst e
  refine ⟨l, k, vs, us, rfl, rfl, hl, hk, by rw [h1.length, h2.length], fun i v u ev eu => ?_, q⟩
  obtain ⟨r, er, sr⟩ := h1.at ev
  obtain ⟨r', er', sr'⟩ := h2.at eu
  rw [er] at er'
  cases er'
  obtain ⟨x, dx, rfl, hx, _⟩ := sr.st
  obtain ⟨y, dy, rfl, hy, _⟩ := sr'.st
  exact ⟨x, y, dx, dy, _, _, rfl, rfl, hx, hy, .ref x, .ref y, r, rfl, sr, sr', true, rfl, rfl, rfl⟩
theorem nil_of {C : Addr} {H : Hp} {vs : List V} {R : List Row} (h : SRs C H vs R) (hA : LD.Asc R) (e : ∀ d, LD.Ins R d ↔ false = true) : vs = [] := by
  cases h with
  | nil => rfl
  | @cons v r vt Rt hv ht =>
    have ok := hA.ok r (.head _)
    have := (e r.1).mp ⟨r, .head _, Int.le_refl _, fun j ej => ok.2 j ej⟩
    cases this
section
variable {P : Program} {w : World} {K : PySem.W.Frag} {mg : Str → Option Value} {base : Heap} {C CN : Addr} {cM PM cY PY : Addr}
def spSumsR (C PM PY : Addr) : Sp := fun vs H Q _ => ∃ (p q : Addr) (xs ys : List V) (ss ts : List Row), vs = [.ref p, .ref q] ∧ Two C p q H xs ys ss ts ∧ Few ss ts ∧ Tabs (TT2 PM PY) H ∧ ∀ H', ExtN H H' → Tabs (TT2 PM PY) H' → Q (.bl true) H'
theorem ok_sumsR {f : Addr} {fd : FuncData} (F : Fun K "_law_sums_right" "_law_sums_right" sSumsR f fd) (T : Tx mg) (S : Pv K mg C CN cM) (B : Tb base mg cM PM cY PY) :
    FnOk P w K mg base CX0 8 f fd ["_law_some", "_law_others"] (spSumsR C PM PY) := by
  obtain ⟨_, _, FN⟩ := S.daysIn
  obtain ⟨_, _, FE⟩ := S.either
  obtain ⟨_, _, FB⟩ := S.both
  obtain ⟨_, _, FO⟩ := S.only
  obtain ⟨_, _, FM⟩ := S.manyD
  obtain ⟨_, _, EC, FQ, bQ⟩ := S.eq
  obtain ⟨_, _, FG, bG, gG⟩ := S.merged
  have Z := S.ct
  have GN : FnOk P w K mg base CX0 7 _ _ ["some"] (spDaysIn C PM PY) := ok_daysIn FN.fn T S.toPt B
  have GE : FnOk P w K mg base CX0 7 _ _ ["some", "others"] (spTell C PM PY false eitherB) := ok_either FE.fn T S.toPt B
  have GB : FnOk P w K mg base CX0 7 _ _ ["some", "others"] (spTell C PM PY false bothB) := ok_both FB.fn T S.toPt B
  have GO : FnOk P w K mg base CX0 7 _ _ ["some", "others"] (spTell C PM PY true onlyB) := ok_only FO.fn T S.toPt B
  have GM : FnOk P w K mg base CX0 7 _ _ ["some"] (spManyD C PM PY) := ok_manyD FM.fn T S.toPm B FG bG gG
  have GQ : FnOk P w K mg base CX0 1 _ _ ["self", "other"] (spEqN C) := ok_eqN FQ T Z S.own
  refine F.ok scSumsR (fun vs H Q E h => ?_) (fun cdv A outer s H vs Q E hr h => ?_)
  · obtain ⟨p, q, xs, ys, ss, ts, rfl, _⟩ := h
    rfl
  · obtain ⟨p, q, xs, ys, ss, ts, rfl, tw, fw, hT, fin⟩ := h
    have nd := scSumsR.nd
    have hu := hr.units
    have hr2 : Room (1 + 1) _ := hr.mono (by decide)
    refine ⟨_, pss_cons (ps_par (i := 2) (j := 3) (by rfl) nd rfl rfl (by decide) rfl rfl (pa_cons (pe_call GO hr (by rfl) FO.gl FO.fn.kp FO.bd .nil pass0 (pa_cons (pv 0) (pa_cons (pv 1) pa_nil))) (pa_cons (pe_call GB hr (by rfl) FB.gl FB.fn.kp FB.bd .nil pass0 (pa_cons (pv 0) (pa_cons (pv 1) pa_nil))) pa_nil)) (by rfl))
      (pss_cons (ps_if (PW.pt (pw_or (pt_cmpR (r := rNeL C) (op_ne_all EC GQ hr2 bQ) (pe_call GE hr (by rfl) FE.gl FE.fn.kp FE.bd .nil pass0 (pa_cons (pv 2) (pa_cons (pv 3) pa_nil))) (pe_call GN hr (by rfl) FN.gl FN.fn.kp FN.bd .nil pass0 (pa_cons (pv 0) pa_nil)) (nomark _))
          (pw_or1 (pt_cmpR (r := rNeL C) (op_ne_all EC GQ hr2 bQ) (pe_call GE hr (by rfl) FE.gl FE.fn.kp FE.bd .nil pass0 (pa_cons (pv 2) (pa_cons (pv 1) pa_nil))) (pe_call GE hr (by rfl) FE.gl FE.fn.kp FE.bd .nil pass0 (pa_cons (pv 0) (pa_cons (pv 1) pa_nil))) (nomark _))))) (pss_one (ps_ret pe_bl)) pss_nil)
      (pss_cons (ps_if (pt_cmpR (r := rNeL C) (op_ne_all EC GQ hr2 bQ) (pe_call GN hr (by rfl) FN.gl FN.fn.kp FN.bd .nil pass0 (pa_cons (pe_op op_cat (pe_callTy call_list_of (by rfl) T.list (by decide +kernel) (pa_cons (pv 0) pa_nil)) (pe_callTy call_list_of (by rfl) T.list (by decide +kernel) (pa_cons (pv 1) pa_nil))) pa_nil))
          (pe_call GE hr (by rfl) FE.gl FE.fn.kp FE.bd .nil pass0 (pa_cons (pv 1) (pa_cons (pv 0) pa_nil))) (nomark _)) (pss_one (ps_ret pe_bl)) pss_nil)
      (pss_cons (ps_if (PW.pt (pw_or (pt_cmpR (op_neNil hu) (pe_call GB hr (by rfl) FB.gl FB.fn.kp FB.bd .nil pass0 (pa_cons (pv 2) (pa_cons (pe_call GO hr (by rfl) FO.gl FO.fn.kp FO.bd .nil pass0 (pa_cons (pv 1) (pa_cons (pv 0) pa_nil))) pa_nil))) (pe_lst pa_nil) (nomark _))
          (pw_or1 (pt_cmpR (op_neNil hu) (pe_call GO hr (by rfl) FO.gl FO.fn.kp FO.bd .nil pass0 (pa_cons (pv 0) (pa_cons (pv 0) pa_nil))) (pe_lst pa_nil) (nomark _))))) (pss_one (ps_ret pe_bl)) pss_nil)
      (pss_cons (ps_set (i := 4) nd rfl (.inl rfl) (pe_lst (pa_cons (pe_call GM hr (by rfl) FM.gl FM.fn.kp FM.bd .nil pass0 (pa_cons (pv 0) pa_nil)) (pa_cons (pe_call GM hr (by rfl) FM.gl FM.fn.kp FM.bd .nil pass0 (pa_cons (pv 1) pa_nil))
          (pa_cons (pe_call GM hr (by rfl) FM.gl FM.fn.kp FM.bd .nil pass0 (pa_cons (pe_call GE hr (by rfl) FE.gl FE.fn.kp FE.bd .nil pass0 (pa_cons (pv 0) (pa_cons (pv 1) pa_nil))) pa_nil)) (pa_cons (pe_call GM hr (by rfl) FM.gl FM.fn.kp FM.bd .nil pass0 (pa_cons (pv 3) pa_nil)) pa_nil))))))
      (pss_cons (ps_if (PW.pt (pw_or (pt_cmpR op_isN (pe_ix ix_list (pv 4) pe_int (fun _ _ => rfl)) pe_non (nomark _)) (pw_or1 (pt_cmpR op_isN (pe_ix ix_list (pv 4) pe_int (fun _ _ => rfl)) pe_non (nomark _)))))
          (pss_one (ps_ret (pe_and (pe_cmpR op_isN (pe_ix ix_list (pv 4) pe_int (fun _ _ => rfl)) pe_non (nomark _)) (pe_one (pe_or (pe_cmpR op_notN (pe_ix ix_list (pv 4) pe_int (fun _ _ => rfl)) pe_non (nomark _)) (pe_or (pe_cmpR op_notN (pe_ix ix_list (pv 4) pe_int (fun _ _ => rfl)) pe_non (nomark _)) (pe_one (pe_cmpR op_isN (pe_ix ix_list (pv 4) pe_int (fun _ _ => rfl)) pe_non (nomark _))))))))) pss_nil)
      (pss_cons (ps_if (PW.pt (pw_or (pt_cmpR op_isN (pe_ix ix_list (pv 4) pe_int (fun _ _ => rfl)) pe_non (nomark _)) (pw_or1 (pt_cmpR op_isN (pe_ix ix_list (pv 4) pe_int (fun _ _ => rfl)) pe_non (nomark _))))) (pss_one (ps_ret pe_bl)) pss_nil)
      (pss_one (ps_ret (pe_cmpR op_eq (pe_op op_add (pe_ix ix_list (pv 4) pe_int (fun _ _ => rfl)) (pe_ix ix_list (pv 4) pe_int (fun _ _ => rfl))) (pe_op op_add (pe_ix ix_list (pv 4) pe_int (fun _ _ => rfl)) (pe_ix ix_list (pv 4) pe_int (fun _ _ => rfl))) (nomark _)))))))))), ?_⟩
    have lr := fw.lr
    have lm := fw.lm
    have xl := tw.hx.length
    have yl := tw.hy.length
    have okS := tw.hx.rb
    have okT := tw.hy.rb
    obtain ⟨cS1, cS2⟩ := canOf_spec okS
    -- alone, shared
    refine ⟨_, rfl, _, rfl, p, q, xs, ys, ss, ts, rfl, tw.hp, tw.hq, tw.hx, tw.hy, by omega, by omega, fun _ => fw.bm, hT, fun a1 z1 L1 H1 n1 e1 T1 h1 sr1 as1 in1 ll1 => ?_⟩
    have tw1 := tw.ext e1
    refine ⟨_, rfl, _, rfl, p, q, xs, ys, ss, ts, rfl, tw1.hp, tw1.hq, tw1.hx, tw1.hy, by omega, by omega, nofun, T1, fun a2 z2 L2 H2 n2 e2 T2 h2 sr2 as2 in2 ll2 => ?_⟩
    refine ⟨_, _, rfl, ?_⟩
    have x2 := e1.trans e2
    have tw2 := tw.ext x2
    have g1 : H2 a1 = some (.lst z1) := e2 _ _ h1 nofun
    have q1 := sr1.ext e2
    have al : ∀ d, LD.insB L1 d = (LD.insB ss d && !LD.insB ts d) := fun d => insB_of (in1 d)
    have sh : ∀ d, LD.insB L2 d = (LD.insB ss d && LD.insB ts d) := fun d => insB_of (in2 d)
    have ok2 := sr2.rb
    clear in1 in2 n1 n2 h1 sr1 tw1 T1
    -- either(alone, shared) != days_in(some)
    refine ⟨_, rfl, _, rfl, a1, a2, z1, z2, L1, L2, rfl, .inl g1, .inl h2, q1, sr2, by omega, by omega, nofun, T2, fun a3 z3 L3 H3 n3 e3 T3 h3 sr3 as3 in3 ll3 => ?_⟩
    have x3 := x2.trans e3
    have tw3 := tw.ext x3
    refine ⟨_, rfl, p, xs, ss, rfl, tw3.hp, tw3.hx, by omega, T3, fun a4 z4 H4 n4 e4 T4 h4 sr4 => ?_⟩
    refine ne_rows (e4 _ _ h3 nofun) h4 (sr3.ext e4) sr4 (LD.asc_uniq as3 (LD.asc_of cS1) fun d => ?_) ?_
    · rw [in3, LD.ins_rev, cS2, ← LD.insB_iff, al, sh]
      show ((_ || _) = true) ↔ _
      cases LD.insB ss d <;> cases LD.insB ts d <;> decide
    refine ⟨_, rfl, iteF ?_⟩
    have x4 := x3.trans e4
    have tw4 := tw.ext x4
    have y4 := e3.trans e4
    have g1 := y4 _ _ g1 nofun
    have q1 := q1.ext y4
    have g2 := y4 _ _ h2 nofun
    have q2 := sr2.ext y4
    clear h2 sr2 n3 h3 sr3 as3 in3 ll3 tw3 T3 n4 h4 sr4 T2
    -- either(alone, others) != either(some, others)
    refine ⟨_, rfl, _, rfl, a1, q, z1, ys, L1, ts, rfl, .inl g1, tw4.hq, q1, tw4.hy, by omega, by omega, nofun, T4, fun a5 z5 L5 H5 n5 e5 T5 h5 sr5 as5 in5 ll5 => ?_⟩
    have x5 := x4.trans e5
    have tw5 := tw.ext x5
    refine ⟨_, rfl, _, rfl, p, q, xs, ys, ss, ts, rfl, tw5.hp, tw5.hq, tw5.hx, tw5.hy, by omega, by omega, nofun, T5, fun a6 z6 L6 H6 n6 e6 T6 h6 sr6 as6 in6 ll6 => ?_⟩
    refine ne_rows (e6 _ _ h5 nofun) h6 (sr5.ext e6) sr6 (LD.asc_uniq as5 as6 fun d => ?_) ?_
    · rw [in5, in6, al]
      show ((_ || _) = true) ↔ ((_ || _) = true)
      cases LD.insB ss d <;> cases LD.insB ts d <;> decide
    refine ⟨_, rfl, iteF ?_⟩
    have x6 := x5.trans e6
    have tw6 := tw.ext x6
    have y6 := e5.trans e6
    have g1 := y6 _ _ g1 nofun
    have q1 := q1.ext y6
    have g2 := y6 _ _ g2 nofun
    have q2 := q2.ext y6
    clear n5 h5 sr5 as5 in5 ll5 tw5 T5 n6 h6 sr6 as6 in6 ll6 tw4 T4
    -- days_in(list(some) + list(others)) != either(others, some)
    refine ⟨_, rfl, p, _, rfl, (tw6.hp.sq (K := K)), fun l1 nl1 => ?_⟩
    have s7 := same_upd (o := .lst xs) nl1
    have el1 := upd_same (H := H6) (a := l1) (o := .lst xs)
    generalize upd H6 l1 (.lst xs) = H7 at *
    have tw7 := tw6.ext (extN_same s7)
    refine ⟨_, rfl, q, _, rfl, (tw7.hq.sq (K := K)), fun l2 nl2 => ?_⟩
    have s8 := same_upd (o := .lst ys) nl2
    have el2 := upd_same (H := H7) (a := l2) (o := .lst ys)
    generalize upd H7 l2 (.lst ys) = H8 at *
    refine ⟨l1, l2, _, _, rfl, rfl, s8 _ _ el1, el2, Nat.le_of_lt (small1000 (by omega)), fun l3 nl3 => ?_⟩
    have s9 := same_upd (o := .lst (xs ++ ys)) nl3
    have el3 := upd_same (H := H8) (a := l3) (o := .lst (xs ++ ys))
    generalize upd H8 l3 (.lst (xs ++ ys)) = H9 at *
    have s69 := (s7.trans s8).trans s9
    have x9 := x6.trans (extN_same s69)
    have tw9 := tw.ext x9
    have T9 := T6.ext s69
    have hc9 : SRs C H9 (xs ++ ys) (ss ++ ts) := tw9.hx.append tw9.hy
    have okST := hc9.rb
    obtain ⟨cC1, cC2⟩ := canOf_spec okST
    refine ⟨l3, _, _, rfl, .inl el3, hc9, by rw [List.length_append]; omega, T9, fun a10 z10 H10 n10 e10 T10 h10 sr10 => ?_⟩
    have x10 := x9.trans e10
    have tw10 := tw.ext x10
    refine ⟨_, rfl, _, rfl, q, p, ys, xs, ts, ss, rfl, tw10.hq, tw10.hp, tw10.hy, tw10.hx, by omega, by omega, nofun, T10, fun a11 z11 L11 H11 n11 e11 T11 h11 sr11 as11 in11 ll11 => ?_⟩
    refine ne_rows (e11 _ _ h10 nofun) h11 (sr10.ext e11) sr11 (LD.asc_uniq (LD.asc_of cC1) as11 fun d => ?_) ?_
    · rw [in11, LD.ins_rev, cC2, ← LD.insB_iff, insB_app]
      show ((_ || _) = true) ↔ ((_ || _) = true)
      cases LD.insB ss d <;> cases LD.insB ts d <;> decide
    refine ⟨_, rfl, iteF ?_⟩
    have x11 := x10.trans e11
    have tw11 := tw.ext x11
    have y11 := ((extN_same s69).trans e10).trans e11
    have g1 := y11 _ _ g1 nofun
    have q1 := q1.ext y11
    have g2 := y11 _ _ g2 nofun
    have q2 := q2.ext y11
    clear n10 h10 sr10 tw10 T10 n11 h11 sr11 as11 in11 ll11 tw9 T9 tw7 nl1 nl2 nl3 el1 el2 el3 hc9 tw6 T6
    -- both(alone, only(others, some)) != []
    refine ⟨_, rfl, _, rfl, _, rfl, q, p, ys, xs, ts, ss, rfl, tw11.hq, tw11.hp, tw11.hy, tw11.hx, by omega, by omega, fun _ => fw.br, T11, fun a12 z12 L12 H12 n12 e12 T12 h12 sr12 as12 in12 ll12 => ?_⟩
    have i12 : ∀ d, LD.insB L12 d = (LD.insB ts d && !LD.insB ss d) := fun d => insB_of (in12 d)
    refine ⟨a1, a12, z1, z12, L1, L12, rfl, .inl (e12 _ _ g1 nofun), .inl h12, q1.ext e12, sr12, by omega, by omega, nofun, T12, fun a13 z13 L13 H13 n13 e13 T13 h13 sr13 as13 in13 ll13 => ?_⟩
    have nil13 := nil_of sr13 as13 fun d => by
      rw [in13, al, i12]
      show ((_ && _) = true) ↔ _
      cases LD.insB ss d <;> cases LD.insB ts d <;> decide
    subst nil13
    refine ⟨by show 0 ≤ sizeLine; decide, fun b13 nb13 => ⟨a13, b13, [], rfl, rfl, same_upd nb13 _ _ h13, upd_same, _, rfl, iteF ?_⟩⟩
    have s14 := same_upd (o := .lst []) nb13
    generalize upd H13 b13 (.lst []) = H14 at *
    have y14 := (e12.trans e13).trans (extN_same s14)
    have x14 := x11.trans y14
    have tw14 := tw.ext x14
    have T14 := T13.ext s14
    refine ⟨_, rfl, _, rfl, p, p, xs, xs, ss, ss, rfl, tw14.hp, tw14.hp, tw14.hx, tw14.hx, by omega, by omega, fun _ => fw.br, T14, fun a15 z15 L15 H15 n15 e15 T15 h15 sr15 as15 in15 ll15 => ?_⟩
    have nil15 := nil_of sr15 as15 fun d => by
      rw [in15]
      show ((_ && _) = true) ↔ _
      cases LD.insB ss d <;> decide
    subst nil15
    refine ⟨by show 0 ≤ sizeLine; decide, fun b15 nb15 => ⟨a15, b15, [], rfl, rfl, same_upd nb15 _ _ h15, upd_same, _, rfl, iteF ?_⟩⟩
    have s16 := same_upd (o := .lst []) nb15
    generalize upd H15 b15 (.lst []) = H16 at *
    have y16 := (y14.trans e15).trans (extN_same s16)
    have x16 := x11.trans y16
    have tw16 := tw.ext x16
    have T16 := T15.ext s16
    have g2 := y16 _ _ g2 nofun
    have q2 := q2.ext y16
    clear n12 h12 sr12 as12 in12 ll12 n13 h13 sr13 as13 in13 n15 h15 sr15 as15 in15 T12 T13 T14 T15 tw14 g1 q1 nb13 nb15
    -- the counts
    refine ⟨_, rfl, p, xs, ss, rfl, tw16.hp, tw16.hx, by omega, T16, fun m1 H17 e17 T17 hm1 hp1 => ?_⟩
    rw [can_eq okS hm1 hp1]
    have x17 := x16.trans e17
    have tw17 := tw.ext x17
    refine ⟨_, rfl, q, ys, ts, rfl, tw17.hq, tw17.hy, by omega, T17, fun m2 H18 e18 T18 hm2 hp2 => ?_⟩
    rw [can_eq okT hm2 hp2]
    have x18 := x17.trans e18
    have tw18 := tw.ext x18
    refine ⟨_, rfl, _, rfl, p, q, xs, ys, ss, ts, rfl, tw18.hp, tw18.hq, tw18.hx, tw18.hy, by omega, by omega, nofun, T18, fun a19 z19 L19 H19 n19 e19 T19 h19 sr19 as19 in19 ll19 => ?_⟩
    have ok19 := sr19.rb
    have i19 : ∀ d, LD.insB L19 d = (LD.insB ss d || LD.insB ts d) := fun d => insB_of (in19 d)
    refine ⟨a19, z19, L19, rfl, .inl h19, sr19, by omega, T19, fun m3 H20 e20 T20 hm3 hp3 => ?_⟩
    rw [can_eq ok19 hm3 hp3]
    have y20 := ((e17.trans e18).trans e19).trans e20
    have x20 := x16.trans y20
    refine ⟨_, rfl, a2, z2, L2, rfl, .inl (y20 _ _ g2 nofun), q2.ext y20, by omega, T20, fun m4 H21 e21 T21 hm4 hp4 => ?_⟩
    rw [can_eq ok2 hm4 hp4]
    have x21 := x20.trans e21
    have c4 := four okS okT ok19 ok2 i19 sh
    clear i19 sh ok19 ok2 okST al i12
    generalize cntR (canOf ss) = c0 at *
    generalize cntR (canOf ts) = c1 at *
    generalize cntR (canOf L19) = c2 at *
    generalize cntR (canOf L2) = c3 at *
    refine ⟨by show 4 ≤ sizeLine; decide, fun b nb => ?_⟩
    have s22 := same_upd (o := .lst [enc c0, enc c1, enc c2, enc c3]) nb
    have hb := upd_same (H := H21) (a := b) (o := .lst [enc c0, enc c1, enc c2, enc c3])
    have done := fin (upd H21 b (.lst [enc c0, enc c1, enc c2, enc c3])) (x21.trans (extN_same s22)) (T21.ext s22)
    generalize upd H21 b (.lst [enc c0, enc c1, enc c2, enc c3]) = H22 at *
    cases c4 with
    | all =>
      refine ⟨_, rfl, b, _, 0, _, rfl, rfl, SqL.of hb, rfl, rfl, _, rfl, iteT (iteT ?_)⟩
      refine ⟨_, rfl, b, _, 2, _, rfl, rfl, SqL.of hb, rfl, rfl, _, rfl, ?_⟩
      refine ⟨_, rfl, b, _, 0, _, rfl, rfl, SqL.of hb, rfl, rfl, _, rfl, ?_⟩
      refine ⟨_, rfl, b, _, 1, _, rfl, rfl, SqL.of hb, rfl, rfl, _, rfl, ?_⟩
      exact ⟨_, rfl, b, _, 3, _, rfl, rfl, SqL.of hb, rfl, rfl, done⟩
    | fst n c =>
      refine ⟨_, rfl, b, _, 0, _, rfl, rfl, SqL.of hb, rfl, rfl, _, rfl, iteT (iteT ?_)⟩
      refine ⟨_, rfl, b, _, 2, _, rfl, rfl, SqL.of hb, rfl, rfl, _, rfl, ?_⟩
      refine ⟨_, rfl, b, _, 0, _, rfl, rfl, SqL.of hb, rfl, rfl, _, rfl, ?_⟩
      exact ⟨_, rfl, b, _, 1, _, rfl, rfl, SqL.of hb, rfl, rfl, _, rfl, done⟩
    | snd n c =>
      refine ⟨_, rfl, b, _, 0, _, rfl, rfl, SqL.of hb, rfl, rfl, _, rfl, iteF ?_⟩
      refine ⟨_, rfl, b, _, 1, _, rfl, rfl, SqL.of hb, rfl, rfl, _, rfl, iteT ?_⟩
      refine ⟨_, rfl, b, _, 2, _, rfl, rfl, SqL.of hb, rfl, rfl, _, rfl, ?_⟩
      exact ⟨_, rfl, b, _, 0, _, rfl, rfl, SqL.of hb, rfl, rfl, _, rfl, done⟩
    | no i j k l e =>
      refine ⟨_, rfl, b, _, 0, _, rfl, rfl, SqL.of hb, rfl, rfl, _, rfl, iteF ?_⟩
      refine ⟨_, rfl, b, _, 1, _, rfl, rfl, SqL.of hb, rfl, rfl, _, rfl, iteF ?_⟩
      refine ⟨_, rfl, b, _, 2, _, rfl, rfl, SqL.of hb, rfl, rfl, _, rfl, iteF ?_⟩
      refine ⟨_, rfl, b, _, 3, _, rfl, rfl, SqL.of hb, rfl, rfl, _, rfl, iteF ?_⟩
      refine ⟨_, rfl, b, _, 0, _, rfl, rfl, SqL.of hb, rfl, _, rfl, b, _, 1, _, rfl, rfl, SqL.of hb, rfl, i, j, rfl, rfl, _, rfl, b, _, 2, _, rfl, rfl, SqL.of hb, rfl, _, rfl, b, _, 3, _, rfl, rfl, SqL.of hb, rfl, k, l, rfl, rfl, rfl, ?_⟩
      rw [decide_eq_true (show V.int (i + j) = V.int (k + l) by rw [e])]
      exact done
end
end K17

set_option Elab.async false
set_option linter.all false
set_option maxRecDepth 100000
set_option maxHeartbeats 3200000
namespace K17
open PySem PySem.Spec PyProof.Rows L2 LT LamX
abbrev nLaw : List Str := ["_law_script", "_law_k", "_law_pot_here", "_law_rows_here", "_law_more", "_law_day", "_law_some", "_law_others", "_law_days", "_law_first", "_law_last", "_law_parted_here"]
theorem scLaw : FnScope nLaw ["_law_script"] (defScope sLaw) := ⟨rfl, rfl, rfl, by decide +kernel, rfl, by decide +kernel, by decide +kernel⟩
theorem Pot.extN {H H' : Hp} {p : Addr} (h : Pot H p) (e : ExtN H H') : Pot H' p := by
  obtain ⟨a, b, hp, r⟩ := h
  exact ⟨a, b, e _ _ hp nofun, r⟩
theorem tabs_extB {T : List (Addr × Str)} {p : Addr} {H H' : Hp} (t : Tabs T H) (hp : Pot H p) (s : SameB p H H') : Tabs T H' := fun x hx => by
  obtain ⟨ps, h1, h2, h3⟩ := t x hx
  refine ⟨ps, s _ _ (ne_of_pot hp h1) h1, h2, fun pos cv hc => ?_⟩
  obtain ⟨c, e1, e2⟩ := h3 pos cv hc
  refine ⟨c, e1, s _ _ (ne_of_pot hp e2 fun a b z => ?_) e2⟩
  unfold CodeO at z
  cases z
theorem extN_B {p : Addr} {H H1 H2 : Hp} (n : H p = none) (e : ExtN H H1) (s : SameB p H1 H2) : ExtN H H2 := fun b o h t => s b o (ne_of_none h n) (e b o h t)
theorem Two.extB {C p q P0 : Addr} {H H' : Hp} {xs ys : List V} {rs ms : List Row} (t : Two C p q H xs ys rs ms) (hp : Pot H P0) (n1 : p ≠ P0) (n2 : q ≠ P0) (s : SameB P0 H H') : Two C p q H' xs ys rs ms :=
  ⟨t.hp.imp (s _ _ n1) (s _ _ n1), t.hq.imp (s _ _ n2) (s _ _ n2), t.hx.imp fun _ _ z => z.extB hp s, t.hy.imp fun _ _ z => z.extB hp s⟩
def lastsR (rs : List Row) : List Int := rs.filterMap (·.2)
theorem days_pos {rs : List Row} {day : Int} (d0 : 0 ≤ day) (ok : ∀ r ∈ rs, RBd r) : ∀ d ∈ [day] ++ marks rs ++ lastsR rs, 0 ≤ d := fun d hd => by
  have j0 : ∀ r ∈ rs, ∀ j, r.2 = some j → 0 ≤ j := fun r hr j e => by
    have h1 := (ok r hr).ok.1
    have h2 := (ok r hr).ok.2 j e
    omega
  rcases List.mem_append.mp hd with hd | hd
  · rcases List.mem_append.mp hd with hd | hd
    · rw [List.mem_singleton.mp hd]
      exact d0
    · unfold marks at hd
      rcases List.mem_append.mp hd with hd | hd
      · rcases List.mem_append.mp hd with hd | hd
        · rw [List.mem_singleton.mp hd]
          exact Int.le_refl _
        · obtain ⟨r, hr, rfl⟩ := List.mem_map.mp hd
          exact (ok r hr).ok.1
      · obtain ⟨r, hr, e⟩ := List.mem_filterMap.mp hd
        obtain ⟨j, ej, rfl⟩ := Option.map_eq_some_iff.mp e
        have := j0 r hr j ej
        omega
  · obtain ⟨r, hr, e⟩ := List.mem_filterMap.mp hd
    exact j0 r hr d e
section
variable {P : Program} {w : World} {K : PySem.W.Frag} {mg : Str → Option Value} {base : Heap} {C CN : Addr} {cM PM cY PY : Addr}
/-- the texts of a list of stretches -/
theorem repr_each {H : Hp} {vs : List V} {R : List Row} (h : SRs C H vs R) : ∀ (i : Nat) (v : V), vs[i]? = some v → ∃ (a dx : Addr) (fs : List (Str × V)) (t : Str), v = .ref a ∧ H a = some (.ins C dx fs) ∧ (R.map shownO)[i]? = some t ∧ spReprN C [.ref a] H (fun z H' => ∃ u, z = .str u ∧ z = .str t ∧ H' = H) E0 := fun i v ev => by
  obtain ⟨r, er, sr⟩ := h.at ev
  obtain ⟨x, dx, rfl, hx, _⟩ := sr.st
  exact ⟨x, dx, _, shownO r, rfl, hx, by rw [List.getElem?_map, er]; rfl, .ref x, r, rfl, sr, _, rfl, rfl, rfl⟩
def spLaw (K : PySem.W.Frag) (PM PY : Addr) : Sp := fun vs H Q _ => ∃ (a : Addr) (ns : List Int), vs = [.ref a] ∧ SqL K H a (ns.map V.int) ∧ ns.length ≤ 63 ∧ Tabs (TT2 PM PY) H ∧ ∀ H', Q (.bl true) H'
/-- all defs of the text -/
structure Fs (K : PySem.W.Frag) (mg : Str → Option Value) (C CN cM cY : Addr) : Prop extends Pv K mg C CN cM where
  cell : ∃ f fd, Has K mg "_law_cell" ["_law_script", "_law_k"] sCell f fd
  pot : ∃ f fd, Has K mg "_law_pot" ["_law_script", "_law_k"] sPot f fd
  take : ∃ f fd, TakeFn K mg f fd
  far : ∃ f fd, PotFn K mg "_law_far" sFar f fd
  rows : ∃ f fd, Has K mg "_law_rows" ["_law_pot_here", "_law_most"] sRows f fd
  handed : ∃ f fd, Has K mg "_law_handed" ["_law_pot_here", "_law_rows_here"] sHanded f fd
  lin : ∃ f fd, Has K mg "_law_in" ["_law_rows_here", "_law_day"] sIn f fd
  marks : ∃ f fd, Has K mg "_law_marks" ["_law_rows_here"] sMarks f fd
  hasL : ∃ f fd, Has K mg "_law_has" ["_law_told", "_law_day"] sHasL f fd
  daysR : ∃ f fd, Has K mg "_law_days_right" pDaysR sDaysR f fd
  sumsR : ∃ f fd, Has K mg "_law_sums_right" ["_law_some", "_law_others"] sSumsR f fd
  parted : ∃ f fd, Has K mg "_law_parted" ["_law_pot_here", "_law_rows_here"] sParted f fd
theorem ok_law {f : Addr} {fd : FuncData} (F : Fun K "law" "law" sLaw f fd) (T : Tx mg) (S : Fs K mg C CN cM cY) (B : Tb base mg cM PM cY PY) : FnG P w K mg base CX0 9 f fd ["_law_script"] (spLaw K PM PY) := by
  obtain ⟨_, _, FN⟩ := S.daysIn
  obtain ⟨_, _, EC, FQ, bQ⟩ := S.eq
  obtain ⟨_, _, FP'⟩ := S.repr
  obtain ⟨_, _, FC⟩ := S.cell
  obtain ⟨_, _, FP⟩ := S.pot
  obtain ⟨_, _, FT⟩ := S.take
  obtain ⟨_, _, FF⟩ := S.far
  obtain ⟨_, _, FR⟩ := S.rows
  obtain ⟨_, _, FH⟩ := S.handed
  obtain ⟨_, _, FI⟩ := S.lin
  obtain ⟨_, _, FK⟩ := S.marks
  obtain ⟨_, _, FL⟩ := S.hasL
  obtain ⟨_, _, FY⟩ := S.daysR
  obtain ⟨_, _, FU⟩ := S.sumsR
  obtain ⟨_, _, FA⟩ := S.parted
  have Z := S.ct
  have GN : FnOk P w K mg base CX0 7 _ _ ["some"] (spDaysIn C PM PY) := ok_daysIn FN.fn T S.toPt B
  have GQ : FnOk P w K mg base CX0 1 _ _ ["self", "other"] (spEqN C) := ok_eqN FQ T Z S.own
  have GZ : FnOk P w K mg base CX0 1 _ _ ["self"] (spReprN C) := ok_reprN FP'.fn Z
  have GP : FnOk P w K mg base CX0 2 _ _ ["_law_script", "_law_k"] (spPot K) := ok_pot FP.fn T FC.fn FC.bd FC.gl
  have GT : FnOk P w K mg base CX0 1 _ _ ["_law_pot_here", "_law_room"] spTake := ok_take FT.fn T
  have GF : FnOk P w K mg base CX0 2 _ _ ["_law_pot_here"] (spFar 0 (10 ^ 56)) := ok_far FF.fn T FT
  have GR : FnOk P w K mg base CX0 3 _ _ ["_law_pot_here", "_law_most"] spRows := ok_rows FR.fn T FT FF
  have GH : FnOk P w K mg base CX0 6 _ _ ["_law_pot_here", "_law_rows_here"] (spHanded C) := ok_handed FH.fn T S.toPm FT
  have GK : FnOk P w K mg base CX0 1 _ _ ["_law_rows_here"] spMarks := ok_marks FK.fn
  have GY : FnOk P w K mg base CX0 8 _ _ pDaysR (spDaysR C PM PY) := ok_daysR FY.fn T S.toPv B FI FL
  have GU : FnOk P w K mg base CX0 8 _ _ ["_law_some", "_law_others"] (spSumsR C PM PY) := ok_sumsR FU.fn T S.toPv B
  have GA : FnOk P w K mg base CX0 6 _ _ ["_law_pot_here", "_law_rows_here"] (spParted C) := ok_parted FA.fn T S.toPm FT
  refine okG F scLaw (fun h => ?_) (fun cdv A outer s H vs Q E hG hr h => ?_)
  · obtain ⟨a, ns, rfl, _⟩ := h
    rfl
  · obtain ⟨a, ns, rfl, hS, hlen, hT, q0⟩ := h
    have nd := scLaw.nd
    have hu := hr.units
    have hr1 : Room 1 _ := hr.mono (by decide)
    have hr2 : Room 2 _ := hr.mono (by decide)
    have hr3 : Room 3 _ := hr.mono (by decide)
    have hr5 : Room 5 _ := hr.mono (by decide)
    have hr6 : Room 6 _ := hr.mono (by decide)
    have hr7 : Room 7 _ := hr.mono (by decide)
    have hrq : Room (1 + 1) _ := hr.mono (by decide)
    have hrz : Room (1 + 3) _ := hr.mono (by decide)
    have hG2 : (cxOf CX0 P w K mg base nLaw "law" (defScope sLaw) f cdv A outer s H E).nox.A.guards = some [] := hG
    refine ⟨_, pss_cons (ps_for PassesOwn.never rfl (pi_range1 (by rfl) T.range (pa_cons (pe_callB (call_max2 rfl) (by rfl) T.max (by decide +kernel) (pa_cons pe_int (pa_cons
          (pe_callB (call_min2 rfl) (by rfl) T.min (by decide +kernel) (pa_cons (pe_callB call_len_seq (by rfl) T.len PySem.boot_len (pa_cons (pv 0) pa_nil)) (pa_cons pe_int pa_nil))) pa_nil))) pa_nil)) (pg_name (i := 1) nd rfl (.inl rfl))
        (pss_cons (ps_set (i := 2) nd rfl (.inl rfl) (pe_call GP hr2 (by rfl) FP.gl FP.fn.kp FP.bd .nil pass0 (pa_cons (pv 0) (pa_cons (pv 1) pa_nil))))
        (pss_cons (ps_par (i := 3) (j := 4) (by rfl) nd rfl rfl (by decide) rfl rfl (pa_cons (pe_call GR hr3 (by rfl) FR.gl FR.fn.kp FR.bd .nil pass0 (pa_cons (pv 2) (pa_cons pe_int pa_nil))) (pa_cons (pe_call GR hr3 (by rfl) FR.gl FR.fn.kp FR.bd .nil pass0 (pa_cons (pv 2) (pa_cons pe_int pa_nil))) pa_nil)) (by rfl))
        (pss_cons (ps_set (i := 5) nd rfl (.inl rfl) (pe_ix ix_list (pe_lst (pa_cons (pe_call GT hr1 (by rfl) FT.gl FT.fn.kp FT.bd .nil pass0 (pa_cons (pv 2) (pa_cons pe_int pa_nil))) (pa_cons (pe_call GF hr2 (by rfl) FF.gl FF.fn.kp FF.bd .nil pass0 (pa_cons (pv 2) pa_nil)) pa_nil))) (pe_call GT hr1 (by rfl) FT.gl FT.fn.kp FT.bd .nil pass0 (pa_cons (pv 2) (pa_cons pe_int pa_nil))) (fun _ _ => rfl)))
        (pss_cons (ps_par (i := 6) (j := 7) (by rfl) nd rfl rfl (by decide) rfl rfl (pa_cons (pe_call GH hr6 (by rfl) FH.gl FH.fn.kp FH.bd .nil pass0 (pa_cons (pv 2) (pa_cons (pv 3) pa_nil))) (pa_cons (pe_call GH hr6 (by rfl) FH.gl FH.fn.kp FH.bd .nil pass0 (pa_cons (pv 2) (pa_cons (pv 4) pa_nil))) pa_nil)) (by rfl))
        (pss_cons (ps_set (i := 8) nd rfl (.inl rfl) (pe_op op_cat (pe_op op_cat (pe_lst (pa_cons (pv 5) pa_nil)) (pe_call GK hr1 (by rfl) FK.gl FK.fn.kp FK.bd .nil pass0 (pa_cons (pe_op op_cat (pv 3) (pv 4)) pa_nil)))
            (pe_lc (own := [("_law_first", 9), ("_law_last", 10)]) (g := gTup K 2 (gCons (gName 9) (gCons (gName 10) gNil))) rfl nd (pi_list (pe_op op_cat (pv 3) (pv 4))) (blkOk_by (N := nLaw) (sc := defScope sLaw) (by decide +kernel))
              (fun _ _ _ _ _ => pg_tup rfl (pgs_cons (pg_name (i := 9) nd rfl (Or.inl rfl)) (pgs_cons (pg_name (i := 10) nd rfl (Or.inl rfl)) pgs_nil))) (fun _ _ _ _ _ => pts_one (pt_cmpR op_notN (pv 10) pe_non (nomark _))) (fun _ _ _ _ _ => pv 10))))
        (pss_cons (ps_if (PW.pt (pw_or (pt_not (pt_val (pe_call GY hr (by rfl) FY.gl FY.fn.kp FY.bd .nil pass0 (pa_cons (pv 6) (pa_cons (pv 7) (pa_cons (pv 3) (pa_cons (pv 4) (pa_cons (pv 8) pa_nil))))))))
            (pw_or1 (pt_not (pt_val (pe_call GU hr (by rfl) FU.gl FU.fn.kp FU.bd .nil pass0 (pa_cons (pv 6) (pa_cons (pv 7) pa_nil)))))))) (pss_one (ps_ret pe_bl)) pss_nil)
        (pss_cons (ps_set (i := 11) nd rfl (.inl rfl) (pe_call GA hr6 (by rfl) FA.gl FA.fn.kp FA.bd .nil pass0 (pa_cons (pv 2) (pa_cons (pv 3) pa_nil))))
        (pss_one (ps_if (PW.pt (pw_or (pt_cmpR (r := rNeL C) (op_ne_all EC GQ hrq bQ) (pe_call GN hr7 (by rfl) FN.gl FN.fn.kp FN.bd .nil pass0 (pa_cons (pv 11) pa_nil)) (pe_call GN hr7 (by rfl) FN.gl FN.fn.kp FN.bd .nil pass0 (pa_cons (pv 6) pa_nil)) (nomark _))
            (pw_or1 (pt_cmpR op_ne (pe_callB (call_reprL FP'.me.at_ FP'.me.fn GZ hG2 hrz FP'.bd) (by rfl) T.repr (by decide +kernel) (pa_cons (pe_call GN hr7 (by rfl) FN.gl FN.fn.kp FN.bd .nil pass0 (pa_cons (pv 11) pa_nil)) pa_nil))
              (pe_callB (call_reprL FP'.me.at_ FP'.me.fn GZ hG2 hrz FP'.bd) (by rfl) T.repr (by decide +kernel) (pa_cons (pe_call GN hr7 (by rfl) FN.gl FN.fn.kp FN.bd .nil pass0 (pa_cons (pv 6) pa_nil)) pa_nil)) (nomark _))))) (pss_one (ps_ret pe_bl)) pss_nil))))))))))
      (pss_one (ps_ret pe_bl)), ?_⟩
    refine ⟨_, rfl, a, _, rfl, .inl hS, _, _, rfl, _, _, rfl, ?_⟩
    generalize hN : (if (if (10 : Int) < ((ns.map V.int).length : Nat) then (10 : Int) else ((ns.map V.int).length : Nat)) > 1 then (if (10 : Int) < ((ns.map V.int).length : Nat) then (10 : Int) else ((ns.map V.int).length : Nat)) else 1) = N
    have hN1 : 1 ≤ N ∧ N ≤ 10 := by
      rw [← hN]
      split <;> (try split) <;> omega
    refine ⟨N, rfl, by omega, by omega, for_range (lo := 0) (n := N.toNat) (fun i σ H' => ∃ x1 x2 x3 x4 x5 x6 x7 x8 x11, σ = [some (.ref a), x1, x2, x3, x4, x5, x6, x7, x8, none, none, x11] ∧ ExtN H H' ∧ Tabs (TT2 PM PY) H') ⟨none, none, none, none, none, none, none, none, none, rfl, ExtN.refl H, hT⟩ ?_ ?_⟩
    · rintro i σ H1 hi ⟨x1, x2, x3, x4, x5, x6, x7, x8, x11, rfl, eN, tN⟩
      refine ⟨_, rfl, _, rfl, a, ns, i, (by rw [Int.zero_add]; rfl), extN_seqL eN hS, by omega, fun po H2 np s2 hp2 => ?_⟩
      refine ⟨_, rfl, po, 10, rfl, hp2, by decide, by decide, fun rp zs rs H3 nrp nrpp hrp hz hrl hp3 sb3 => ?_⟩
      refine ⟨_, rfl, po, 10, rfl, hp3, by decide, by decide, fun mp us ms H4 nmp nmpp hmp hus hml hp4 sb4 => ?_⟩
      refine ⟨_, _, rfl, ?_⟩
      have hrl : rs.length ≤ 10 := by omega
      have hml : ms.length ≤ 10 := by omega
      refine ⟨_, rfl, po, 60, rfl, hp4, by decide, by decide, fun dA H5 dA0 _ hp5 sb5 => ?_⟩
      refine ⟨_, rfl, po, rfl, hp5, fun dB H6 dB0 _ hp6 sb6 => ?_⟩
      refine ⟨by show 2 ≤ sizeLine; decide, fun dl ndl => ?_⟩
      have s7 := same_upd (o := .lst [V.int dA, V.int dB]) ndl
      have hdl := upd_same (H := H6) (a := dl) (o := .lst [V.int dA, V.int dB])
      have ndp : dl ≠ po := hp6.ne ndl
      generalize upd H6 dl (.lst [V.int dA, V.int dB]) = H7 at *
      have hp7 := hp6.mono s7
      refine ⟨_, rfl, po, 2, rfl, hp7, by decide, by decide, fun t H8 t0 t2 hp8 sb8 => ?_⟩
      obtain ⟨day, day0, hat⟩ : ∃ day, 0 ≤ day ∧ atI [V.int dA, V.int dB] t = some (V.int day) := by
        rcases (by omega : t = 0 ∨ t = 1) with rfl | rfl
        · exact ⟨dA, dA0, rfl⟩
        · exact ⟨dB, dB0, rfl⟩
      refine ⟨dl, _, t, _, rfl, rfl, SqL.of (sb8 _ _ ndp hdl), hat, ?_⟩
      have sb48 : SameB po H4 H8 := ((sb5.trans sb6).trans (SameB.of s7)).trans sb8
      have hrp8 := sb48 _ _ nrpp (sb4 _ _ nrpp hrp)
      have hz8 : TRs H8 zs rs := (hz.imp fun _ _ z => z.extB hp3 sb4).imp fun _ _ z => z.extB hp4 sb48
      have hmp8 := sb48 _ _ nmpp hmp
      have hu8 : TRs H8 us ms := hus.imp fun _ _ z => z.extB hp4 sb48
      have sb18 : SameB po H1 H8 := (((SameB.of s2).trans sb3).trans sb4).trans sb48
      clear hdl ndl ndp s7 hp5 hp6 hp7 sb5 sb6 hat
      refine ⟨_, rfl, _, rfl, po, rp, zs, rs, rfl, hp8, hrp8, hz8, by omega, fun p xs ss H9 nP npp hp9' hx9 hm9 _ hl9 hp9 sb9 => ?_⟩
      have hmp9 := sb9 _ _ nmpp hmp8
      have hu9 : TRs H9 us ms := hu8.imp fun _ _ z => z.extB hp8 sb9
      refine ⟨_, rfl, _, rfl, po, mp, us, ms, rfl, hp9, hmp9, hu9, by omega, fun q ys ts H10 nQ nqp hq10 hy10 hm10 _ hl10 hp10 sb10 => ?_⟩
      refine ⟨_, _, rfl, ?_⟩
      have sb910 := sb9.trans sb10
      have hrp10 := sb910 _ _ nrpp hrp8
      have hz10 : TRs H10 zs rs := hz8.imp fun _ _ z => z.extB hp8 sb910
      have hmp10 := sb910 _ _ nmpp hmp8
      have hu10 : TRs H10 us ms := hu8.imp fun _ _ z => z.extB hp8 sb910
      have tw10 : Two C p q H10 xs ys ss ts := ⟨hp9'.imp (sb10 _ _ npp) (sb10 _ _ npp), hq10, hx9.imp fun _ _ z => z.extB hp9 sb10, hy10⟩
      have sb110 := sb18.trans sb910
      have sm10 : Same H1 H10 := sameB_new np (Same.refl _) sb110
      have T10 := tN.ext sm10
      have okr := hz10.rb
      have okm := hu10.rb
      have fw : Few ss ts := ⟨by omega, by omega, fun r hr j ej => by
        have := (okr r ((hm9 r).mp hr)).b2 j ej
        omega, fun r hr j ej => by
        have := (okm r ((hm10 r).mp hr)).b2 j ej
        omega⟩
      clear nrp nmp hrp hz hmp hus hrp8 hz8 hmp8 hu8 hmp9 hu9 hp9' hx9 hq10 hy10 nP nQ hp2 hp3 hp4 s2 sb3 sb4 sb8 sb48 sb18 sb9 sb10 sb910
      -- the days
      refine ⟨_, rfl, by show 1 ≤ sizeLine; decide, fun l1 nl1 => ?_⟩
      have s11 := same_upd (o := .lst [V.int day]) nl1
      have hl1 := upd_same (H := H10) (a := l1) (o := .lst [V.int day])
      generalize upd H10 l1 (.lst [V.int day]) = H11 at *
      have zl := hz10.length
      have ul := hu10.length
      refine ⟨_, rfl, _, rfl, rp, mp, _, _, rfl, rfl, s11 _ _ hrp10, s11 _ _ hmp10, Nat.le_of_lt (small1000 (by omega)), fun l2 nl2 => ?_⟩
      have s12 := same_upd (o := .lst (zs ++ us)) nl2
      have hl2 := upd_same (H := H11) (a := l2) (o := .lst (zs ++ us))
      generalize upd H11 l2 (.lst (zs ++ us)) = H12 at *
      have s112 := s11.trans s12
      have hc12 : TRs H12 (zs ++ us) (rs ++ ms) := (hz10.append hu10).imp fun _ _ z => z.ext (extN_same s112)
      refine ⟨l2, _, _, rfl, hl2, hc12, by rw [List.length_append]; omega, fun l3 H13 nl3 s13 hl3 => ?_⟩
      have s113 := s112.trans s13
      have ml := marks_len (rs ++ ms)
      have al : (rs ++ ms).length = rs.length + ms.length := List.length_append
      refine ⟨l1, l3, _, _, rfl, rfl, (s12.trans s13) _ _ hl1, hl3, Nat.le_of_lt (small1000 (by rw [List.length_map]; show 1 + _ ≤ 1000; omega)), fun l4 nl4 => ?_⟩
      have s14 := same_upd (o := .lst ([V.int day] ++ (marks (rs ++ ms)).map V.int)) nl4
      have hl4 := upd_same (H := H13) (a := l4) (o := .lst ([V.int day] ++ (marks (rs ++ ms)).map V.int))
      generalize upd H13 l4 (.lst ([V.int day] ++ (marks (rs ++ ms)).map V.int)) = H14 at *
      have s114 := s113.trans s14
      refine ⟨_, rfl, _, rfl, rp, mp, _, _, rfl, rfl, s114 _ _ hrp10, s114 _ _ hmp10, Nat.le_of_lt (small1000 (by omega)), fun l5 nl5 => ?_⟩
      have s15 := same_upd (o := .lst (zs ++ us)) nl5
      have hl5 := upd_same (H := H14) (a := l5) (o := .lst (zs ++ us))
      generalize upd H14 l5 (.lst (zs ++ us)) = H15 at *
      have s115 := s114.trans s15
      have hc15 : TRs H15 (zs ++ us) (rs ++ ms) := (hz10.append hu10).imp fun _ _ z => z.ext (extN_same s115)
      refine ⟨l5, rfl, ⟨_, SqL.of hl5⟩, fun D nD => ?_⟩
      refine lc_list (K := K) (a := l5) (xs := zs ++ us) (fun i H' => Same H15 H' ∧ H' D = some (.lst ((lastsR ((rs ++ ms).take i)).map V.int))) ⟨same_upd nD, upd_same⟩ (fun i H' _ h => h.1.seq (SqL.of hl5)) ?_ ?_
      · rintro i v H16 hv ⟨sm, hD⟩
        obtain ⟨⟨b, x⟩, er, tr⟩ := hc15.at hv
        obtain ⟨rb, t, rfl, ht⟩ := tr.ext (extN_same sm)
        refine ⟨t, _, rfl, SqT.of ht, rfl, _, _, rfl, _, _, rfl, rfl, rfl, _, rfl, rfl, _, rfl, ?_⟩
        cases x with
        | none =>
          refine iteF ⟨sm, ?_⟩
          rw [hD, List.take_add_one, er]
          unfold lastsR
          rw [List.filterMap_append]
          rw [show ((some (b, none) : Option Row).toList.filterMap fun r => r.2) = [] from rfl, List.append_nil]
        | some j =>
          refine iteT ⟨_, rfl, _, hD, ?_, fun b o e => ?_, ?_⟩
          · rw [List.length_map]
            have := fm_len (fun r : Row => r.2) ((rs ++ ms).take i)
            rw [List.length_take] at this
            exact small1000 (by show (List.filterMap _ _).length ≤ _; omega)
          · rw [upd_ne (ne_of_none e nD)]
            exact sm b o e
          · rw [upd_same, List.take_add_one, er]
            unfold lastsR
            rw [List.filterMap_append, List.map_append]
            rfl
      rintro H16 ⟨s16, hD⟩
      rw [List.take_of_length_le (by rw [← hc15.length]; exact Nat.le_refl _)] at hD
      have ll := fm_len (fun r : Row => r.2) (rs ++ ms)
      refine ⟨l4, D, _, _, rfl, rfl, (s15.trans s16) _ _ hl4, hD, Nat.le_of_lt (small1000 (by rw [List.length_append, List.length_map, List.length_map]; show 1 + _ + (List.filterMap _ _).length ≤ 1000; omega)), fun dp ndp => ?_⟩
      have s17 := same_upd (o := .lst ([V.int day] ++ (marks (rs ++ ms)).map V.int ++ (lastsR (rs ++ ms)).map V.int)) ndp
      have hdp := upd_same (H := H16) (a := dp) (o := .lst ([V.int day] ++ (marks (rs ++ ms)).map V.int ++ (lastsR (rs ++ ms)).map V.int))
      generalize upd H16 dp (.lst ([V.int day] ++ (marks (rs ++ ms)).map V.int ++ (lastsR (rs ++ ms)).map V.int)) = H17 at *
      have hdp : H17 dp = some (.lst (([day] ++ marks (rs ++ ms) ++ lastsR (rs ++ ms)).map V.int)) := by
        rw [hdp, List.map_append, List.map_append]
        rfl
      have s117 := (s115.trans s16).trans s17
      have y17 := extN_same s117
      have dpos := days_pos (rs := rs ++ ms) day0 fun r hr => (List.mem_append.mp hr).elim (okr r) (okm r)
      generalize [day] ++ marks (rs ++ ms) ++ lastsR (rs ++ ms) = ds at *
      have T17 := T10.ext s117
      have tw17 := tw10.ext y17
      clear nl1 hl1 nl2 hl2 hc12 nl3 s13 hl3 nl4 hl4 nl5 hl5 hc15 nD hD ndp s11 s12 s112 s113 s14 s114 s15 s115 s16 s17 ml ll
      -- days right, sums right
      refine ⟨_, rfl, _, rfl, _, rfl, _, rfl, _, rfl, p, q, rp, mp, dp, xs, ys, zs, us, ss, ts, rs, ms, ds, rfl, tw17, fw, s117 _ _ hrp10, hz10.imp fun _ _ z => z.ext y17, by omega, s117 _ _ hmp10, hu10.imp fun _ _ z => z.ext y17, by omega, hm9, hm10, hdp, dpos, T17, fun H18 e18 T18 => ?_⟩
      refine ⟨_, rfl, ?_⟩
      have y18 := y17.trans e18
      have tw18 := tw10.ext y18
      refine ⟨_, rfl, _, rfl, p, q, xs, ys, ss, ts, rfl, tw18, fw, T18, fun H19 e19 T19 => ?_⟩
      refine ⟨_, rfl, iteF ?_⟩
      have y19 := y18.trans e19
      have tw19 := tw10.ext y19
      have hp19 := hp10.extN y19
      have hrp19 := y19 _ _ hrp10 nofun
      have hz19 : TRs H19 zs rs := hz10.imp fun _ _ z => z.ext y19
      -- parted
      refine ⟨_, rfl, _, rfl, po, rp, zs, rs, rfl, hp19, hrp19, hz19, nrpp, by omega, fun pa vs R H20 npa hp20 sb20 hpa hv iR lR => ?_⟩
      have tw20 := tw19.extB hp19 npp nqp sb20
      have T20 := tabs_extB T19 hp19 sb20
      have x19 : ExtN H1 H19 := (extN_same sm10).trans y19
      have x20 : ExtN H1 H20 := extN_B np x19 sb20
      have okS := tw10.hx.rb
      have okR := hv.rb
      have cc : canOf R = canOf ss := canOf_congr okR okS fun d => by
        rw [iR]
        exact (ins_mem hm9 d).symm
      have cl := (canOf_rb okS).2
      have lr := fw.lr
      refine ⟨_, rfl, pa, vs, R, rfl, .inl hpa, hv, by omega, T20, fun a21 z21 H21 n21 e21 T21 h21 sr21 => ?_⟩
      have tw21 := tw20.ext e21
      refine ⟨_, rfl, p, xs, ss, rfl, tw21.hp, tw21.hx, by omega, T21, fun a22 z22 H22 n22 e22 T22 h22 sr22 => ?_⟩
      refine ne_rows (e22 _ _ h21 nofun) h22 (sr21.ext e22) sr22 (by rw [cc]) ?_
      refine ⟨_, rfl, iteF ?_⟩
      have y22 := e21.trans e22
      refine ⟨_, rfl, pa, vs, R, rfl, .inl (y22 _ _ hpa nofun), hv.ext y22, by omega, T22, fun a23 z23 H23 n23 e23 T23 h23 sr23 => ?_⟩
      refine ⟨a23, z23, _, rfl, h23, by rw [List.length_map, sr23.length], repr_each sr23, text_fits sr23.rb (by rw [cc, List.length_reverse]; omega), ?_⟩
      have y23 := y22.trans e23
      have tw23 := tw20.ext y23
      refine ⟨_, rfl, p, xs, ss, rfl, tw23.hp, tw23.hx, by omega, T23, fun a24 z24 H24 n24 e24 T24 h24 sr24 => ?_⟩
      refine ⟨a24, z24, _, rfl, h24, by rw [List.length_map, sr24.length], repr_each sr24, text_fits sr24.rb (by rw [List.length_reverse]; omega), ?_⟩
      refine ⟨rfl, _, rfl, ?_⟩
      rw [cc, ne_self]
      refine iteF ?_
      exact ⟨_, _, _, _, _, _, _, _, _, rfl, eN.trans (x20.trans (y23.trans e24)), T24⟩
    · rintro σ H1 ⟨x1, x2, x3, x4, x5, x6, x7, x8, x11, rfl, eN, tN⟩
      exact q0 H1
end
end K17

set_option Elab.async false
set_option linter.all false
set_option maxRecDepth 100000
set_option maxHeartbeats 3200000
namespace K17
open PySem PySem.Spec PyProof.Rows L2 LT LamX
/-- what the top has left of a def -/
structure Left (K : PySem.W.Frag) (x : Str) (st : Stmt) (f : Addr) (oc : Value) (od an : Option Addr) (kV dc pm cd ct : Value) (sl : Array (Option Value)) : Prop where
  ns : PySem.W.nsIn K mainGlobals x = some (some (.ref f))
  lk : K.lookup f = some ⟨oc, od, .func (PySem.W.fnOf x x (defArgs st) (defBody st) (defScope st) .none kV dc pm an cd ct), sl⟩
  cd : PySem.W.codeIn K cd x = true
  kp : PySem.W.keepIn K (.ref f) = true
theorem Left.fn {K : PySem.W.Frag} {x : Str} {st : Stmt} {f : Addr} {oc : Value} {od an : Option Addr} {kV dc pm cd ct : Value} {sl : Array (Option Value)} (h : Left K x st f oc od an kV dc pm cd ct sl) :
    Fun K x x st f (PySem.W.fnOf x x (defArgs st) (defBody st) (defScope st) .none kV dc pm an cd ct) := fun_mk h.lk h.cd h.kp
/-- what the top has left of a def that makes a lambda -/
structure LeftL (K : PySem.W.Frag) (x : Str) (st : Stmt) (f c P : Addr) (oc : Value) (od an : Option Addr) (kV dc pm ct : Value) (sl : Array (Option Value)) (oC : Value) (dC : Option Addr) (vC : Array Value) (sC : Array (Option Value)) : Prop where
  ns : PySem.W.nsIn K mainGlobals x = some (some (.ref f))
  lk : K.lookup f = some ⟨oc, od, .func (PySem.W.fnOf x x (defArgs st) (defBody st) (defScope st) .none kV dc pm an (.ref c) ct), sl⟩
  cd : PySem.W.codeIn K (.ref c) x = true
  kp : PySem.W.keepIn K (.ref f) = true
  lC : K.lookup c = some ⟨oC, dC, .fields vC, sC⟩
  vP : vC[11]? = some (.ref P)
  hd : PySem.W.codeHdIn K c P = true
  nP : K.lookup P = none
theorem LeftL.fn {K : PySem.W.Frag} {x : Str} {st : Stmt} {f c P : Addr} {oc : Value} {od an : Option Addr} {kV dc pm ct : Value} {sl : Array (Option Value)} {oC : Value} {dC : Option Addr} {vC : Array Value} {sC : Array (Option Value)} (h : LeftL K x st f c P oc od an kV dc pm ct sl oC dC vC sC) :
    FunC K x x st f c (PySem.W.fnOf x x (defArgs st) (defBody st) (defScope st) .none kV dc pm an (.ref c) ct) := ⟨⟨oc, od, kV, dc, pm, an, ct, sl, rfl, h.lk, h.cd⟩, h.kp⟩
/-- what the top has left of a method -/
structure LeftM (K : PySem.W.Frag) (C : Addr) (x q : Str) (st : Stmt) (f : Addr) (oc : Value) (od an : Option Addr) (kV dc pm cd ct : Value) (sl : Array (Option Value)) : Prop where
  at_ : PySem.W.findIn K (.ref C) x = some (some (.ref f))
  lk : K.lookup f = some ⟨oc, od, .func (PySem.W.fnOf x q (defArgs st) (defBody st) (defScope st) .none kV dc pm an cd ct), sl⟩
  cd : PySem.W.codeIn K cd q = true
  kp : PySem.W.keepIn K (.ref f) = true
  isf : PySem.W.isFn K (.ref f) = true
theorem LeftM.fn {K : PySem.W.Frag} {C : Addr} {x q : Str} {st : Stmt} {f : Addr} {oc : Value} {od an : Option Addr} {kV dc pm cd ct : Value} {sl : Array (Option Value)} (h : LeftM K C x q st f oc od an kV dc pm cd ct sl) :
    Fun K x q st f (PySem.W.fnOf x q (defArgs st) (defBody st) (defScope st) .none kV dc pm an cd ct) := fun_mk h.lk h.cd h.kp
theorem LeftM.me {K : PySem.W.Frag} {C : Addr} {x q : Str} {st : Stmt} {f : Addr} {oc : Value} {od an : Option Addr} {kV dc pm cd ct : Value} {sl : Array (Option Value)} (h : LeftM K C x q st f oc od an kV dc pm cd ct sl) :
    Meth K C x f := ⟨h.at_, h.isf, h.kp⟩
/-- what the top has left of __init__ -/
structure LeftI (K : PySem.W.Frag) (C : Addr) (f T : Addr) (oc : Value) (od an : Option Addr) (kV dc pm cd ct : Value) (sl : Array (Option Value)) (oT : Value) (dT : Option Addr) (nT : Nat) (sT : Array (Option Value)) : Prop where
  at_ : PySem.W.findIn K (.ref C) "__init__" = some (some (.ref f))
  lk : K.lookup f = some ⟨oc, od, .func (PySem.W.fnOf "__init__" "Stretch.__init__" (defArgs sInit) (defBody sInit) (defScope sInit) (.ref T) kV dc pm an cd ct), sl⟩
  cd : PySem.W.codeIn K cd "Stretch.__init__" = true
  kp : PySem.W.keepIn K (.ref f) = true
  isf : PySem.W.isFn K (.ref f) = true
  lT : K.lookup T = some ⟨oT, dT, .seq #[.none] nT, sT⟩
  mks : PySem.W.makesIn K C = true
theorem LeftI.fn {K : PySem.W.Frag} {C f T : Addr} {oc : Value} {od an : Option Addr} {kV dc pm cd ct : Value} {sl : Array (Option Value)} {oT : Value} {dT : Option Addr} {nT : Nat} {sT : Array (Option Value)} (h : LeftI K C f T oc od an kV dc pm cd ct sl oT dT nT sT) :
    InitFn K f (PySem.W.fnOf "__init__" "Stretch.__init__" (defArgs sInit) (defBody sInit) (defScope sInit) (.ref T) kV dc pm an cd ct) :=
  ⟨⟨oc, od, .ref T, kV, dc, pm, an, cd, ct, sl, rfl, h.lk, h.cd, .inr ⟨nofun, T, _, [.none], nT, rfl, h.lT, rfl, .cons rfl .nil⟩, .inl rfl⟩, h.kp⟩
theorem kit_self {K : PySem.W.Frag} {a : Addr} : PySem.W.kitOne K (.ref a) (.ref a) = some true := if_pos (c := ((Value.ref a) == (Value.ref a)) = true) (beq_self_eq_true (Value.ref a))
theorem cls_of {K : PySem.W.Frag} {t : Value} {C : Addr} {b : Bool} (i : PySem.W.isClsIn K C = true) (ty : PySem.W.typeIn K (.ref C) = some (.type "type")) (s : PySem.W.subIn K t (.ref C) = some b) : PySem.W.kitCls K t (.ref C) = some b := by
  have i' : (PySem.W.clsIn K C).isSome = true := i
  show (if ((PySem.W.clsIn K C).isSome && PySem.W.typeIn K (.ref C) == some (.type "type")) = true then PySem.W.subIn K t (.ref C) else none) = some b
  rw [i', ty]
  exact s
theorem kit_yes {K : PySem.W.Frag} {t : Value} {C : Addr} (i : PySem.W.isClsIn K C = true) (ty : PySem.W.typeIn K (.ref C) = some (.type "type")) (s : PySem.W.subIn K t (.ref C) = some true) : PySem.W.kitOne K t (.ref C) = some true := by
  unfold PySem.W.kitOne
  split
  · rfl
  · exact cls_of i ty s
theorem kit_no {K : PySem.W.Frag} {t : Value} {C : Addr} (i : PySem.W.isClsIn K C = true) (ty : PySem.W.typeIn K (.ref C) = some (.type "type")) (s : PySem.W.subIn K t (.ref C) = some false) (q : (t == .ref C) = false) : PySem.W.kitOne K t (.ref C) = some false := by
  unfold PySem.W.kitOne
  rw [q]
  exact cls_of i ty s
theorem kit_ve {K : PySem.W.Frag} {D : Addr} (s : PySem.W.subIn K (.ref D) (.type "ValueError") = some true) : PySem.W.kitOne K (.ref D) (.type "ValueError") = some true := by
  unfold PySem.W.kitOne
  split
  · rfl
  · show (if PySem.W.kitMeta "ValueError" = true then PySem.W.subIn K (.ref D) (.type "ValueError") else none) = some true
    rw [show PySem.W.kitMeta "ValueError" = true by decide +kernel]
    exact s
theorem exm_yes {K : PySem.W.Frag} {t : Value} {C : Addr} (b : PySem.W.subIn K (.ref C) (.type "BaseException") = some true) (i : PySem.W.isClsIn K C = true) (ty : PySem.W.typeIn K (.ref C) = some (.type "type")) (s : PySem.W.subIn K t (.ref C) = some true) : PySem.W.exmOne K t (.ref C) = some true := by
  unfold PySem.W.exmOne
  rw [b]
  exact cls_of i ty s
/-- what the top has left of the classes -/
structure LeftC (K : PySem.W.Frag) (C CN : Addr) : Prop where
  nC : PySem.W.nsIn K mainGlobals "Stretch" = some (some (.ref C))
  n_NoDay : PySem.W.nsIn K mainGlobals "NoDay" = some (some (.ref CN))
  pg : PySem.W.plainGet K C Str.empty = true
  hd : PySem.W.hasDictIn K C = true
  po : PySem.W.plainOver K C = true
  sa : PySem.W.findIn K (.ref C) "__setattr__" = some (some (.builtin "object.__setattr__"))
  nF : PySem.W.findIn K (.ref C) "first_day" = some none
  nL : PySem.W.findIn K (.ref C) "last_day" = some none
  kC : PySem.W.keepIn K (.ref C) = true
  ca : PySem.W.findIn K (.ref C) "__class__" = some (some (.builtin "object.__class__"))
  cn : PySem.W.specialIn K (.builtin "object.__class__") "__get__" = some (some (.builtin "getset_descriptor.__get__"))
  ct : PySem.W.takesIn K (.builtin "object.__class__") = some true
  cm : PySem.W.mroIn K C (.type "object") = some true
  xN : PySem.W.excIn K CN [.type "ValueError", .type "Exception", .type "BaseException", .type "object"] "ValueError.__new__" = true
  kN : PySem.W.keepIn K (.ref CN) = true
  bN : PySem.W.subIn K (.ref CN) (.type "BaseException") = some true
  tN : PySem.W.typeIn K (.ref CN) = some (.type "type")
  ne : PySem.W.findIn K (.ref C) "__ne__" = some (some (.builtin "object.__ne__"))
  s_NoneType : PySem.W.subIn K (.ref C) (.type "NoneType") = some false
  s_bool : PySem.W.subIn K (.ref C) (.type "bool") = some false
  s_int : PySem.W.subIn K (.ref C) (.type "int") = some false
  s_str : PySem.W.subIn K (.ref C) (.type "str") = some false
  s_list : PySem.W.subIn K (.ref C) (.type "list") = some false
  s_tuple : PySem.W.subIn K (.ref C) (.type "tuple") = some false
theorem all_mk {l : PySem.W.OpenLaw} {w : World} {K : PySem.W.Frag} {h : Heap} {mg : Str → Option Value} {fa : Addr} {ts : List Addr} (X : K.In h) (G : h.Ns mainGlobals mg) (hfa : mg "law" = some (.ref fa)) (ht : ∀ P ∈ ts, h.get? P = some (PySem.W.tabObj #[]))
    {C CN : Addr} (D : LeftC K C CN)
    {fI TI : Addr} {ocI : Value} {odI anI : Option Addr} {kVI dcI pmI cdI ctI : Value} {slI : Array (Option Value)} {oTI : Value} {dTI : Option Addr} {nTI : Nat} {sTI : Array (Option Value)} (FI : LeftI K C fI TI ocI odI anI kVI dcI pmI cdI ctI slI oTI dTI nTI sTI)
    {ffi : Addr} {ocfi : Value} {odfi anfi : Option Addr} {kVfi dcfi pmfi cdfi ctfi : Value} {slfi : Array (Option Value)} (Ffi : LeftM K C "first" "Stretch.first" sFirst ffi ocfi odfi anfi kVfi dcfi pmfi cdfi ctfi slfi)
    {fla : Addr} {ocla : Value} {odla anla : Option Addr} {kVla dcla pmla cdla ctla : Value} {slla : Array (Option Value)} (Fla : LeftM K C "last" "Stretch.last" sLast fla ocla odla anla kVla dcla pmla cdla ctla slla)
    {fhs : Addr} {ochs : Value} {odhs anhs : Option Addr} {kVhs dchs pmhs cdhs cths : Value} {slhs : Array (Option Value)} (Fhs : LeftM K C "has" "Stretch.has" sHas fhs ochs odhs anhs kVhs dchs pmhs cdhs cths slhs)
    {fqe : Addr} {ocqe : Value} {odqe anqe : Option Addr} {kVqe dcqe pmqe cdqe ctqe : Value} {slqe : Array (Option Value)} (Fqe : LeftM K C "__eq__" "Stretch.__eq__" sEq fqe ocqe odqe anqe kVqe dcqe pmqe cdqe ctqe slqe)
    {frp : Addr} {ocrp : Value} {odrp anrp : Option Addr} {kVrp dcrp pmrp cdrp ctrp : Value} {slrp : Array (Option Value)} (Frp : LeftM K C "__repr__" "Stretch.__repr__" sRepr frp ocrp odrp anrp kVrp dcrp pmrp cdrp ctrp slrp)
    {fmg cmg Pmg : Addr} {ocmg : Value} {odmg anmg : Option Addr} {kVmg dcmg pmmg ctmg : Value} {slmg : Array (Option Value)} {oCmg : Value} {dCmg : Option Addr} {vCmg : Array Value} {sCmg : Array (Option Value)} (Fmg : LeftL K "merged" sMerged fmg cmg Pmg ocmg odmg anmg kVmg dcmg pmmg ctmg slmg oCmg dCmg vCmg sCmg) (mmg : Pmg ∈ ts)
    {fwh : Addr} {ocwh : Value} {odwh anwh : Option Addr} {kVwh dcwh pmwh cdwh ctwh : Value} {slwh : Array (Option Value)} (Fwh : Left K "is_whole" sWhole fwh ocwh odwh anwh kVwh dcwh pmwh cdwh ctwh slwh)
    {ffr : Addr} {ocfr : Value} {odfr anfr : Option Addr} {kVfr dcfr pmfr cdfr ctfr : Value} {slfr : Array (Option Value)} (Ffr : Left K "is_from" sFrom ffr ocfr odfr anfr kVfr dcfr pmfr cdfr ctfr slfr)
    {fda : Addr} {ocda : Value} {odda anda : Option Addr} {kVda dcda pmda cdda ctda : Value} {slda : Array (Option Value)} (Fda : Left K "is_day" sDay fda ocda odda anda kVda dcda pmda cdda ctda slda)
    {fmd : Addr} {ocmd : Value} {odmd anmd : Option Addr} {kVmd dcmd pmmd cdmd ctmd : Value} {slmd : Array (Option Value)} (Fmd : Left K "many_days" sManyD fmd ocmd odmd anmd kVmd dcmd pmmd cdmd ctmd slmd)
    {fck : Addr} {occk : Value} {odck anck : Option Addr} {kVck dcck pmck cdck ctck : Value} {slck : Array (Option Value)} (Fck : Left K "check_stretches" sChk fck occk odck anck kVck dcck pmck cdck ctck slck)
    {fmt : Addr} {ocmt : Value} {odmt anmt : Option Addr} {kVmt dcmt pmmt cdmt ctmt : Value} {slmt : Array (Option Value)} (Fmt : Left K "meets" sMeets fmt ocmt odmt anmt kVmt dcmt pmmt cdmt ctmt slmt)
    {fle : Addr} {ocle : Value} {odle anle : Option Addr} {kVle dcle pmle cdle ctle : Value} {slle : Array (Option Value)} (Fle : Left K "later_end" sLater fle ocle odle anle kVle dcle pmle cdle ctle slle)
    {fce : Addr} {occe : Value} {odce ance : Option Addr} {kVce dcce pmce cdce ctce : Value} {slce : Array (Option Value)} (Fce : Left K "_law_cell" sCell fce occe odce ance kVce dcce pmce cdce ctce slce)
    {fpo : Addr} {ocpo : Value} {odpo anpo : Option Addr} {kVpo dcpo pmpo cdpo ctpo : Value} {slpo : Array (Option Value)} (Fpo : Left K "_law_pot" sPot fpo ocpo odpo anpo kVpo dcpo pmpo cdpo ctpo slpo)
    {fta : Addr} {octa : Value} {odta anta : Option Addr} {kVta dcta pmta cdta ctta : Value} {slta : Array (Option Value)} (Fta : Left K "_law_take" sTake fta octa odta anta kVta dcta pmta cdta ctta slta)
    {ffa : Addr} {ocfa : Value} {odfa anfa : Option Addr} {kVfa dcfa pmfa cdfa ctfa : Value} {slfa : Array (Option Value)} (Ffa : Left K "_law_far" sFar ffa ocfa odfa anfa kVfa dcfa pmfa cdfa ctfa slfa)
    {fro : Addr} {ocro : Value} {odro anro : Option Addr} {kVro dcro pmro cdro ctro : Value} {slro : Array (Option Value)} (Fro : Left K "_law_rows" sRows fro ocro odro anro kVro dcro pmro cdro ctro slro)
    {fha : Addr} {ocha : Value} {odha anha : Option Addr} {kVha dcha pmha cdha ctha : Value} {slha : Array (Option Value)} (Fha : Left K "_law_handed" sHanded fha ocha odha anha kVha dcha pmha cdha ctha slha)
    {fli : Addr} {ocli : Value} {odli anli : Option Addr} {kVli dcli pmli cdli ctli : Value} {slli : Array (Option Value)} (Fli : Left K "_law_in" sIn fli ocli odli anli kVli dcli pmli cdli ctli slli)
    {fmk : Addr} {ocmk : Value} {odmk anmk : Option Addr} {kVmk dcmk pmmk cdmk ctmk : Value} {slmk : Array (Option Value)} (Fmk : Left K "_law_marks" sMarks fmk ocmk odmk anmk kVmk dcmk pmmk cdmk ctmk slmk)
    {fdi : Addr} {ocdi : Value} {oddi andi : Option Addr} {kVdi dcdi pmdi cddi ctdi : Value} {sldi : Array (Option Value)} (Fdi : Left K "days_in" sDaysIn fdi ocdi oddi andi kVdi dcdi pmdi cddi ctdi sldi)
    {fei : Addr} {ocei : Value} {odei anei : Option Addr} {kVei dcei pmei cdei ctei : Value} {slei : Array (Option Value)} (Fei : Left K "either_days" sEither fei ocei odei anei kVei dcei pmei cdei ctei slei)
    {fbo : Addr} {ocbo : Value} {odbo anbo : Option Addr} {kVbo dcbo pmbo cdbo ctbo : Value} {slbo : Array (Option Value)} (Fbo : Left K "both_days" sBoth fbo ocbo odbo anbo kVbo dcbo pmbo cdbo ctbo slbo)
    {fon : Addr} {ocon : Value} {odon anon : Option Addr} {kVon dcon pmon cdon cton : Value} {slon : Array (Option Value)} (Fon : Left K "only_days" sOnly fon ocon odon anon kVon dcon pmon cdon cton slon)
    {fov : Addr} {ocov : Value} {odov anov : Option Addr} {kVov dcov pmov cdov ctov : Value} {slov : Array (Option Value)} (Fov : Left K "overlaps" sOver fov ocov odov anov kVov dcov pmov cdov ctov slov)
    {fga : Addr} {ocga : Value} {odga anga : Option Addr} {kVga dcga pmga cdga ctga : Value} {slga : Array (Option Value)} (Fga : Left K "gaps" sGaps fga ocga odga anga kVga dcga pmga cdga ctga slga)
    {fea : Addr} {ocea : Value} {odea anea : Option Addr} {kVea dcea pmea cdea ctea : Value} {slea : Array (Option Value)} (Fea : Left K "earlier_end" sEarly fea ocea odea anea kVea dcea pmea cdea ctea slea)
    {fhl : Addr} {ochl : Value} {odhl anhl : Option Addr} {kVhl dchl pmhl cdhl cthl : Value} {slhl : Array (Option Value)} (Fhl : Left K "_law_has" sHasL fhl ochl odhl anhl kVhl dchl pmhl cdhl cthl slhl)
    {fdr : Addr} {ocdr : Value} {oddr andr : Option Addr} {kVdr dcdr pmdr cddr ctdr : Value} {sldr : Array (Option Value)} (Fdr : Left K "_law_days_right" sDaysR fdr ocdr oddr andr kVdr dcdr pmdr cddr ctdr sldr)
    {fsr : Addr} {ocsr : Value} {odsr ansr : Option Addr} {kVsr dcsr pmsr cdsr ctsr : Value} {slsr : Array (Option Value)} (Fsr : Left K "_law_sums_right" sSumsR fsr ocsr odsr ansr kVsr dcsr pmsr cdsr ctsr slsr)
    {fpd : Addr} {ocpd : Value} {odpd anpd : Option Addr} {kVpd dcpd pmpd cdpd ctpd : Value} {slpd : Array (Option Value)} (Fpd : Left K "_law_parted" sParted fpd ocpd odpd anpd kVpd dcpd pmpd cdpd ctpd slpd)
    {fW : Addr} {ocW : Value} {odW anW : Option Addr} {kVW dcW pmW cdW ctW : Value} {slW : Array (Option Value)} (FW : Left K "law" sLaw fW ocW odW anW kVW dcW pmW cdW ctW slW)
    (z_isinstance : PySem.W.nsIn K mainGlobals "isinstance" = some none)
    (z_int : PySem.W.nsIn K mainGlobals "int" = some none)
    (z_bool : PySem.W.nsIn K mainGlobals "bool" = some none)
    (z_len : PySem.W.nsIn K mainGlobals "len" = some none)
    (z_abs : PySem.W.nsIn K mainGlobals "abs" = some none)
    (z_max : PySem.W.nsIn K mainGlobals "max" = some none)
    (z_min : PySem.W.nsIn K mainGlobals "min" = some none)
    (z_divmod : PySem.W.nsIn K mainGlobals "divmod" = some none)
    (z_range : PySem.W.nsIn K mainGlobals "range" = some none)
    (z_repr : PySem.W.nsIn K mainGlobals "repr" = some none)
    (z_tuple : PySem.W.nsIn K mainGlobals "tuple" = some none)
    (z_list : PySem.W.nsIn K mainGlobals "list" = some none)
    (z_sorted : PySem.W.nsIn K mainGlobals "sorted" = some none)
    (z_set : PySem.W.nsIn K mainGlobals "set" = some none)
    (z_any : PySem.W.nsIn K mainGlobals "any" = some none)
    (z_all : PySem.W.nsIn K mainGlobals "all" = some none)
    (z_sum : PySem.W.nsIn K mainGlobals "sum" = some none)
    : LawG l w K CX0 9 63 "_law_script" mg fa h := by
  have e := hfa.symm.trans (PySem.W.mg_of X G FW.ns)
  cases e
  have N : ∀ {x : Str}, PySem.W.nsIn K mainGlobals x = some none → mg x = none := fun z => PySem.W.mg_none_of X G z
  have T : Tx mg := ⟨N z_isinstance, N z_int, N z_bool, N z_len, N z_abs, N z_max, N z_min, N z_divmod, N z_range, N z_repr, N z_tuple, N z_list, N z_sorted, N z_set, N z_any, N z_all, N z_sum⟩
  have Bwh : Has K mg "is_whole" ["thing"] sWhole _ _ := ⟨Fwh.fn, Fwh.fn.binds fun _ _ _ _ _ _ us hl => match us, hl with | [_], _ => rfl, PySem.W.mg_of X G Fwh.ns⟩
  have Bfr : Has K mg "is_from" ["thing", "least"] sFrom _ _ := ⟨Ffr.fn, Ffr.fn.binds fun _ _ _ _ _ _ us hl => match us, hl with | [_, _], _ => rfl, PySem.W.mg_of X G Ffr.ns⟩
  have Bda : Has K mg "is_day" ["thing"] sDay _ _ := ⟨Fda.fn, Fda.fn.binds fun _ _ _ _ _ _ us hl => match us, hl with | [_], _ => rfl, PySem.W.mg_of X G Fda.ns⟩
  have Bmd : Has K mg "many_days" ["some"] sManyD _ _ := ⟨Fmd.fn, Fmd.fn.binds fun _ _ _ _ _ _ us hl => match us, hl with | [_], _ => rfl, PySem.W.mg_of X G Fmd.ns⟩
  have Bck : Has K mg "check_stretches" ["thing"] sChk _ _ := ⟨Fck.fn, Fck.fn.binds fun _ _ _ _ _ _ us hl => match us, hl with | [_], _ => rfl, PySem.W.mg_of X G Fck.ns⟩
  have Bmt : Has K mg "meets" ["stretch", "later"] sMeets _ _ := ⟨Fmt.fn, Fmt.fn.binds fun _ _ _ _ _ _ us hl => match us, hl with | [_, _], _ => rfl, PySem.W.mg_of X G Fmt.ns⟩
  have Ble : Has K mg "later_end" ["one", "other"] sLater _ _ := ⟨Fle.fn, Fle.fn.binds fun _ _ _ _ _ _ us hl => match us, hl with | [_, _], _ => rfl, PySem.W.mg_of X G Fle.ns⟩
  have Bce : Has K mg "_law_cell" ["_law_script", "_law_k"] sCell _ _ := ⟨Fce.fn, Fce.fn.binds fun _ _ _ _ _ _ us hl => match us, hl with | [_, _], _ => rfl, PySem.W.mg_of X G Fce.ns⟩
  have Bpo : Has K mg "_law_pot" ["_law_script", "_law_k"] sPot _ _ := ⟨Fpo.fn, Fpo.fn.binds fun _ _ _ _ _ _ us hl => match us, hl with | [_, _], _ => rfl, PySem.W.mg_of X G Fpo.ns⟩
  have Bta : Has K mg "_law_take" ["_law_pot_here", "_law_room"] sTake _ _ := ⟨Fta.fn, Fta.fn.binds fun _ _ _ _ _ _ us hl => match us, hl with | [_, _], _ => rfl, PySem.W.mg_of X G Fta.ns⟩
  have Bfa : Has K mg "_law_far" ["_law_pot_here"] sFar _ _ := ⟨Ffa.fn, Ffa.fn.binds fun _ _ _ _ _ _ us hl => match us, hl with | [_], _ => rfl, PySem.W.mg_of X G Ffa.ns⟩
  have Bro : Has K mg "_law_rows" ["_law_pot_here", "_law_most"] sRows _ _ := ⟨Fro.fn, Fro.fn.binds fun _ _ _ _ _ _ us hl => match us, hl with | [_, _], _ => rfl, PySem.W.mg_of X G Fro.ns⟩
  have Bha : Has K mg "_law_handed" ["_law_pot_here", "_law_rows_here"] sHanded _ _ := ⟨Fha.fn, Fha.fn.binds fun _ _ _ _ _ _ us hl => match us, hl with | [_, _], _ => rfl, PySem.W.mg_of X G Fha.ns⟩
  have Bli : Has K mg "_law_in" ["_law_rows_here", "_law_day"] sIn _ _ := ⟨Fli.fn, Fli.fn.binds fun _ _ _ _ _ _ us hl => match us, hl with | [_, _], _ => rfl, PySem.W.mg_of X G Fli.ns⟩
  have Bmk : Has K mg "_law_marks" ["_law_rows_here"] sMarks _ _ := ⟨Fmk.fn, Fmk.fn.binds fun _ _ _ _ _ _ us hl => match us, hl with | [_], _ => rfl, PySem.W.mg_of X G Fmk.ns⟩
  have Bdi : Has K mg "days_in" ["some"] sDaysIn _ _ := ⟨Fdi.fn, Fdi.fn.binds fun _ _ _ _ _ _ us hl => match us, hl with | [_], _ => rfl, PySem.W.mg_of X G Fdi.ns⟩
  have Bei : Has K mg "either_days" ["some", "others"] sEither _ _ := ⟨Fei.fn, Fei.fn.binds fun _ _ _ _ _ _ us hl => match us, hl with | [_, _], _ => rfl, PySem.W.mg_of X G Fei.ns⟩
  have Bbo : Has K mg "both_days" ["some", "others"] sBoth _ _ := ⟨Fbo.fn, Fbo.fn.binds fun _ _ _ _ _ _ us hl => match us, hl with | [_, _], _ => rfl, PySem.W.mg_of X G Fbo.ns⟩
  have Bon : Has K mg "only_days" ["some", "others"] sOnly _ _ := ⟨Fon.fn, Fon.fn.binds fun _ _ _ _ _ _ us hl => match us, hl with | [_, _], _ => rfl, PySem.W.mg_of X G Fon.ns⟩
  have Bov : Has K mg "overlaps" ["some", "others"] sOver _ _ := ⟨Fov.fn, Fov.fn.binds fun _ _ _ _ _ _ us hl => match us, hl with | [_, _], _ => rfl, PySem.W.mg_of X G Fov.ns⟩
  have Bga : Has K mg "gaps" ["stretches"] sGaps _ _ := ⟨Fga.fn, Fga.fn.binds fun _ _ _ _ _ _ us hl => match us, hl with | [_], _ => rfl, PySem.W.mg_of X G Fga.ns⟩
  have Bea : Has K mg "earlier_end" ["one", "other"] sEarly _ _ := ⟨Fea.fn, Fea.fn.binds fun _ _ _ _ _ _ us hl => match us, hl with | [_, _], _ => rfl, PySem.W.mg_of X G Fea.ns⟩
  have Bhl : Has K mg "_law_has" ["_law_told", "_law_day"] sHasL _ _ := ⟨Fhl.fn, Fhl.fn.binds fun _ _ _ _ _ _ us hl => match us, hl with | [_, _], _ => rfl, PySem.W.mg_of X G Fhl.ns⟩
  have Bdr : Has K mg "_law_days_right" ["_law_some", "_law_others", "_law_rows_here", "_law_more", "_law_days"] sDaysR _ _ := ⟨Fdr.fn, Fdr.fn.binds fun _ _ _ _ _ _ us hl => match us, hl with | [_, _, _, _, _], _ => rfl, PySem.W.mg_of X G Fdr.ns⟩
  have Bsr : Has K mg "_law_sums_right" ["_law_some", "_law_others"] sSumsR _ _ := ⟨Fsr.fn, Fsr.fn.binds fun _ _ _ _ _ _ us hl => match us, hl with | [_, _], _ => rfl, PySem.W.mg_of X G Fsr.ns⟩
  have Bpd : Has K mg "_law_parted" ["_law_pot_here", "_law_rows_here"] sParted _ _ := ⟨Fpd.fn, Fpd.fn.binds fun _ _ _ _ _ _ us hl => match us, hl with | [_, _], _ => rfl, PySem.W.mg_of X G Fpd.ns⟩
  have bmg : L2.Binds K _ ["stretches"] [] := Fmg.fn.fn.binds fun _ _ _ _ _ _ us hl => match us, hl with | [_], _ => rfl
  have bfi : L2.Binds K _ ["self"] [] := Ffi.fn.binds fun _ _ _ _ _ _ us hl => match us, hl with | [_], _ => rfl
  have bla : L2.Binds K _ ["self"] [] := Fla.fn.binds fun _ _ _ _ _ _ us hl => match us, hl with | [_], _ => rfl
  have bhs : L2.Binds K _ ["self", "day"] [] := Fhs.fn.binds fun _ _ _ _ _ _ us hl => match us, hl with | [_, _], _ => rfl
  have bqe : L2.Binds K _ ["self", "other"] [] := Fqe.fn.binds fun _ _ _ _ _ _ us hl => match us, hl with | [_, _], _ => rfl
  have brp : L2.Binds K _ ["self"] [] := Frp.fn.binds fun _ _ _ _ _ _ us hl => match us, hl with | [_], _ => rfl
  obtain ⟨dI, vI, bI⟩ := FI.fn.binds1 (ps := ["self", "first", "last"]) 3 1 (by simp) (by rfl) (fun _ _ _ _ _ _ _ us its h1 h2 => match us, its, h1, h2 with | [_, _, _], [_], _, _ => ⟨_, rfl, rfl⟩)
  cases vI
  have Z : Ct K mg C CN := ⟨⟨D.pg, D.hd, D.po, D.sa⟩, D.nF, D.nL, PySem.W.mg_of X G D.nC, D.kC, D.ca, D.cn, D.ct, D.cm, PySem.W.mg_of X G D.n_NoDay, D.xN, D.kN, D.bN, D.tN⟩
  have S1 : Pm K mg C CN := ⟨⟨⟨_, _, Ffi.fn, bfi, Ffi.me⟩, ⟨_, _, Fla.fn, bla, Fla.me⟩, Z⟩, ⟨_, _, Bda⟩, ⟨_, _, ⟨Bwh, _, _, Bfr⟩⟩, ⟨_, _, ⟨FI.mks, FI.at_, FI.isf, D.kC⟩, FI.fn, bI⟩, ⟨_, _, Bmt⟩, ⟨_, _, Ble⟩, ⟨_, _, Bck⟩, kit_self⟩
  have EC : EqC K C fqe := ⟨Fqe.at_, Fqe.isf, D.ne, D.cm, D.s_NoneType, D.s_bool, D.s_int, D.s_str, D.s_list, D.s_tuple⟩
  have S2 : Pv K mg C CN cmg := ⟨⟨⟨S1, ⟨_, _, Bea⟩⟩, ⟨_, _, Bov⟩, ⟨_, _, Bga⟩, ⟨_, _, Fmg.fn, bmg, PySem.W.mg_of X G Fmg.ns⟩⟩, ⟨_, _, Fhs.fn, bhs, Fhs.me⟩, ⟨_, _, EC, Fqe.fn, bqe⟩, ⟨_, _, Frp.fn, brp, Frp.me⟩, ⟨_, _, Bdi⟩, ⟨_, _, Bei⟩, ⟨_, _, Bbo⟩, ⟨_, _, Bon⟩, ⟨_, _, Bmd⟩⟩
  have S : Fs K mg C CN cmg cmg := ⟨S2, ⟨_, _, Bce⟩, ⟨_, _, Bpo⟩, ⟨_, _, Bta⟩, ⟨_, _, Bfa⟩, ⟨_, _, Bro⟩, ⟨_, _, Bha⟩, ⟨_, _, Bli⟩, ⟨_, _, Bmk⟩, ⟨_, _, Bhl⟩, ⟨_, _, Bdr⟩, ⟨_, _, Bsr⟩, ⟨_, _, Bpd⟩⟩
  have hT : ∀ p ∈ ([(cmg, Pmg)] : List (Addr × Addr)), h.get? p.2 = some { cls := .none, data := .fields #[] } := List.forall_mem_cons.mpr ⟨ht _ mmg, fun _ z => nomatch z⟩
  have nT : ∀ p ∈ ([(cmg, Pmg)] : List (Addr × Addr)), K.lookup p.2 = none := List.forall_mem_cons.mpr ⟨Fmg.nP, fun _ z => nomatch z⟩
  have hC : ∀ p ∈ ([(cmg, Pmg)] : List (Addr × Addr)), PySem.W.CodeHd h p.1 p.2 := List.forall_mem_cons.mpr ⟨PySem.W.codeHd_of_K X Fmg.hd, fun _ z => nomatch z⟩
  refine ⟨_, _, spLaw K Pmg Pmg, hT, nT, hC, fun s v => .of_eq rfl, fun H a ns hl hH hS => ⟨a, ns, rfl, hS, hl, fun p hp => ?_, fun _ => rfl⟩, fun base _ _ TB => ok_law (cY := cmg) FW.fn T S ⟨TB _ (.head _)⟩⟩
  rw [List.mem_singleton.mp hp]
  exact TabS.nil (hH _ (.head _))
end K17
open PySem PySem.W PyProof.Rows
set_option maxHeartbeats 0 in
theorem PySem.Challenge.cw_lightturns_k17_whole_days_one_way_holds : PySem.Challenge.rw_lightturns_k17_whole_days_one_way.Holds := by
  w_on; o_law; k_head; (case hw => w_witness2)
  k_fill
  refine LT.end_ofG (l := PySem.Challenge.rw_lightturns_k17_whole_days_one_way) (n := 63) (k := 9) (x := "_law_script") (CX := fun _ => L2.CX0) rfl (by decide) rfl ⟨rfl, by decide, by decide⟩ (fun w h Y => PySem.W.km_in_of Y) ?F (fun _ _ _ _ _ h => h)
  case F =>
    intro w mg fa h Y KX G hmg
    refine' K17.all_mk KX G hmg (PySem.W.km_tabs_of Y) ⟨?d_nC, ?d_n_NoDay, ?d_pg, ?d_hd, ?d_po, ?d_sa, ?d_nF, ?d_nL, ?d_kC, ?d_ca, ?d_cn, ?d_ct, ?d_cm, ?d_xN, ?d_kN, ?d_bN, ?d_tN, ?d_ne, ?d_s_NoneType, ?d_s_bool, ?d_s_int, ?d_s_str, ?d_s_list, ?d_s_tuple⟩ ⟨?i_at, ?i_lk, ?i_cd, ?i_kp, ?i_isf, ?i_lT, ?i_mks⟩ ⟨?m_fi_at, ?m_fi_lk, ?m_fi_cd, ?m_fi_kp, ?m_fi_isf⟩ ⟨?m_la_at, ?m_la_lk, ?m_la_cd, ?m_la_kp, ?m_la_isf⟩ ⟨?m_hs_at, ?m_hs_lk, ?m_hs_cd, ?m_hs_kp, ?m_hs_isf⟩ ⟨?m_qe_at, ?m_qe_lk, ?m_qe_cd, ?m_qe_kp, ?m_qe_isf⟩ ⟨?m_rp_at, ?m_rp_lk, ?m_rp_cd, ?m_rp_kp, ?m_rp_isf⟩ ⟨?l_mg_ns, ?l_mg_lk, ?l_mg_cd, ?l_mg_kp, ?l_mg_lC, ?l_mg_vP, ?l_mg_hd, ?l_mg_nP⟩ ?t_mg ⟨?f_wh_ns, ?f_wh_lk, ?f_wh_cd, ?f_wh_kp⟩ ⟨?f_fr_ns, ?f_fr_lk, ?f_fr_cd, ?f_fr_kp⟩ ⟨?f_da_ns, ?f_da_lk, ?f_da_cd, ?f_da_kp⟩ ⟨?f_md_ns, ?f_md_lk, ?f_md_cd, ?f_md_kp⟩ ⟨?f_ck_ns, ?f_ck_lk, ?f_ck_cd, ?f_ck_kp⟩ ⟨?f_mt_ns, ?f_mt_lk, ?f_mt_cd, ?f_mt_kp⟩ ⟨?f_le_ns, ?f_le_lk, ?f_le_cd, ?f_le_kp⟩ ⟨?f_ce_ns, ?f_ce_lk, ?f_ce_cd, ?f_ce_kp⟩ ⟨?f_po_ns, ?f_po_lk, ?f_po_cd, ?f_po_kp⟩ ⟨?f_ta_ns, ?f_ta_lk, ?f_ta_cd, ?f_ta_kp⟩ ⟨?f_fa_ns, ?f_fa_lk, ?f_fa_cd, ?f_fa_kp⟩ ⟨?f_ro_ns, ?f_ro_lk, ?f_ro_cd, ?f_ro_kp⟩ ⟨?f_ha_ns, ?f_ha_lk, ?f_ha_cd, ?f_ha_kp⟩ ⟨?f_li_ns, ?f_li_lk, ?f_li_cd, ?f_li_kp⟩ ⟨?f_mk_ns, ?f_mk_lk, ?f_mk_cd, ?f_mk_kp⟩ ⟨?f_di_ns, ?f_di_lk, ?f_di_cd, ?f_di_kp⟩ ⟨?f_ei_ns, ?f_ei_lk, ?f_ei_cd, ?f_ei_kp⟩ ⟨?f_bo_ns, ?f_bo_lk, ?f_bo_cd, ?f_bo_kp⟩ ⟨?f_on_ns, ?f_on_lk, ?f_on_cd, ?f_on_kp⟩ ⟨?f_ov_ns, ?f_ov_lk, ?f_ov_cd, ?f_ov_kp⟩ ⟨?f_ga_ns, ?f_ga_lk, ?f_ga_cd, ?f_ga_kp⟩ ⟨?f_ea_ns, ?f_ea_lk, ?f_ea_cd, ?f_ea_kp⟩ ⟨?f_hl_ns, ?f_hl_lk, ?f_hl_cd, ?f_hl_kp⟩ ⟨?f_dr_ns, ?f_dr_lk, ?f_dr_cd, ?f_dr_kp⟩ ⟨?f_sr_ns, ?f_sr_lk, ?f_sr_cd, ?f_sr_kp⟩ ⟨?f_pd_ns, ?f_pd_lk, ?f_pd_cd, ?f_pd_kp⟩ ⟨?f_W_ns, ?f_W_lk, ?f_W_cd, ?f_W_kp⟩ ?z_isinstance ?z_int ?z_bool ?z_len ?z_abs ?z_max ?z_min ?z_divmod ?z_range ?z_repr ?z_tuple ?z_list ?z_sorted ?z_set ?z_any ?z_all ?z_sum
    (case d_nC => k_is)
    (case d_n_NoDay => k_is)
    (case d_pg => k_is)
    (case d_hd => k_is)
    (case d_po => k_is)
    (case d_sa => k_is)
    (case d_nF => k_is)
    (case d_nL => k_is)
    (case d_kC => k_is)
    (case d_ca => k_is)
    (case d_cn => k_is)
    (case d_ct => k_is)
    (case d_cm => k_is)
    (case d_xN => k_exc)
    (case d_kN => k_is)
    (case d_bN => k_is)
    (case d_tN => k_is)
    (case d_ne => k_is)
    (case d_s_NoneType => k_is)
    (case d_s_bool => k_is)
    (case d_s_int => k_is)
    (case d_s_str => k_is)
    (case d_s_list => k_is)
    (case d_s_tuple => k_is)
    (case i_at => k_is)
    (case i_lk => k_is)
    (case i_cd => k_is)
    (case i_kp => k_is)
    (case i_isf => k_is)
    (case i_lT => k_is)
    (case i_mks => k_is)
    (case m_fi_at => k_is)
    (case m_fi_lk => k_is)
    (case m_fi_cd => k_is)
    (case m_fi_kp => k_is)
    (case m_fi_isf => k_is)
    (case m_la_at => k_is)
    (case m_la_lk => k_is)
    (case m_la_cd => k_is)
    (case m_la_kp => k_is)
    (case m_la_isf => k_is)
    (case m_hs_at => k_is)
    (case m_hs_lk => k_is)
    (case m_hs_cd => k_is)
    (case m_hs_kp => k_is)
    (case m_hs_isf => k_is)
    (case m_qe_at => k_is)
    (case m_qe_lk => k_is)
    (case m_qe_cd => k_is)
    (case m_qe_kp => k_is)
    (case m_qe_isf => k_is)
    (case m_rp_at => k_is)
    (case m_rp_lk => k_is)
    (case m_rp_cd => k_is)
    (case m_rp_kp => k_is)
    (case m_rp_isf => k_is)
    (case l_mg_ns => k_is)
    (case l_mg_lk => k_is)
    (case l_mg_cd => k_is)
    (case l_mg_kp => k_is)
    (case l_mg_lC => k_is)
    (case l_mg_vP => rfl)
    (case l_mg_hd => kernel_rfl)
    (case l_mg_nP => kernel_rfl)
    (case t_mg => k_mem)
    (case f_wh_ns => k_is)
    (case f_wh_lk => k_is)
    (case f_wh_cd => k_is)
    (case f_wh_kp => k_is)
    (case f_fr_ns => k_is)
    (case f_fr_lk => k_is)
    (case f_fr_cd => k_is)
    (case f_fr_kp => k_is)
    (case f_da_ns => k_is)
    (case f_da_lk => k_is)
    (case f_da_cd => k_is)
    (case f_da_kp => k_is)
    (case f_md_ns => k_is)
    (case f_md_lk => k_is)
    (case f_md_cd => k_is)
    (case f_md_kp => k_is)
    (case f_ck_ns => k_is)
    (case f_ck_lk => k_is)
    (case f_ck_cd => k_is)
    (case f_ck_kp => k_is)
    (case f_mt_ns => k_is)
    (case f_mt_lk => k_is)
    (case f_mt_cd => k_is)
    (case f_mt_kp => k_is)
    (case f_le_ns => k_is)
    (case f_le_lk => k_is)
    (case f_le_cd => k_is)
    (case f_le_kp => k_is)
    (case f_ce_ns => k_is)
    (case f_ce_lk => k_is)
    (case f_ce_cd => k_is)
    (case f_ce_kp => k_is)
    (case f_po_ns => k_is)
    (case f_po_lk => k_is)
    (case f_po_cd => k_is)
    (case f_po_kp => k_is)
    (case f_ta_ns => k_is)
    (case f_ta_lk => k_is)
    (case f_ta_cd => k_is)
    (case f_ta_kp => k_is)
    (case f_fa_ns => k_is)
    (case f_fa_lk => k_is)
    (case f_fa_cd => k_is)
    (case f_fa_kp => k_is)
    (case f_ro_ns => k_is)
    (case f_ro_lk => k_is)
    (case f_ro_cd => k_is)
    (case f_ro_kp => k_is)
    (case f_ha_ns => k_is)
    (case f_ha_lk => k_is)
    (case f_ha_cd => k_is)
    (case f_ha_kp => k_is)
    (case f_li_ns => k_is)
    (case f_li_lk => k_is)
    (case f_li_cd => k_is)
    (case f_li_kp => k_is)
    (case f_mk_ns => k_is)
    (case f_mk_lk => k_is)
    (case f_mk_cd => k_is)
    (case f_mk_kp => k_is)
    (case f_di_ns => k_is)
    (case f_di_lk => k_is)
    (case f_di_cd => k_is)
    (case f_di_kp => k_is)
    (case f_ei_ns => k_is)
    (case f_ei_lk => k_is)
    (case f_ei_cd => k_is)
    (case f_ei_kp => k_is)
    (case f_bo_ns => k_is)
    (case f_bo_lk => k_is)
    (case f_bo_cd => k_is)
    (case f_bo_kp => k_is)
    (case f_on_ns => k_is)
    (case f_on_lk => k_is)
    (case f_on_cd => k_is)
    (case f_on_kp => k_is)
    (case f_ov_ns => k_is)
    (case f_ov_lk => k_is)
    (case f_ov_cd => k_is)
    (case f_ov_kp => k_is)
    (case f_ga_ns => k_is)
    (case f_ga_lk => k_is)
    (case f_ga_cd => k_is)
    (case f_ga_kp => k_is)
    (case f_ea_ns => k_is)
    (case f_ea_lk => k_is)
    (case f_ea_cd => k_is)
    (case f_ea_kp => k_is)
    (case f_hl_ns => k_is)
    (case f_hl_lk => k_is)
    (case f_hl_cd => k_is)
    (case f_hl_kp => k_is)
    (case f_dr_ns => k_is)
    (case f_dr_lk => k_is)
    (case f_dr_cd => k_is)
    (case f_dr_kp => k_is)
    (case f_sr_ns => k_is)
    (case f_sr_lk => k_is)
    (case f_sr_cd => k_is)
    (case f_sr_kp => k_is)
    (case f_pd_ns => k_is)
    (case f_pd_lk => k_is)
    (case f_pd_cd => k_is)
    (case f_pd_kp => k_is)
    (case f_W_ns => k_is)
    (case f_W_lk => k_is)
    (case f_W_cd => k_is)
    (case f_W_kp => k_is)
    (case z_isinstance => k_is)
    (case z_int => k_is)
    (case z_bool => k_is)
    (case z_len => k_is)
    (case z_abs => k_is)
    (case z_max => k_is)
    (case z_min => k_is)
    (case z_divmod => k_is)
    (case z_range => k_is)
    (case z_repr => k_is)
    (case z_tuple => k_is)
    (case z_list => k_is)
    (case z_sorted => k_is)
    (case z_set => k_is)
    (case z_any => k_is)
    (case z_all => k_is)
    (case z_sum => k_is)

